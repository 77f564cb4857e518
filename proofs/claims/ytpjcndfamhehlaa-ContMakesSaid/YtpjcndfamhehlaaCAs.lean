/- (*set).as, (*set).best. -/
import Derived.Test.YtpjcndfamhehlaaCArr
import Derived.Test.YtpjcndfamhehlaaCRun
namespace Go.Proofs.Ytpjcndfamhehlaa
open Go.RowKit

/-- What a call of as answers. -/
def okF (f : Int) : Prop := 1 ≤ f ∧ f ≤ 3
instance (f : Int) : Decidable (okF f) := by unfold okF; infer_instance
def asV (s : Bs) (f : Int) : Value := if okF f then .tuple #[contV f (formS s f.toNat), .int .i64 0] else .tuple #[contV 0 [], .int .i64 60]
/-- The result's cell, over the walk. -/
def ResSt (w wr : World) : Prop := Blk wr w.heap.size 23 #[.int .i64 0, .string ⟨#[]⟩] ∧ Below w.heap.size w wr
theorem ResSt.start (w : World) : ResSt w (w.alloc (.cells #[.int .i64 0, .string ⟨#[]⟩] 23)) := ⟨Blk.new w _ _, (Below.refl _ w).alloc (Nat.le_refl _) _⟩
theorem ResSt.under {w wr w2 : World} (h : ResSt w wr) (hb : Below wr.heap.size wr w2) : ResSt w w2 := ⟨h.1.under hb, h.2.trans (hb.mono h.2.size)⟩
theorem ResSt.done {w wr : World} (h : ResSt w wr) (x y : Value) : Blk ((wr.setCell ⟨w.heap.size, 0, none⟩ x).setCell ⟨w.heap.size, 1, none⟩ y) w.heap.size 23 #[x, y] ∧ Below w.heap.size w ((wr.setCell ⟨w.heap.size, 0, none⟩ x).setCell ⟨w.heap.size, 1, none⟩ y) :=
  ⟨h.1.set2 x y, (h.2.setCell (Nat.le_refl _) _).setCell (Nat.le_refl _) _⟩
theorem conv_set {w : World} {B : Nat} {s : Bs} (h : Blk w B 48 (scl s)) : (convert 69 9 (.slice (some ⟨B, 0, none⟩) 32 32)).run Try.prog w = .ok (.string ⟨(bitsTo s 256).toArray⟩) w := by
  have := run_convert_bytes_back w 69 9 5 ⟨B, 0, none⟩ 32 (bitsTo s 256) Try.underlying69 Try.underlying5 Try.underlying9 (fun j hj => by
    have hj' : j < 32 := by rw [bitsTo_length] at hj; exact hj
    rw [show (⟨B, 0, none⟩ : Addr).add j = ⟨B, j, none⟩ by unfold Addr.add; split <;> simp_all, h.cell j, scl_get hj']
    have e : ((UInt8.ofNat (byteS s 256 j)).toNat : Int) = byteS s 256 j := by rw [ofNat_toNat _ (byteS_lt s 256 j)]
    rw [← e]
    simp only [bitsTo, List.getElem_map, List.getElem_range])
  rwa [bitsTo_length] at this

set_option maxRecDepth 100000 in
set_option maxHeartbeats 4000000 in
theorem as_any (B : Nat) (s : Bs) (f : Int) (hf1 : -9223372036854775808 ≤ f) (hf2 : f ≤ 9223372036854775807) (w : World) (bB : Blk w B 48 (scl s)) :
    Calls Try.prog 42 #[.pointer (some ⟨B, 0, none⟩), .int .i64 f] w fun e w' => e = .returned (asV s f) ∧ Below w.heap.size w w' := by
  have hS0 := ResSt.start w
  have bB0 := bB.under hS0.2
  have hBlt := bB.lt
  have HS0 := Lib.hid hS0
  have c0 := hS0.1.cell 0; have c1 := hS0.1.cell 1; have f0 := hS0.1.frozen 0; have f1 := hS0.1.frozen 1
  dsimp at c0 c1
  clear bB hS0
  by_cases h1 : f = 1
  · have HV : Hid (asV s f = .tuple #[.agg #[.int .i64 1, .string ⟨(arrTo s 256).toArray⟩], .int .i64 0]) := Lib.hid (by subst h1; rfl)
    subst h1
    have HA := Lib.hid (asArray_any B s _ bB0)
    go_enter Try.func42, Try.ntmps42
    go_wp2_with fail
    refine HA.out.mono ?_
    rintro e w1 ⟨v, rfl, hown, hb1⟩
    have hS1 := HS0.out.under hb1
    have hcv := conv_own hown rfl
    have c0 := hS1.1.cell 0; have c1 := hS1.1.cell 1; have f0 := hS1.1.frozen 0; have f1 := hS1.1.frozen 1
    dsimp at c0 c1
    have hD := hS1.done (.int .i64 1) (.string ⟨(arrTo s 256).toArray⟩)
    clear hown hS1 hb1
    go_wp2
    exact ret_cont2 rfl rfl hD.1 rfl ⟨by rw [HV.out]; rfl, hD.2⟩
  by_cases h2 : f = 2
  · have HV : Hid (asV s f = .tuple #[.agg #[.int .i64 2, .string ⟨(bitsTo s 256).toArray⟩], .int .i64 0]) := Lib.hid (by subst h2; rfl)
    subst h2
    have hcv := conv_set bB0
    have hD : Blk (w.alloc (.cells #[.int .i64 2, .string ⟨(bitsTo s 256).toArray⟩] 23)) w.heap.size 23 #[.int .i64 2, .string ⟨(bitsTo s 256).toArray⟩] ∧ Below w.heap.size w (w.alloc (.cells #[.int .i64 2, .string ⟨(bitsTo s 256).toArray⟩] 23)) := ⟨Blk.new w _ _, (Below.refl _ w).alloc (Nat.le_refl _) _⟩
    clear h1
    go_enter Try.func42, Try.ntmps42
    go_wp2
    exact ret_cont2 rfl rfl hD.1 rfl ⟨by rw [HV.out]; rfl, hD.2⟩
  by_cases h3 : f = 3
  · have HV : Hid (asV s f = .tuple #[.agg #[.int .i64 3, .string ⟨(flat (runTo s 256)).toArray⟩], .int .i64 0]) := Lib.hid (by subst h3; rfl)
    subst h3
    have HA := Lib.hid (asRuns_any B s _ bB0)
    clear h1 h2
    go_enter Try.func42, Try.ntmps42
    go_wp2_with fail
    refine HA.out.mono ?_
    rintro e w1 ⟨v, rfl, hown, hb1⟩
    have hS1 := HS0.out.under hb1
    have hcv := conv_own hown rfl
    have c0 := hS1.1.cell 0; have c1 := hS1.1.cell 1; have f0 := hS1.1.frozen 0; have f1 := hS1.1.frozen 1
    dsimp at c0 c1
    have hD := hS1.done (.int .i64 3) (.string ⟨(flat (runTo s 256)).toArray⟩)
    clear hown hS1 hb1
    go_wp2
    exact ret_cont2 rfl rfl hD.1 rfl ⟨by rw [HV.out]; rfl, hD.2⟩
  have HV : Hid (asV s f = .tuple #[.agg #[.int .i64 0, .string ⟨#[]⟩], .int .i64 60]) := Lib.hid (by unfold asV; rw [if_neg (by unfold okF; omega)]; rfl)
  have h1' : (f == 1) = false := by simpa using h1
  have h2' : (f == 2) = false := by simpa using h2
  have h3' : (f == 3) = false := by simpa using h3
  have hD : Blk (w.alloc (.cells #[.int .i64 0, .string ⟨#[]⟩] 23)) w.heap.size 23 #[.int .i64 0, .string ⟨#[]⟩] ∧ Below w.heap.size w (w.alloc (.cells #[.int .i64 0, .string ⟨#[]⟩] 23)) := ResSt.start w
  clear h1 h2 h3
  go_enter Try.func42, Try.ntmps42
  go_wp2
  exact ret_cont2 rfl rfl hD.1 rfl ⟨by rw [HV.out]; rfl, hD.2⟩
end Go.Proofs.Ytpjcndfamhehlaa
