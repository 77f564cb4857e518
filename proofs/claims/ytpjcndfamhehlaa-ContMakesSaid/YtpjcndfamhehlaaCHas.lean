/- cont.Make, Has. -/
import Derived.Test.YtpjcndfamhehlaaCFun
import Derived.Test.YtpjcndfamhehlaaCEql
namespace Go.Proofs.Ytpjcndfamhehlaa
open Go.RowKit

/-- What Make answers. -/
def makeV (zs : List Int) : Value := if ∀ z ∈ zs, goodZ z = true then .tuple #[contV (bestF (ofL zs) : Nat) (bestD (ofL zs)), .int .i64 0] else .tuple #[contV 0 [], .int .i64 60]

set_option maxRecDepth 100000 in
set_option maxHeartbeats 1000000 in
theorem make_any (x : Option Addr) (len cap : Nat) (zs : List Int) (hlen : zs.length = len) (hcm : len ≤ 9223372036854775807) (hz64 : In64 zs) (w : World) (hI : Ints w.heap.size w (.slice x len cap) zs) :
    Calls Try.prog 13 #[.slice x len cap] w fun e w' => e = .returned (makeV zs) ∧ Below w.heap.size w w' := by
  have hz := zero_set
  have hss := scl_size
  have hB0 : Below w.heap.size w ((w.alloc (.cells #[.int .i64 0, .string ⟨#[]⟩] 23)).alloc (.cells (scl fun _ => false) 48)) := ((Below.refl _ w).alloc (Nat.le_refl _) _).alloc (by simp) _
  have bR : Blk ((w.alloc (.cells #[.int .i64 0, .string ⟨#[]⟩] 23)).alloc (.cells (scl fun _ => false) 48)) (w.heap.size) 23 #[.int .i64 0, .string ⟨#[]⟩] := (Blk.new w _ _).alloc _
  have bS : Blk ((w.alloc (.cells #[.int .i64 0, .string ⟨#[]⟩] 23)).alloc (.cells (scl fun _ => false) 48)) (w.heap.size + 1) 48 (scl fun _ => false) := by
    have := Blk.new (w.alloc (.cells #[.int .i64 0, .string ⟨#[]⟩] 23)) 48 (scl fun _ => false)
    rwa [World.size_alloc] at this
  have hIx : ∀ a, x = some a → 0 < len → a.block ≠ w.heap.size + 1 := fun a e hl => by
    subst e
    obtain ⟨b1, o1, e1, hb1, _⟩ := hI.at_ hl
    cases e1
    show b1 ≠ _
    omega
  have HP := Lib.hid (put_any (w.heap.size + 1) (fun _ => false) x len cap zs hlen hcm hz64 _ ((hI.below hB0).more hB0.size) hIx bS)
  have hbnd : ∀ z ∈ zs, goodZ z = true → True := fun _ _ _ => trivial
  clear bS hIx hI hz64 hlen hbnd
  go_enter Try.func13, Try.ntmps13
  go_wp2_with fail
  refine HP.out.mono ?_
  rintro e w1 ⟨hg, ⟨hgood, rfl, hb⟩ | ⟨hgood, rfl, t, hb, _, _⟩⟩
  · have hB1 : Below w.heap.size w w1 := hB0.trans (grown_below hg (by omega) hB0.size)
    have bR1 := bR.grown hg (by omega)
    rw [none_or] at hb
    have HA := Lib.hid (best_any (w.heap.size + 1) (ofL zs) w1 hb)
    have HV : Hid (makeV zs = .tuple #[.agg #[.int .i64 (bestF (ofL zs) : Nat), .string ⟨(bestD (ofL zs)).toArray⟩], .int .i64 0]) := Lib.hid (by unfold makeV; rw [if_pos hgood]; rfl)
    unfold contV at HA
    clear hg hgood hb bR
    generalize bestF (ofL zs) = q at *
    generalize bestD (ofL zs) = dq at *
    go_wp2_with fail
    refine HA.out.mono ?_
    rintro e w2 ⟨rfl, hb2⟩
    have hB2 := hB1.trans (hb2.mono hB1.size)
    have bR2 := bR1.under hb2
    have c0 := bR2.cell 0; have c1 := bR2.cell 1; have f0 := bR2.frozen 0; have f1 := bR2.frozen 1
    dsimp at c0 c1
    have hE := bR2.set2 (.int .i64 q) (.string ⟨dq.toArray⟩)
    have hB4 := (hB2.setCell (p := ⟨w.heap.size, 0, none⟩) (by simp) (.int .i64 q)).setCell (p := ⟨w.heap.size, 1, none⟩) (by simp) (.string ⟨dq.toArray⟩)
    clear bR1 bR2
    go_wp2
    exact ret_cont2 rfl rfl hE rfl ⟨by rw [HV.out]; rfl, hB4⟩
  · have hB1 : Below w.heap.size w w1 := hB0.trans (grown_below hg (by omega) hB0.size)
    have bR1 := bR.grown hg (by omega)
    have HV : Hid (makeV zs = .tuple #[.agg #[.int .i64 0, .string ⟨#[]⟩], .int .i64 60]) := Lib.hid (by unfold makeV; rw [if_neg hgood]; rfl)
    have c0 := bR1.cell 0; have c1 := bR1.cell 1; have f0 := bR1.frozen 0; have f1 := bR1.frozen 1
    dsimp at c0 c1
    have hE := bR1.set2 (.int .i64 0) (.string ⟨#[]⟩)
    have hB4 := (hB1.setCell (p := ⟨w.heap.size, 0, none⟩) (by simp) (.int .i64 0)).setCell (p := ⟨w.heap.size, 1, none⟩) (by simp) (.string ⟨#[]⟩)
    clear hg hgood hb bR bR1
    go_wp2
    exact ret_cont2 rfl rfl hE rfl ⟨by rw [HV.out]; rfl, hB4⟩

theorem setRow_new1 (w : World) (o : Obj) (t : TypeId) (a b : Array Value) : ((w.alloc o).alloc (.cells a t)).setRow (w.heap.size + 1) b = (w.alloc o).alloc (.cells b t) := by
  have := setRow_new (w.alloc o) t a b
  rwa [World.size_alloc] at this
theorem st_new1 (w : World) (o : Obj) (t : Bs) : (storeCells ⟨w.heap.size + 1, 0, none⟩ (scl t).toList).run Try.prog ((w.alloc o).alloc (.cells (scl fun _ => false) 48)) = .ok () ((w.alloc o).alloc (.cells (scl t) 48)) := by
  have := st_new (w.alloc o) t
  rwa [World.size_alloc] at this
theorem same_put {s : Bs} {k : Nat} (hk : k < 256) : sameB (put1 s k true) s = s k := by
  rw [Bool.eq_iff_iff, sameB_iff]
  constructor
  · intro h
    have := h k hk
    unfold put1 at this
    rw [if_pos rfl] at this
    exact this.symm
  · intro h n _
    unfold put1
    by_cases e : n = k
    · subst e; rw [if_pos rfl, h]
    · rw [if_neg e]
set_option maxRecDepth 100000 in
set_option maxHeartbeats 400000 in
theorem has_any (f : Int) (hf1 : -9223372036854775808 ≤ f) (hf2 : f ≤ 9223372036854775807) (d : List UInt8) (hd : d.length ≤ 9223372036854775807) (n : Int) (hn1 : -9223372036854775808 ≤ n) (hn2 : n ≤ 9223372036854775807) (w : World) :
    Calls Try.prog 24 #[contV f d, .int .i64 n] w fun e w' => e = .returned (.bool (goodZ n && readS f d n.toNat)) ∧ Below w.heap.size w w' := by
  have hz := zero_set
  have hss := scl_size
  have hst := st_new
  have hB0 := (Below.refl _ w).alloc (Nat.le_refl _) (.cells #[.int .i64 f, .string ⟨d.toArray⟩] 23)
  have HR := Lib.hid (read_any f hf1 hf2 d hd (w.alloc (.cells #[.int .i64 f, .string ⟨d.toArray⟩] 23)))
  unfold readV contV at HR
  unfold contV
  generalize readS f d = s at *
  generalize decide (RightC f d) = b at *
  go_enter Try.func24, Try.ntmps24
  go_wp2_with fail
  refine HR.out.mono ?_
  rintro e w1 ⟨rfl, hb1⟩
  have hB1 := hB0.trans (hb1.mono hB0.size)
  have hld := Blk.new w1 48 (scl s)
  have hB2 := hB1.alloc hB1.size (.cells (scl s) 48)
  have hB3 := hB2.alloc hB2.size (.cells (scl s) 48)
  have bW := Blk.new (w1.alloc (.cells (scl s) 48)) 48 (scl s)
  have bS := hld.alloc (.cells (scl s) 48)
  have hw1 := hB1.size
  have hsz3 : ((w1.alloc (.cells (scl s) 48)).alloc (.cells (scl s) 48)).heap.size = w1.heap.size + 1 + 1 := by simp
  rw [World.size_alloc] at bW
  have HP := Lib.hid (put_new (w1.heap.size + 1) s n hn1 hn2 _ bW)
  have HB3 := Lib.hid hB3
  have HbS := Lib.hid bS
  rw [hsz3] at HP
  have hst2 := st_new1
  clear bW bS hB3
  go_wp2_with (refine wpList_ld_set rfl _ rfl _ rfl s ?_ ?_; exact hld)
  refine HP.out.mono ?_
  rintro e w2 ⟨rfl, hg, hb⟩
  have hB4 : Below w.heap.size w w2 := HB3.out.trans (grown_below hg (by omega) (by simp; omega))
  have bS2 := HbS.out.grown hg (by omega)
  have hHB4 := Lib.hid hB4
  clear hB4 hg
  by_cases hgz : goodZ n = true
  · rw [hgz]
    rw [if_pos hgz] at hb
    have hk : n.toNat < 256 := by unfold goodZ at hgz; simp at hgz; omega
    obtain ⟨k, hkn⟩ : ∃ k, k = n.toNat := ⟨_, rfl⟩
    have HV : Hid ((goodZ n && s n.toNat) = sameB (put1 s k true) s) := Lib.hid (by rw [hgz, hkn, same_put hk]; rfl)
    rw [← hkn] at hb
    clear hkn
    go_wp2_with (first | (refine wpList_ld_setG ?_ _ rfl _ rfl (put1 s k true) ?_ ?_; simp [Region.wanted, yielded, Act.put]; exact hb) | (refine wpList_ld_setG ?_ _ rfl _ rfl s ?_ ?_; simp [Region.wanted, yielded, Act.put]; exact bS2) | (refine wpList_eq_set ?_ _ _ _ rfl (put1 s k true) s ?_ ?_ ?_; simp [Region.wanted, yielded, Act.put]; rfl; rfl))
    go_ret
    exact ⟨by rw [HV.out]; rfl, hHB4.out⟩
  · have HV : Hid ((goodZ n && s n.toNat) = false) := Lib.hid (by rw [Bool.eq_false_iff.2 hgz]; rfl)
    rw [Bool.eq_false_iff.2 hgz]
    clear hb
    go_wp2
    go_ret
    exact ⟨by rw [HV.out]; rfl, hHB4.out⟩
end Go.Proofs.Ytpjcndfamhehlaa
