/- varint.Pack: the bytes of a list. -/
import Derived.Test.YtfdehmghnmjjoaaDoorVPut
import Derived.LoopTactic
import Derived.OwnWalk
namespace Go.Proofs.YtfdehmghnmjjoaaDoor
open Go.RowKit

/-- The slice value sv holds the numbers zs, in a block below n₀; or there are none. -/
def Ints (n₀ : Nat) (W : World) (sv : Value) (zs : List Int) : Prop :=
  ((∃ x cap, sv = .slice x 0 cap) ∧ zs = []) ∨ ∃ b off cap, sv = .slice (some ⟨b, off, none⟩) zs.length cap ∧ b < n₀ ∧ ∀ j, j < zs.length → W.cell? ⟨b, off + j, none⟩ = some (.int .i64 (zs[j]?.getD 0))
theorem Ints.below {n₀ : Nat} {A B : World} (h : Below n₀ A B) {sv : Value} {zs : List Int} : Ints n₀ A sv zs → Ints n₀ B sv zs
  | .inl e => .inl e
  | .inr ⟨b, off, cap, e, hb, hc⟩ => .inr ⟨b, off, cap, e, hb, fun j hj => (h.cell (p := ⟨b, off + j, none⟩) hb).trans (hc j hj)⟩
theorem Ints.more {n₀ n₁ : Nat} {A : World} (h : n₀ ≤ n₁) {sv : Value} {zs : List Int} : Ints n₀ A sv zs → Ints n₁ A sv zs
  | .inl e => .inl e
  | .inr ⟨b, off, cap, e, hb, hc⟩ => .inr ⟨b, off, cap, e, Nat.lt_of_lt_of_le hb h, hc⟩
/-- Each is a number of 64 bits. -/
def In64 (zs : List Int) : Prop := ∀ j : Nat, -9223372036854775808 ≤ zs[j]?.getD 0 ∧ zs[j]?.getD 0 ≤ 9223372036854775807
/-- The cell of number j, where there is one. -/
theorem Ints.at_ {n₀ : Nat} {W : World} {x : Option Addr} {len cap : Nat} {zs : List Int} (h : Ints n₀ W (.slice x len cap) zs) {j : Nat} (hj : j < len) : ∃ b off, x = some ⟨b, off, none⟩ ∧ b < n₀ ∧ W.cell? ⟨b, off + j, none⟩ = some (.int .i64 (zs[j]?.getD 0)) := by
  rcases h with ⟨⟨x', cap', e⟩, _⟩ | ⟨b, off, cap', e, hb, hc⟩
  · cases e; omega
  · cases e
    exact ⟨b, off, rfl, hb, hc j hj⟩

/-- The differences, turned. -/
def deltas : Int → List Int → List Nat
  | _, [] => []
  | a, n :: r => (turnOf (wrap64 (n - a))).toNat :: deltas n r
def lastN (a : Int) (l : List Int) : Int := l.getLastD a
theorem deltas_snoc (a : Int) (l : List Int) (z : Int) : deltas a (l ++ [z]) = deltas a l ++ [(turnOf (wrap64 (z - lastN a l))).toNat] := by
  induction l generalizing a with
  | nil => rfl
  | cons n r ih =>
    show _ :: deltas n (r ++ [z]) = _ :: (deltas n r ++ _)
    rw [ih]
    congr 4
    unfold lastN
    cases r <;> simp [List.getLastD]
theorem lastN_snoc (a : Int) (l : List Int) (z : Int) : lastN a (l ++ [z]) = z := by simp [lastN]
theorem deltas_length (a : Int) (l : List Int) : (deltas a l).length = l.length := by
  induction l generalizing a with
  | nil => rfl
  | cons n r ih => simp [deltas, ih]
theorem wrap64_lo (n : Int) : -9223372036854775808 ≤ wrap64 n ∧ wrap64 n ≤ 9223372036854775807 := by unfold wrap64; omega
theorem deltas_lt (a : Int) (l : List Int) : ∀ n ∈ deltas a l, n < 18446744073709551616 := by
  induction l generalizing a with
  | nil => intro n hn; cases hn
  | cons z r ih =>
    intro n hn
    rcases List.mem_cons.1 hn with rfl | hn
    · have h := wrap64_lo (z - a)
      have := turn_lo h.1 h.2
      omega
    · exact ih z n hn
/-- A list's bytes. -/
def packB (zs : List Int) : List UInt8 := vputs (zs.length :: deltas 0 zs)
def u64s (l : List Nat) : List Value := l.map fun (n : Nat) => Value.int .u64 (n : Int)
theorem u64s_snoc (l : List Nat) (n : Nat) : u64s (l ++ [n]) = u64s l ++ [Value.int .u64 (n : Int)] := by simp [u64s]
/-- What Pack answers. -/
def PackPost (zs : List Int) (w : World) (e : Ending) (w' : World) : Prop := e = .returned (.tuple #[.string ⟨(if zs.length ≤ 1000 then packB zs else []).toArray⟩, .int .i64 (if zs.length ≤ 1000 then 0 else 20)]) ∧ Below w.heap.size w w'

theorem info_u64 : (Tryd.prog.info? 22).map (fun i => (i.zero, i.size, i.bytes)) = some (some (.int .u64 0), 1, 8) := by kernel_rfl

set_option maxRecDepth 100000 in
set_option maxHeartbeats 2000000 in
theorem pack_any (x : Option Addr) (len cap : Nat) (zs : List Int) (hlen : zs.length = len) (hcm : len ≤ 9223372036854775807) (hz : In64 zs) (w : World) (hI : Ints w.heap.size w (.slice x len cap) zs) :
    Calls Tryd.prog 18 #[.slice x len cap] w (PackPost zs w) := by
  have HL := Lib.hid hlen
  clear hlen
  by_cases hbig : len ≤ 1000
  · obtain ⟨i0, hi, hz0, hz1, hz2⟩ := info_parts info_u64
    have hmk : ∀ W : World, (Instr.makeSlice 53 (.int .i64 0) (.int .i64 ((len : Int) + 1))).run Tryd.prog W = .ok (.slice (some ⟨W.heap.size, 0, none⟩) 0 (len + 1)) (W.alloc (.cells (madeCells #[.int .u64 0] (len + 1)) 22)) := fun W => by
      have h := run_make (P := Tryd.prog) W 53 22 i0 (.int .u64 0) Tryd.underlying53 hi hz0 .i64 .i64 0 ((len : Int) + 1) (by omega) (by omega) (by rw [hz2]; omega) (by omega)
      rw [hz1] at h
      rw [h]
      have e : ((len : Int) + 1).toNat = len + 1 := by omega
      rw [e]
      simp [Value.cells]
    have HI := Lib.hid hi; have HZ0 := Lib.hid hz0; have HZ1 := Lib.hid hz1; have HZ2 := Lib.hid hz2
    clear hi hz0 hz1 hz2
    have hb' : ¬ (1000 : Int) < len := by omega
    have hown0 : (w.alloc (.cells (madeCells #[.int .u64 0] (len + 1)) 22)).ownsRow w.heap.size 22 1 (.slice (some ⟨w.heap.size, 0, none⟩) 0 (len + 1)) 0 [] :=
      World.ownsRow_made (base := w.heap.size) (e := 22) (size := 1) w (madeCells #[.int .u64 0] (len + 1)) (len + 1) (Nat.le_refl _) (by unfold maxLen; omega) (by simp [madeCells])
    have HO0 := Lib.hid hown0
    clear hown0
    go_enter Tryd.func18, Tryd.ntmps18
    go_wp2_with (at_builtin; refine wpList_append_own _ rfl _ _ 53 rfl w.heap.size 22 i0 (.int .u64 0) 1 8 Tryd.underlying53 HI.out HZ0.out HZ1.out HZ2.out rfl (by decide) _ _ _ rfl (HO0.out.alloc _) ⟨w.heap.size + 1, 0, none⟩ 1 1 [.int .u64 (len : Int)] rfl rfl (by simpa using cell_one_new (w.alloc (.cells (madeCells #[.int .u64 0] (len + 1)) 22)) (.int .u64 (len : Int)) 22) (by simp [Value.oneCell']) (by unfold maxLen; omega) (by omega) (by simp; omega) ?_; intro v1 w1 hown1 hgrow1 _)
    have hB1 : Below w.heap.size w w1 := (((Below.refl _ w).alloc (Nat.le_refl _) _).alloc (by simp) _).grown hgrow1 (by simp; omega) (fun k e => by cases e; exact Nat.le_refl _)
    have hown1 : w1.ownsRow w.heap.size 22 1 v1 (0 + 1) (u64s (zs.length :: deltas 0 (zs.take 0))) := by
      have := HL.out
      simpa [u64s, deltas, this] using hown1
    clear hgrow1 HO0
    go_loopw [4, 5, 23] (fun v p i wr => ∃ k : Nat, k ≤ len ∧ i = .int .i64 k ∧ p = .int .i64 (lastN 0 (zs.take k)) ∧ wr.ownsRow w.heap.size 22 1 v (k + 1) (u64s (zs.length :: deltas 0 (zs.take k))) ∧ Below w.heap.size w wr)
      (fun _ _ i _ => len - (intOf i).toNat)
    case atStart => exact ⟨0, Nat.zero_le _, rfl, rfl, hown1, hB1⟩
    case round =>
      obtain ⟨k, hk, rfl, rfl, hown, hB⟩ := hrel
      by_cases hlt : k < len
      · obtain ⟨b, off, rfl, hb, hcell⟩ := hI.at_ hlt
        have hc1 : wr.cell? ⟨b, off + k, none⟩ = some (.int .i64 (zs[k]?.getD 0)) := (hB.cell (p := ⟨b, off + k, none⟩) hb).trans hcell
        have HT : Hid (zs.take (k + 1) = zs.take k ++ [zs[k]?.getD 0]) := Lib.hid (by
          have h1 : k < zs.length := by rw [HL.out]; exact hlt
          rw [List.take_succ_eq_append_getElem h1, List.getElem?_eq_getElem h1]; rfl)
        have hzk := hz k
        generalize zs[k]?.getD 0 = z at *
        generalize hp : lastN 0 (zs.take k) = p at *
        have HP := Lib.hid hp
        clear hp hcell
        have hwl := wrap64_lo (z - p)
        have hlt' : (k : Int) < len := by omega
        have htl := turn_lo hwl.1 hwl.2
        have hT := turn_any (wrap64 (z - p)) hwl.1 hwl.2
        have HD : Hid (deltas 0 (zs.take (k + 1)) = deltas 0 (zs.take k) ++ [(turnOf (wrap64 (z - p))).toNat]) := Lib.hid (by rw [HT.out, deltas_snoc, HP.out])
        have HN : Hid (((turnOf (wrap64 (z - p))).toNat : Int) = turnOf (wrap64 (z - p))) := Lib.hid (by omega)
        generalize turnOf (wrap64 (z - p)) = q at *
        have HTC := Lib.hid hT
        clear hT
        go_wp2_with (first
          | (go_at_call 14; refine (HTC.out _).mono ?_; rintro e w' ⟨rfl, rfl⟩)
          | (at_builtin; refine wpList_append_own _ rfl _ _ 53 rfl w.heap.size 22 i0 (.int .u64 0) 1 8 Tryd.underlying53 HI.out HZ0.out HZ1.out HZ2.out rfl (by decide) _ _ _ rfl (hown.alloc _) ⟨wr.heap.size, 0, none⟩ 1 1 [.int .u64 q] rfl rfl (cell_one_new _ _ _) (by simp [Value.oneCell']) (by unfold maxLen; omega) (by omega) (by have := hB.size; simp; omega) ?_; intro v2 w2 hown2 hgrow2 _))
        have hB2 : Below w.heap.size w w2 := (hB.alloc hB.size _).grown hgrow2 (by have := hB.size; simp; omega) (fun j e => (hown.lt j e).1)
        have hown3 : w2.ownsRow w.heap.size 22 1 v2 (k + 1 + 1) (u64s (zs.length :: deltas 0 (zs.take (k + 1)))) := by
          rw [HD.out, ← List.cons_append, u64s_snoc, HN.out]
          exact hown2
        clear hown2 hgrow2
        go_roundw
        case rel => exact ⟨k + 1, by omega, by simp, by rw [HT.out, lastN_snoc], hown3, hB2⟩
        case measure => simp [intOf]; omega
      · obtain rfl : k = len := by omega
        have hl := HL.out
        obtain ⟨g, cap2, rfl⟩ := ownsRow_succ hown
        rw [← hl, List.take_length] at hown
        have hcell : ∀ j, j < zs.length + 1 → wr.cell? ⟨g, j, none⟩ = some (.int .u64 ((zs.length :: deltas 0 zs).getD j 0 : Nat)) := fun j hj => by
          have h1 : j < (zs.length :: deltas 0 zs).length := by simp [deltas_length]; omega
          have := hown.cells (g := g) rfl j (.int .u64 ((zs.length :: deltas 0 zs).getD j 0 : Nat)) (by
            unfold u64s
            rw [List.getElem?_map, List.getD_eq_getElem?_getD, List.getElem?_eq_getElem h1]; rfl)
          rwa [show (⟨g, 0, none⟩ : Addr).add j = ⟨g, j, none⟩ by unfold Addr.add; split <;> simp_all] at this
        have hgl := hown.lt g rfl
        have HPut := Lib.hid (put_any g (zs.length + 1) cap2 (zs.length :: deltas 0 zs) (by simp [deltas_length]) (fun n hn => by
          rcases List.mem_cons.1 hn with rfl | hn
          · omega
          · exact deltas_lt _ _ n hn) (by omega) wr hgl.2 hcell)
        rw [hl] at HPut
        have HPk : Hid (packB zs = vputs (k :: deltas 0 zs)) := Lib.hid (by unfold packB; rw [hl])
        have HL2 := Lib.hid hl
        clear hl hcell hown
        have hge : ¬ (k : Int) < k := by omega
        go_wp2_with (go_at_call 24; refine HPut.out.mono ?_; rintro e w' ⟨rfl, hb3⟩)
        go_ret2
        exact ⟨by rw [HPk.out, HL2.out, if_pos hbig, if_pos hbig]; rfl, hB.trans (hb3.mono hB.size)⟩
  · have hb' : (1000 : Int) < len := by omega
    go_enter Tryd.func18, Tryd.ntmps18
    go_wp2
    go_ret2
    exact ⟨by rw [HL.out, if_neg hbig, if_neg hbig]; rfl, Below.refl _ _⟩
end Go.Proofs.YtfdehmghnmjjoaaDoor
