/- What the rows of this layer's laws share: what an argument reads as. -/
import Derived.Test.YtalhaceclfeohaaRows
import Derived.Test.YtalhaceclfeohaaWMath
import Derived.Test.YtalhaceclfeohaaWKit
import Derived.Test.YtalhaceclfeohaaWIter
import Derived.ProofKit
import Derived.OpenShut
import Derived.Lib.SmallJoins
namespace Go.Proofs.Ytalhaceclfeohaa
open Go.ChangeShapes Go.WideShapes Go.ChangeAt Go.RowKit Go.Joins

theorem own : ownKnob Try.prog.godebug = none := by kernel_rfl
theorem cellsW : Try.prog.cellsOf 24 = 2 := by kernel_rfl
theorem i64_of_wf {n : Int} (h : (Lit.int .i64 n).wf = true) : -9223372036854775808 ≤ n ∧ n ≤ 9223372036854775807 := by
  simp only [Lit.wf, Bool.and_eq_true, decide_eq_true_eq] at h; exact h
theorem u64_of_wf {n : Int} (h : (Lit.int .u64 n).wf = true) : 0 ≤ n ∧ n ≤ 18446744073709551615 := by
  simp only [Lit.wf, Bool.and_eq_true, decide_eq_true_eq] at h; exact h

section
variable {H : Type} {enc : TypeId × Value → H} {w : World} {base : Nat} {spare : Nat → Bool} {held : Bool}
/-- A wide number by value: a pair of halves; it reads as two numbers, wherever it is read. -/
theorem open_wide {r : Reach} {b0 : Nat} {v : Value} {d : DataW H} {p : List MemPlace} (hv : Value.okWide Try.prog w r b0 24 v) (h : DataW.Trod enc Try.prog w base spare held 24 v d p) :
    ∃ z : Int, -170141183460469231731687303715884105728 ≤ z ∧ z ≤ 170141183460469231731687303715884105727 ∧ v = (.agg #[.int .i64 (wHi (z)), .int .u64 (wLo (z))]) ∧ p = [] ∧
      ∀ (w' : World) (base' : Nat) (sp : Nat → Bool) (hd : Bool), DataW.Trod enc Try.prog w' base' sp hd 24 (.agg #[.int .i64 (wHi (z)), .int .u64 (wLo (z))]) d [] := by
  obtain ⟨c0, c1, y0, y1, m, rfl, rfl, rfl, hy0, hy1⟩ := open_agg2 Try.underlying24 (by kernel_rfl) cellsW hv h
  obtain ⟨a, e0, rfl, wa⟩ := DataW.trod_int Try.underlying2 hy0
  obtain ⟨b, e1, rfl, wb⟩ := DataW.trod_int Try.underlying22 hy1
  simp at e0 e1
  subst e0 e1
  obtain ⟨z, rfl, rfl, hz1, hz2⟩ := w_of a b (i64_of_wf wa).1 (i64_of_wf wa).2 (u64_of_wf wb).1 (u64_of_wf wb).2
  refine ⟨z, hz1, hz2, rfl, rfl, fun w' base' sp hd => ?_⟩
  exact shut_agg2 (y0 := (.lit (.int .i64 (wHi z)), [])) (y1 := (.lit (.int .u64 (wLo z)), [])) Try.underlying24 (by kernel_rfl) cellsW ⟨1, by simp [DataW.trod, Try.underlying2, wa]⟩ ⟨1, by simp [DataW.trod, Try.underlying22, wb]⟩
end

section
variable {H : Type} {enc : TypeId × Value → H}
theorem cellsI : Try.prog.cellsOf 2 = 1 := by kernel_rfl
theorem in64_of {zs : List Int} (h : ∀ n ∈ zs, (Lit.int .i64 n).wf = true) : In64 zs := fun j => by
  by_cases hj : j < zs.length
  · rw [List.getElem?_eq_getElem hj]
    exact i64_of_wf (h _ (List.getElem_mem hj))
  · rw [List.getElem?_eq_none (by omega)]
    decide
/-- Numbers in a slice: they lie in old memory, and read as before wherever that lies as it lay. -/
theorem open_numbers {W : World} {r : Reach} {b0 : Nat} {v : Value} {d : DataW H} {p : List MemPlace} (hv : Value.okWide Try.prog W r b0 37 v) (h : DataW.Trod enc Try.prog W 0 (fun _ => true) true 37 v d p) (hlt : ∀ q ∈ p, q.block < W.heap.size) :
    ∃ (x : Option Addr) (len cap : Nat) (zs : List Int), v = .slice x len cap ∧ len ≤ cap ∧ cap ≤ 9223372036854775807 ∧ zs.length = len ∧ In64 zs ∧ Ints W.heap.size W v zs ∧
      ∀ W', Below W.heap.size W W' → ∀ sp : Nat → Bool, (∀ q ∈ p, sp q.block = true) → DataW.Trod enc Try.prog W' 0 sp true 37 v d p := by
  obtain ⟨x, len, cap, rfl⟩ := okWide_slice Try.underlying37 hv
  obtain ⟨fuel, hf⟩ := h
  rcases open_ints Try.underlying37 Try.underlying2 cellsI hf with ⟨hcs, hx⟩ | ⟨a, len', cap', zs, hcs, _, hl, hm, hz, hx, hcell, hwz⟩
  · simp [Value.cells] at hcs
    obtain ⟨rfl, rfl, rfl⟩ := hcs
    simp only [Prod.mk.injEq] at hx
    obtain ⟨rfl, rfl⟩ := hx
    exact ⟨none, 0, 0, [], rfl, Nat.le_refl _, by decide, rfl, fun j => by simp, .inl ⟨⟨none, 0, rfl⟩, rfl⟩, fun W' _ sp _ => shut_slice_nil Try.underlying37⟩
  · simp [Value.cells] at hcs
    obtain ⟨rfl, rfl, rfl⟩ := hcs
    simp only [Prod.mk.injEq] at hx
    obtain ⟨rfl, rfl⟩ := hx
    simp only [if_true] at hz
    have hm' : cap ≤ 9223372036854775807 := by unfold maxLen at hm; omega
    have htl : (zs.take len).length = len := by rw [List.length_take]; omega
    have hblk : 0 < zs.length → a.block < W.heap.size := fun h0 => hlt (.cell a.block a.off) (MemPlace.mem_row.2 ⟨0, h0, by simp⟩)
    refine ⟨some a, len, cap, zs.take len, rfl, hl, hm', htl, in64_of (fun n hn => hwz n (List.mem_of_mem_take hn)), ?_, ?_⟩
    · by_cases hl0 : len = 0
      · subst hl0
        exact .inl ⟨⟨some a, cap, rfl⟩, by simp⟩
      · obtain ⟨b, off, spot⟩ := a
        have hspot : spot = none := by simpa [Addr.add] using World.cell?_spot (hcell 0 (by omega))
        subst hspot
        refine .inr ⟨b, off, cap, by rw [htl], hblk (by omega), fun j hj => ?_⟩
        rw [htl] at hj
        have h1 := hcell j (by omega)
        rw [add_plain] at h1
        rw [h1, List.getElem?_take, if_pos hj]
        rfl
    · intro W' hB sp hsp
      by_cases hz0 : zs.length = 0
      · have hc0 : cap = 0 := by omega
        have hl0 : len = 0 := by omega
        subst hc0; subst hl0
        have t0 := shut_ints (enc := enc) (w := W') (base := 0) (spare := sp) (held := true) (a := a) (len := 0) (cap := 0) (zs := zs) 0 Try.underlying37 Try.underlying2 cellsI (Nat.zero_le _) (Nat.le_refl _) hm (by simp [hz0]) (fun i hi => by omega) hwz
        exact ⟨2, by simpa [Value.cells] using t0⟩
      · have hspb : sp a.block = true := hsp (.cell a.block a.off) (MemPlace.mem_row.2 ⟨0, by omega, by simp⟩)
        have hlt' := hblk (by omega)
        have t0 := shut_ints (enc := enc) (w := W') (base := 0) (spare := sp) (held := true) (a := a) (len := len) (cap := cap) (zs := zs) 0 Try.underlying37 Try.underlying2 cellsI (Nat.zero_le _) hl hm (by simp [hspb, hz]) (fun i hi => (hB.cell (by rw [block_add]; exact hlt')).trans (hcell i hi)) hwz
        exact ⟨2, by simpa [Value.cells] using t0⟩
end
end Go.Proofs.Ytalhaceclfeohaa
