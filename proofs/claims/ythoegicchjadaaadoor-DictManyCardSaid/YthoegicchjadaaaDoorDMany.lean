/- The words of the law of many: as many zeros as are asked for, and a number in two bytes. -/
import Derived.Test.YthoegicchjadaaaDoorDTold
import Derived.Laws.MakeOwn
namespace Go.Proofs.YthoegicchjadaaaDoor
open Go.RowKit

def zeros (n : Nat) : Array Value := madeCells #[.int .u8 0] n
theorem zeros_at {n j : Nat} (h : j < n) : (zeros n)[j]? = some (.int .u8 0) := by
  have e := toList_madeCells_one (.int .u8 0) n
  have e2 : (zeros n)[j]? = (zeros n).toList[j]? := by simp
  rw [e2]
  unfold zeros
  rw [e, List.getElem?_replicate, if_pos h]
theorem make_u8 (n : Nat) (hn : n ≤ 1000000) (W : World) : (Instr.makeSlice 42 (.int .i64 n) (.int .i64 n)).run Tryd.prog W = .ok (.slice (some ⟨W.heap.size, 0, .none⟩) n n) (W.alloc (.cells (zeros n) 5)) := by
  obtain ⟨i0, hi, hz0, hz1, hz2⟩ := info_parts info_u8
  have h := run_make (P := Tryd.prog) W 42 5 i0 (.int .u8 0) Tryd.underlying42 hi hz0 .i64 .i64 n n (by omega) (by omega) (by rw [hz2]; omega) (by omega)
  rw [hz1] at h
  rw [h]
  simp [Value.cells, zeros]
theorem conv_at (l : List UInt8) (n c : Nat) (hn : n = l.length) (W : World) (b : Nat) (h : ∀ j (hj : j < l.length), W.cell? ⟨b, j, .none⟩ = some (.int .u8 (l[j].toNat : Int))) : (convert 42 9 (.slice (some ⟨b, 0, .none⟩) n c)).run Tryd.prog W = .ok (.string ⟨l.toArray⟩) W := by
  subst hn
  exact run_convert_bytes_back W _ _ _ ⟨b, 0, .none⟩ c l Tryd.underlying42 Tryd.underlying5 Tryd.underlying9 (fun j hj => by
    have e : (⟨b, 0, .none⟩ : Addr).add j = ⟨b, j, .none⟩ := by unfold Addr.add; split <;> simp_all
    rw [e]; exact h j hj)
theorem conv_zeros (n : Nat) (W : World) : (convert 42 9 (.slice (some ⟨W.heap.size, 0, .none⟩) n n)).run Tryd.prog (W.alloc (.cells (zeros n) 5)) = .ok (.string ⟨(List.replicate n 0).toArray⟩) (W.alloc (.cells (zeros n) 5)) :=
  conv_at (List.replicate n 0) n n (by simp) _ _ fun j hj => ((Blk.new W 5 (zeros n)).cell j).trans (by
    have hj' : j < n := by simpa using hj
    rw [zeros_at hj']
    simp)

theorem conv_two (y x : UInt8) (W : World) : (convert 42 9 (.slice (some ⟨W.heap.size, 0, .none⟩) 2 2)).run Tryd.prog (W.alloc (.cells #[.int .u8 (y.toNat : Int), .int .u8 (x.toNat : Int)] 5)) = .ok (.string ⟨#[y, x]⟩) (W.alloc (.cells #[.int .u8 (y.toNat : Int), .int .u8 (x.toNat : Int)] 5)) :=
  conv_at [y, x] 2 2 rfl _ _ fun j hj => ((Blk.new W 5 _).cell j).trans (match j, hj with
    | 0, _ => rfl
    | 1, _ => rfl)
/-- A word: zeros, a high byte, a low one. -/
def mword (z i : Nat) : List UInt8 := List.replicate z 0 ++ [UInt8.ofNat (i / 256), UInt8.ofNat i]
def mwords (z n : Nat) : List (List UInt8) := (List.range n).map (mword z)
theorem mwords_length (z n : Nat) : (mwords z n).length = n := by simp [mwords]
theorem mwords_snoc (z n : Nat) : mwords z (n + 1) = mwords z n ++ [mword z n] := by simp [mwords, List.range_succ]
theorem mword_length (z i : Nat) : (mword z i).length = z + 2 := by simp [mword]
theorem mwords_at {z n j : Nat} (h : j < n) : (mwords z n)[j]?.getD [] = mword z j := by simp [mwords, h]
theorem prefix_lt : ∀ {p a b : List UInt8}, a < b → p ++ a < p ++ b
  | [], _, _, h => h
  | x :: p, _, _, h => by
    rw [List.cons_append, List.cons_append, List.cons_lt_cons_iff]
    exact .inr ⟨rfl, prefix_lt h⟩
theorem u8_lt {a b : Nat} (ha : a < 256) (hb : b < 256) (h : a < b) : UInt8.ofNat a < UInt8.ofNat b := by
  rw [UInt8.lt_iff_toNat_lt, UInt8.toNat_ofNat', UInt8.toNat_ofNat']
  omega
theorem mword_lt {z i j : Nat} (hj : j < 60000) (h : i < j) : mword z i < mword z j := by
  refine prefix_lt ?_
  rw [List.cons_lt_cons_iff]
  by_cases e : i / 256 = j / 256
  · refine .inr ⟨by rw [e], ?_⟩
    rw [List.cons_lt_cons_iff]
    left
    have h1 : UInt8.ofNat i = UInt8.ofNat (i % 256) := UInt8.toNat_inj.1 (by rw [UInt8.toNat_ofNat', UInt8.toNat_ofNat']; omega)
    have h2 : UInt8.ofNat j = UInt8.ofNat (j % 256) := UInt8.toNat_inj.1 (by rw [UInt8.toNat_ofNat', UInt8.toNat_ofNat']; omega)
    rw [h1, h2]
    exact u8_lt (by omega) (by omega) (by omega)
  · exact .inl (u8_lt (by omega) (by omega) (by omega))
theorem mwords_asc {z n : Nat} (hn : n ≤ 60000) : Asc (mwords z n) := by
  rw [asc_iff]
  intro i j hij hj
  rw [mwords_length] at hj
  rw [mwords_at hj, mwords_at (by omega)]
  exact mword_lt (by omega) hij
theorem mwords_uniq {z n : Nat} (hn : n ≤ 60000) : uniq (mwords z n) = mwords z n := uniq_of_asc (mwords_asc hn)
theorem mwords_right {z n : Nat} (hz : z ≤ 98) (hn : n ≤ 1000) : RightL (mwords z n) := by
  refine ⟨by rw [mwords_length]; exact hn, chn_iff.2 ⟨fun x hx => ?_, mwords_asc (by omega)⟩⟩
  obtain ⟨j, hj, rfl⟩ := mem_getD hx
  rw [mwords_length] at hj
  rw [mwords_at hj, mword_length]
  omega
theorem mwords_wrong {z n : Nat} (hn : 1000 < n) : ¬ RightL (mwords z n) := fun h => by
  have := h.1
  rw [mwords_length] at this
  omega
theorem mwords_short (z n : Nat) (hz : z ≤ 98) (j : Nat) : ((mwords z n)[j]?.getD []).length ≤ 100 := by
  by_cases hj : j < n
  · rw [mwords_at hj, mword_length]; omega
  · rw [List.getElem?_eq_none (by rw [mwords_length]; omega)]; simp
end Go.Proofs.YthoegicchjadaaaDoor
