/- The three forms, made number by number: mathematics. -/
import Derived.Test.YtpjcndfamhehlaaCByt
namespace Go.Proofs.Ytpjcndfamhehlaa
open Go.RowKit

theorem byteS_bitm (s : Bs) (m k i : Nat) : (byteS s m k).testBit i = (decide (i < 8) && decide (8 * k + i < m) && s (8 * k + i)) := by
  by_cases hi : i < 8
  · have h := byteS_digit s m k i hi
    rw [Nat.testBit_eq_decide_div_mod_eq, h]
    unfold dg
    by_cases hm : 8 * k + i < m
    · rw [if_pos hm]; cases s (8 * k + i) <;> simp [hi, hm]
    · rw [if_neg hm]; simp [hm]
  · have hlt := byteS_lt s m k
    have : byteS s m k < 2 ^ i := Nat.lt_of_lt_of_le hlt (by
      have := Nat.pow_le_pow_right (n := 2) (by decide) (show 8 ≤ i by omega)
      simpa using this)
    rw [Nat.testBit_lt_two_pow this]
    simp [hi]
theorem byteS_eqm {s : Bs} {m m' k : Nat} (h : ∀ i, i < 8 → (decide (8 * k + i < m) && s (8 * k + i)) = (decide (8 * k + i < m') && s (8 * k + i))) : byteS s m k = byteS s m' k := by
  apply Nat.eq_of_testBit_eq
  intro i
  rw [byteS_bitm, byteS_bitm]
  by_cases hi : i < 8
  · rw [Bool.and_assoc, Bool.and_assoc, h i hi]
  · simp [hi]
theorem byteS_up (s : Bs) (m : Nat) (hs : s m = true) : byteS s (m + 1) (m / 8) = byteS s m (m / 8) + 2 ^ (m % 8) := by
  have hlt : byteS s m (m / 8) < 2 ^ (m % 8) := by
    apply Nat.lt_pow_two_of_testBit
    intro i hi
    rw [byteS_bitm]
    have : ¬ 8 * (m / 8) + i < m := by omega
    simp [this]
  have e : byteS s m (m / 8) + 2 ^ (m % 8) = 2 ^ (m % 8) ||| byteS s m (m / 8) := by
    have := Nat.two_pow_add_eq_or_of_lt hlt 1
    rw [Nat.mul_one] at this
    omega
  rw [e]
  apply Nat.eq_of_testBit_eq
  intro i
  rw [Nat.testBit_or, Nat.testBit_two_pow, byteS_bitm, byteS_bitm]
  by_cases hi : i < 8
  · by_cases e2 : m % 8 = i
    · have e3 : 8 * (m / 8) + i = m := by omega
      simp [e2, hi, e3, hs]
    · have e3 : (8 * (m / 8) + i < m + 1) = (8 * (m / 8) + i < m) := by rw [eq_iff_iff]; omega
      simp [e2, hi, e3]
  · have : ¬ m % 8 = i := by omega
    simp [hi, this]
theorem byteS_up_far (s : Bs) (m k : Nat) (h : s m = false ∨ k ≠ m / 8) : byteS s (m + 1) k = byteS s m k := by
  refine byteS_eqm fun i hi => ?_
  by_cases e : 8 * k + i = m
  · rcases h with h | h
    · rw [e, h, Bool.and_false, Bool.and_false]
    · omega
  · congr 1
    rw [decide_eq_decide]; omega
/-- The bits' values, of the numbers ahead of m. -/
def bitVs (s : Bs) (m : Nat) : List Value := (List.range 32).map fun k => Value.int .u8 (byteS s m k : Nat)
theorem bitVs_length (s : Bs) (m : Nat) : (bitVs s m).length = 32 := by simp [bitVs]
theorem bitVs_get {s : Bs} {m k : Nat} (h : k < 32) : (bitVs s m)[k]? = some (.int .u8 (byteS s m k : Nat)) := by
  unfold bitVs
  rw [List.getElem?_map, List.getElem?_range h]; rfl
theorem bitVs_set (s : Bs) (m : Nat) (hm : m < 256) (hs : s m = true) : (bitVs s m).set (m / 8) (.int .u8 (byteS s m (m / 8) + 2 ^ (m % 8) : Nat)) = bitVs s (m + 1) := by
  apply List.ext_getElem?
  intro k
  rw [List.getElem?_set]
  by_cases hk : k < 32
  · by_cases e : m / 8 = k
    · subst e
      rw [if_pos rfl, if_pos (by rw [bitVs_length]; omega), bitVs_get hk, byteS_up s m hs]
    · rw [if_neg e, bitVs_get hk, bitVs_get hk, byteS_up_far s m k (.inr (fun h => e h.symm))]
  · rw [List.getElem?_eq_none (l := bitVs s m) (by rw [bitVs_length]; omega), List.getElem?_eq_none (l := bitVs s (m + 1)) (by rw [bitVs_length]; omega), if_neg (by omega)]
theorem bitVs_skip (s : Bs) (m : Nat) (hs : s m = false) : bitVs s (m + 1) = bitVs s m := by
  unfold bitVs
  exact List.map_congr_left fun k _ => congrArg (fun n : Nat => Value.int .u8 (n : Int)) (byteS_up_far s m k (.inl hs))
theorem bitVs_zero (s : Bs) : bitVs s 0 = List.replicate 32 (.int .u8 0) := by
  apply List.ext_getElem?
  intro k
  by_cases hk : k < 32
  · have : byteS s 0 k = 0 := by
      apply Nat.eq_of_testBit_eq
      intro i
      rw [byteS_bitm]; simp
    rw [bitVs_get hk, this, List.getElem?_replicate, if_pos hk]; rfl
  · rw [List.getElem?_eq_none (by rw [bitVs_length]; omega), List.getElem?_eq_none (by simp; omega)]
theorem bitVs_bytes (s : Bs) (m : Nat) : bitVs s m = byteVs (bitsTo s m) := by
  unfold bitVs byteVs bitsTo
  rw [List.map_map]
  refine List.map_congr_left fun k _ => ?_
  show _ = Value.int .u8 ((UInt8.ofNat (byteS s m k)).toNat : Int)
  rw [ofNat_toNat _ (byteS_lt s m k)]

/-! ### Runs -/
theorem runs_join {s : Bs} {k : Nat} (hk : k < 256) (hs : s k = true) (h0 : 0 < k) (hp : s (k - 1) = true) :
    ∃ fr m, m < 255 ∧ flat (runTo s k) = fr ++ [UInt8.ofNat m] ∧ flat (runTo s (k + 1)) = fr ++ [UInt8.ofNat (m + 1)] := by
  obtain ⟨h1, h2, h3, h4⟩ := runTo_spec s k
  cases e : runTo s k with
  | nil => have := h4 e (k - 1) (by omega); rw [hp] at this; cases this
  | cons x r =>
    obtain ⟨a, m⟩ := x
    have hj : a + m + 1 = k := by
      rcases Nat.decEq (a + m + 1) k with h | h
      · have := (h3 a m r e).2 h
        rw [hp] at this; cases this
      · exact h
    have e2 : runTo s (k + 1) = (a, m + 1) :: r := by simp [runTo, hs, e, hj]
    refine ⟨flat r ++ [UInt8.ofNat a], m, by omega, ?_, ?_⟩
    · rw [flat]; simp
    · rw [e2, flat]; simp
theorem runs_new {s : Bs} {k : Nat} (hs : s k = true) (hp : k = 0 ∨ s (k - 1) = false) : flat (runTo s (k + 1)) = flat (runTo s k) ++ [UInt8.ofNat k, 0] := by
  obtain ⟨h1, h2, h3, h4⟩ := runTo_spec s k
  cases e : runTo s k with
  | nil => 
    have e2 : runTo s (k + 1) = [(k, 0)] := by simp [runTo, hs, e]
    rw [e2]; rfl
  | cons x r =>
    obtain ⟨a, m⟩ := x
    have hlt := h2 (a, m) (by rw [e]; exact List.mem_cons_self ..)
    simp only at hlt
    have hj : a + m + 1 ≠ k := by
      intro hj
      rcases hp with rfl | hp
      · omega
      · have := (h1 (k - 1)).1 ⟨(a, m), by rw [e]; exact List.mem_cons_self .., by simp; omega, by simp; omega⟩
        rw [this.2] at hp; cases hp
    have e2 : runTo s (k + 1) = (k, 0) :: (a, m) :: r := by simp [runTo, hs, e, hj]
    rw [e2]; rfl
theorem runs_skip {s : Bs} {k : Nat} (hs : s k = false) : runTo s (k + 1) = runTo s k := by simp [runTo, hs]
theorem runs_some {s : Bs} {k : Nat} : (flat (runTo s k)).length = 0 ↔ ∀ n, n < k → s n = false := by
  obtain ⟨h1, h2, h3, h4⟩ := runTo_spec s k
  rw [flat_length]
  constructor
  · intro h
    exact h4 (List.eq_nil_of_length_eq_zero (by omega))
  · intro h
    cases e : runTo s k with
    | nil => rfl
    | cons x r =>
      have hx := (h1 x.1).1 ⟨x, by rw [e]; exact List.mem_cons_self .., Nat.le_refl _, by omega⟩
      rw [h x.1 hx.1] at hx
      cases hx.2
theorem byteVs_set (fr : List UInt8) (a b : UInt8) : (byteVs (fr ++ [a])).set fr.length (.int .u8 (b.toNat : Int)) = byteVs (fr ++ [b]) := by
  rw [byteVs_append, byteVs_append]
  have : (byteVs fr).length = fr.length := byteVs_length fr
  rw [List.set_append_right _ _ (by omega), this, Nat.sub_self]; rfl
theorem arrTo_vals (s : Bs) (k : Nat) : (arrTo s k).length ≤ k := by rw [arrTo_length]; exact valsTo_le s k
theorem flat_le (s : Bs) (k : Nat) : (flat (runTo s k)).length ≤ k + 1 := by rw [flat_length]; exact runTo_length s k
end Go.Proofs.Ytpjcndfamhehlaa
