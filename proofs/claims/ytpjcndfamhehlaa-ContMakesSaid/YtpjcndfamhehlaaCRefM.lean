/- The document's answer: which numbers a container's bytes have: mathematics. -/
import Derived.Test.YtpjcndfamhehlaaCLeaf
namespace Go.Proofs.Ytpjcndfamhehlaa
open Go.RowKit

theorem setA_take (d : List UInt8) (i : Nat) (b : UInt8) (h : d[i]? = some b) : bcl (put1 (setA (d.take i)) b.toNat true) = bcl (setA (d.take (i + 1))) := by
  apply bcl_congr
  intro n _
  unfold put1 setA
  rw [List.take_add_one, h, List.any_append]
  simp only [Option.toList, List.any_cons, List.any_nil, Bool.or_false]
  by_cases e : n = b.toNat
  · subst e; simp
  · rw [if_neg e]
    have : (b.toNat == n) = false := by rw [beq_eq_false_iff_ne]; exact fun h => e h.symm
    rw [this, Bool.or_false]
theorem byte_at (d : List UInt8) (i : Nat) (h : i < d.length) : d[i]? = some (d[i]?.getD 0) := by rw [List.getElem?_eq_getElem h]; rfl
/-- The first numbers of a set. -/
def upS (s : Bs) (m : Nat) : Bs := fun n => decide (n < m) && s n
theorem upS_put (s : Bs) (m : Nat) : bcl (put1 (upS s m) m (s m)) = bcl (upS s (m + 1)) := by
  apply bcl_congr
  intro n _
  unfold put1 upS
  by_cases e : n = m
  · subst e; rw [if_pos rfl]; simp
  · rw [if_neg e]
    congr 1
    rw [decide_eq_decide]; omega
theorem upS_zero (s : Bs) : upS s 0 = fun _ => false := by funext n; unfold upS; simp
theorem upS_all (s : Bs) (m : Nat) (h : ∀ n, n < 256 → m ≤ n → s n = false) : bcl (upS s m) = bcl s := by
  apply bcl_congr
  intro n hn
  unfold upS
  by_cases e : n < m
  · simp [e]
  · rw [h n hn (by omega)]; simp
/-- The numbers of the runs ahead of place i, and the first k of that one. -/
def partR (d : List UInt8) (i k : Nat) : Bs := fun n => setR (d.take i) n || (decide ((d[i]?.getD 0).toNat ≤ n) && decide (n < (d[i]?.getD 0).toNat + k))
theorem partR_zero (d : List UInt8) (i : Nat) : partR d i 0 = setR (d.take i) := by
  funext n; unfold partR
  have : (decide ((d[i]?.getD 0).toNat ≤ n) && decide (n < (d[i]?.getD 0).toNat + 0)) = false := by simp
  rw [this, Bool.or_false]
theorem partR_put (d : List UInt8) (i k : Nat) : bcl (put1 (partR d i k) ((d[i]?.getD 0).toNat + k) true) = bcl (partR d i (k + 1)) := by
  apply bcl_congr
  intro n _
  unfold put1 partR
  by_cases e : n = (d[i]?.getD 0).toNat + k
  · subst e; simp
  · rw [if_neg e]
    congr 2
    rw [decide_eq_decide]; omega
theorem partR_all (d : List UInt8) (i k : Nat) (hi : i % 2 = 0) (hl : i + 1 < d.length) (hk : k = (d[i + 1]?.getD 0).toNat + 1 ∨ 256 ≤ (d[i]?.getD 0).toNat + k ∧ k ≤ (d[i + 1]?.getD 0).toNat) : bcl (partR d i k) = bcl (setR (d.take (i + 2))) := by
  apply bcl_congr
  intro n hn
  have e : d.take (i + 2) = d.take i ++ [d[i]?.getD 0, d[i + 1]?.getD 0] := by
    rw [show i + 2 = i + 1 + 1 from rfl, List.take_add_one, List.take_add_one, byte_at d i (by omega), byte_at d (i + 1) hl]; simp
  unfold partR
  rw [e, setR_snoc _ (by rw [List.length_take]; omega)]
  congr 2
  rw [decide_eq_decide]; omega
theorem setR_take (d : List UInt8) (i : Nat) (hi : i % 2 = 0) (h : d.length ≤ i + 1) (n : Nat) : setR (d.take i) n = setR d n := by
  match d, i, hi, h with
  | [], _, _, _ => rw [List.take_nil]
  | [x], 0, _, _ => rfl
  | [x], i + 1, _, _ => simp
  | x :: y :: r, 0, _, h => simp at h
  | x :: y :: r, 1, h, _ => simp at h
  | x :: y :: r, i + 2, h1, h => 
    simp only [List.take_succ_cons, setR]
    rw [setR_take r i (by omega) (by simp at h; omega)]

/-- The bits ahead of place m, read. -/
theorem bit_at (d : List UInt8) (i k : Nat) (hk : k < 8) : setB d (8 * i + k) = (byteC d i / 2 ^ k % 2 == 1) := by
  unfold setB byteC
  rw [show (8 * i + k) / 8 = i by omega, show (8 * i + k) % 8 = k by omega]
theorem setB_over (d : List UInt8) (n : Nat) (h : 8 * d.length ≤ n) : setB d n = false := by
  unfold setB
  rw [List.getElem?_eq_none (by omega)]
  have : (0 : UInt8).toNat = 0 := rfl
  simp [this]

theorem bit_int (b x : Nat) : ((b : Int) / 2 ^ x).tmod 2 = ((b / 2 ^ x % 2 : Nat) : Int) := by
  have h : (b : Int) / 2 ^ x = ((b / 2 ^ x : Nat) : Int) := by rw [Int.natCast_ediv, Int.natCast_pow]; rfl
  rw [h, Int.tmod_eq_emod_of_nonneg (Int.natCast_nonneg _)]; rfl
theorem bit_bool (b x : Nat) : (((b : Int) / 2 ^ x).tmod 2 == 1) = (b / 2 ^ x % 2 == 1) := by
  rw [bit_int, Bool.eq_iff_iff, beq_iff_eq, beq_iff_eq]; omega
end Go.Proofs.Ytpjcndfamhehlaa
