/- A set as 32 bytes: mathematics. -/
import Derived.Test.YtpjcndfamhehlaaCMath
namespace Go.Proofs.Ytpjcndfamhehlaa

/-- The set with number n put in, or out. -/
def put1 (s : Bs) (n : Nat) (b : Bool) : Bs := fun m => if m = n then b else s m
theorem byteS_bit (s : Bs) (k i : Nat) (hk : k < 32) : (byteS s 256 k).testBit i = (decide (i < 8) && s (8 * k + i)) := by
  by_cases hi : i < 8
  · have h := byteS_digit s 256 k i hi
    rw [if_pos (by omega)] at h
    rw [Nat.testBit_eq_decide_div_mod_eq, h]
    unfold dg
    cases s (8 * k + i) <;> simp [hi]
  · have hlt := byteS_lt s 256 k
    have : byteS s 256 k < 2 ^ i := Nat.lt_of_lt_of_le hlt (by
      have := Nat.pow_le_pow_right (n := 2) (by decide) (show 8 ≤ i by omega)
      simpa using this)
    rw [Nat.testBit_lt_two_pow this]
    simp [hi]
theorem byteS_same {s t : Bs} (h : Same s t) (k : Nat) : byteS s 256 k = byteS t 256 k := byteS_congr h k
theorem byteS_ext {s : Bs} {k x : Nat} (hk : k < 32) (hx : x < 256) (h : ∀ i, i < 8 → x.testBit i = s (8 * k + i)) : x = byteS s 256 k := by
  apply Nat.eq_of_testBit_eq
  intro i
  rw [byteS_bit s k i hk]
  by_cases hi : i < 8
  · rw [h i hi]; simp [hi]
  · have : x < 2 ^ i := Nat.lt_of_lt_of_le hx (by
      have := Nat.pow_le_pow_right (n := 2) (by decide) (show 8 ≤ i by omega)
      simpa using this)
    rw [Nat.testBit_lt_two_pow this]
    simp [hi]
theorem byteS_put (s : Bs) (n : Nat) (hn : n < 256) : byteS s 256 (n / 8) ||| 2 ^ (n % 8) = byteS (put1 s n true) 256 (n / 8) := by
  have h8 : 2 ^ (n % 8) < 2 ^ 8 := Nat.pow_lt_pow_right (by decide) (by omega)
  refine byteS_ext (by omega) (Nat.or_lt_two_pow (byteS_lt s 256 _) h8) fun i hi => ?_
  rw [Nat.testBit_or, byteS_bit s _ i (by omega), Nat.testBit_two_pow]
  unfold put1
  by_cases e : 8 * (n / 8) + i = n
  · rw [if_pos e]
    have : n % 8 = i := by omega
    simp [this]
  · rw [if_neg e]
    have : ¬ n % 8 = i := by omega
    simp [this, hi]
theorem byteS_put_far (s : Bs) (n k : Nat) (hk : k ≠ n / 8) (b : Bool) (hk3 : k < 32) : byteS (put1 s n b) 256 k = byteS s 256 k := by
  refine byteS_ext hk3 (byteS_lt _ _ _) fun i hi => ?_
  rw [byteS_bit _ _ _ hk3]
  unfold put1
  rw [if_neg (by omega)]
  simp [hi]

/-- What each operation makes of two bytes. -/
def opN (op : Nat) (a b : Nat) : Nat := if op = 1 then a &&& b else if op = 2 then a ||| b else if op = 3 then a ^^^ b else a &&& (255 ^^^ b)
theorem opN_lt (op a b : Nat) (ha : a < 256) (hb : b < 256) : opN op a b < 256 := by
  have ha' : a < 2 ^ 8 := ha
  have hb' : b < 2 ^ 8 := hb
  unfold opN
  split
  · exact Nat.and_lt_two_pow a hb'
  · split
    · exact Nat.or_lt_two_pow ha' hb'
    · split
      · exact Nat.xor_lt_two_pow ha' hb'
      · exact Nat.and_lt_two_pow a (Nat.xor_lt_two_pow (by decide) hb')
theorem byteS_op (op : Nat) (s t : Bs) (k : Nat) (hk : k < 32) : opN op (byteS s 256 k) (byteS t 256 k) = byteS (opS op s t) 256 k := by
  refine byteS_ext hk (opN_lt op _ _ (byteS_lt _ _ _) (byteS_lt _ _ _)) fun i hi => ?_
  unfold opN opS
  have h255 : Nat.testBit 255 i = true := by
    have : ∀ i, i < 8 → Nat.testBit 255 i = true := by decide
    exact this i hi
  split
  · rw [Nat.testBit_and, byteS_bit _ _ _ hk, byteS_bit _ _ _ hk]; simp [hi]
  · split
    · rw [Nat.testBit_or, byteS_bit _ _ _ hk, byteS_bit _ _ _ hk]; simp [hi]
    · split
      · rw [Nat.testBit_xor, byteS_bit _ _ _ hk, byteS_bit _ _ _ hk]; simp [hi]
      · rw [Nat.testBit_and, Nat.testBit_xor, h255, byteS_bit _ _ _ hk, byteS_bit _ _ _ hk]; simp [hi]
/-- The numbers from p on. -/
def fromS (s : Bs) (p : Nat) : Bs := fun n => decide (p ≤ n) && s n
theorem byteS_start (s : Bs) (k : Nat) (hk : k < 32) : byteS (fromS s (8 * k)) 256 k = byteS s 256 k := by
  refine byteS_ext hk (byteS_lt _ _ _) fun i hi => ?_
  rw [byteS_bit _ _ _ hk]
  unfold fromS
  simp [hi]

/-- The place of the least digit, by the table; how many digits there are. -/
def tzT : List Nat := [8, 0, 1, 0, 2, 0, 1, 0, 3, 0, 1, 0, 2, 0, 1, 0, 4, 0, 1, 0, 2, 0, 1, 0, 3, 0, 1, 0, 2, 0, 1, 0, 5, 0, 1, 0, 2, 0, 1, 0, 3, 0, 1, 0, 2, 0, 1, 0, 4, 0, 1, 0, 2, 0, 1, 0, 3, 0, 1, 0, 2, 0, 1, 0, 6, 0, 1, 0, 2, 0, 1, 0, 3, 0, 1, 0, 2, 0, 1, 0, 4, 0, 1, 0, 2, 0, 1, 0, 3, 0, 1, 0, 2, 0, 1, 0, 5, 0, 1, 0, 2, 0, 1, 0, 3, 0, 1, 0, 2, 0, 1, 0, 4, 0, 1, 0, 2, 0, 1, 0, 3, 0, 1, 0, 2, 0, 1, 0, 7, 0, 1, 0, 2, 0, 1, 0, 3, 0, 1, 0, 2, 0, 1, 0, 4, 0, 1, 0, 2, 0, 1, 0, 3, 0, 1, 0, 2, 0, 1, 0, 5, 0, 1, 0, 2, 0, 1, 0, 3, 0, 1, 0, 2, 0, 1, 0, 4, 0, 1, 0, 2, 0, 1, 0, 3, 0, 1, 0, 2, 0, 1, 0, 6, 0, 1, 0, 2, 0, 1, 0, 3, 0, 1, 0, 2, 0, 1, 0, 4, 0, 1, 0, 2, 0, 1, 0, 3, 0, 1, 0, 2, 0, 1, 0, 5, 0, 1, 0, 2, 0, 1, 0, 3, 0, 1, 0, 2, 0, 1, 0, 4, 0, 1, 0, 2, 0, 1, 0, 3, 0, 1, 0, 2, 0, 1, 0]
def onT : List Nat := [0, 1, 1, 2, 1, 2, 2, 3, 1, 2, 2, 3, 2, 3, 3, 4, 1, 2, 2, 3, 2, 3, 3, 4, 2, 3, 3, 4, 3, 4, 4, 5, 1, 2, 2, 3, 2, 3, 3, 4, 2, 3, 3, 4, 3, 4, 4, 5, 2, 3, 3, 4, 3, 4, 4, 5, 3, 4, 4, 5, 4, 5, 5, 6, 1, 2, 2, 3, 2, 3, 3, 4, 2, 3, 3, 4, 3, 4, 4, 5, 2, 3, 3, 4, 3, 4, 4, 5, 3, 4, 4, 5, 4, 5, 5, 6, 2, 3, 3, 4, 3, 4, 4, 5, 3, 4, 4, 5, 4, 5, 5, 6, 3, 4, 4, 5, 4, 5, 5, 6, 4, 5, 5, 6, 5, 6, 6, 7, 1, 2, 2, 3, 2, 3, 3, 4, 2, 3, 3, 4, 3, 4, 4, 5, 2, 3, 3, 4, 3, 4, 4, 5, 3, 4, 4, 5, 4, 5, 5, 6, 2, 3, 3, 4, 3, 4, 4, 5, 3, 4, 4, 5, 4, 5, 5, 6, 3, 4, 4, 5, 4, 5, 5, 6, 4, 5, 5, 6, 5, 6, 6, 7, 2, 3, 3, 4, 3, 4, 4, 5, 3, 4, 4, 5, 4, 5, 5, 6, 3, 4, 4, 5, 4, 5, 5, 6, 4, 5, 5, 6, 5, 6, 6, 7, 3, 4, 4, 5, 4, 5, 5, 6, 4, 5, 5, 6, 5, 6, 6, 7, 4, 5, 5, 6, 5, 6, 6, 7, 5, 6, 6, 7, 6, 7, 7, 8]
def tz (d : Nat) : Nat := tzT.getD d 0
def ones (d : Nat) : Nat := onT.getD d 0
theorem tz_all : ∀ d, d < 256 → d ≠ 0 → tz d < 8 ∧ d.testBit (tz d) = true ∧ (∀ i, i < 8 → i < tz d → d.testBit i = false) ∧ (∀ i, i < 8 → (d &&& (d - 1)).testBit i = (d.testBit i && decide (i ≠ tz d))) := by decide +kernel
theorem ones_all : ∀ d, d < 256 → ones d = ((List.range 8).filter fun i => d.testBit i).length := by decide +kernel
theorem byteS_none {s : Bs} {k p : Nat} (hk : k < 32) (h1 : 8 * k ≤ p) (h : byteS (fromS s p) 256 k = 0) (n : Nat) (hn : p ≤ n) (hn2 : n < 8 * (k + 1)) : s n = false := by
  have hb := byteS_bit (fromS s p) k (n - 8 * k) hk
  rw [h, Nat.zero_testBit, show 8 * k + (n - 8 * k) = n by omega] at hb
  unfold fromS at hb
  have h8 : n - 8 * k < 8 := by omega
  simpa [h8, hn] using hb.symm
theorem byteS_next {s : Bs} {k p : Nat} (hk : k < 32) (h1 : 8 * k ≤ p) (h : byteS (fromS s p) 256 k ≠ 0) :
    tz (byteS (fromS s p) 256 k) < 8 ∧ p ≤ 8 * k + tz (byteS (fromS s p) 256 k) ∧ s (8 * k + tz (byteS (fromS s p) 256 k)) = true ∧
      (∀ n, p ≤ n → n < 8 * k + tz (byteS (fromS s p) 256 k) → s n = false) ∧
      byteS (fromS s p) 256 k &&& (byteS (fromS s p) 256 k - 1) = byteS (fromS s (8 * k + tz (byteS (fromS s p) 256 k) + 1)) 256 k := by
  obtain ⟨g1, g2, g3, g4⟩ := tz_all _ (byteS_lt (fromS s p) 256 k) h
  generalize ht : tz (byteS (fromS s p) 256 k) = t at *
  rw [byteS_bit _ _ _ hk] at g2
  unfold fromS at g2
  simp only [Bool.and_eq_true, decide_eq_true_eq] at g2
  refine ⟨g1, g2.2.1, g2.2.2, fun n hn hn2 => ?_, ?_⟩
  · have := g3 (n - 8 * k) (by omega) (by omega)
    rw [byteS_bit _ _ _ hk, show 8 * k + (n - 8 * k) = n by omega] at this
    unfold fromS at this
    have h8 : n - 8 * k < 8 := by omega
    simpa [h8, hn] using this
  · refine byteS_ext hk ?_ fun i hi => ?_
    · exact Nat.and_lt_two_pow _ (show _ < 2 ^ 8 from Nat.lt_of_le_of_lt (Nat.sub_le _ _) (byteS_lt _ _ _))
    · rw [g4 i hi, byteS_bit _ _ _ hk]
      by_cases hit : i < t
      · have := g3 i hi hit
        rw [byteS_bit _ _ _ hk] at this
        rw [this]
        unfold fromS
        have : ¬ 8 * k + t + 1 ≤ 8 * k + i := by omega
        simp [this]
      · unfold fromS
        have h2 : p ≤ 8 * k + i := by omega
        by_cases e : i = t
        · subst e; simp; omega
        · have h3 : 8 * k + t + 1 ≤ 8 * k + i := by omega
          simp [hi, h2, e, h3]
theorem valsTo_skip {s : Bs} {p x : Nat} (h : p ≤ x) (hs : ∀ n, p ≤ n → n < x → s n = false) : valsTo s x = valsTo s p := by
  induction x with
  | zero => obtain rfl : p = 0 := by omega
            rfl
  | succ x ih =>
    by_cases e : p = x + 1
    · rw [e]
    · rw [valsTo_succ, if_neg (by rw [hs x (by omega) (by omega)]; decide), ih (by omega) fun n h1 h2 => hs n h1 (by omega)]
theorem valsTo_eight (s : Bs) (k : Nat) (hk : k < 32) : (valsTo s (8 * (k + 1))).length = (valsTo s (8 * k)).length + ones (byteS s 256 k) := by
  rw [ones_all _ (byteS_lt _ _ _)]
  unfold valsTo
  rw [show 8 * (k + 1) = 8 * k + 8 by omega, List.range_add, List.filter_append, List.length_append, List.filter_map, List.length_map]
  congr 2
  apply List.filter_congr
  intro i hi
  have := List.mem_range.1 hi
  rw [byteS_bit _ _ _ hk]
  simp [this]

/-- The numbers of a list ahead of the first that is none. -/
def goodZ (z : Int) : Bool := decide (0 ≤ z) && decide (z < 256)
/-- A span put in. -/
def spanS (s : Bs) (a b : Nat) : Bs := fun n => s n || (decide (a ≤ n) && decide (n < b))
theorem spanS_zero (s : Bs) (a : Nat) : spanS s a a = s := by
  funext n
  unfold spanS
  have : (decide (a ≤ n) && decide (n < a)) = false := by simp
  rw [this, Bool.or_false]
theorem spanS_put (s : Bs) (a b : Nat) (h : a ≤ b) : put1 (spanS s a b) b true = spanS s a (b + 1) := by
  funext n
  unfold put1 spanS
  by_cases e : n = b
  · subst e; simp [h]
  · rw [if_neg e]
    congr 2
    rw [decide_eq_decide]; omega
theorem spanS_over (s : Bs) (a b c : Nat) (h : 256 ≤ b) (hc : b ≤ c) : Same (spanS s a b) (spanS s a c) := fun n hn => by
  unfold spanS
  congr 2
  rw [decide_eq_decide]; omega
end Go.Proofs.Ytpjcndfamhehlaa
