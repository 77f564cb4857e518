/- Wide numbers as pairs of halves: the plain arithmetic. No Go in sight. -/
import Derived.Below
namespace Go.Proofs.Ytalhaceclfeohaa
/-- The greater half of z, as a number of 64 bits with a sign. -/
def wHi (z : Int) : Int := (z / 18446744073709551616 + 9223372036854775808) % 18446744073709551616 - 9223372036854775808
/-- The lesser half of z. -/
def wLo (z : Int) : Int := z % 18446744073709551616
theorem wHi_lo (z : Int) : -9223372036854775808 ≤ wHi z := by unfold wHi; omega
theorem wHi_up (z : Int) : wHi z ≤ 9223372036854775807 := by unfold wHi; omega
theorem wLo_lo (z : Int) : 0 ≤ wLo z := by unfold wLo; omega
theorem wLo_up (z : Int) : wLo z ≤ 18446744073709551615 := by unfold wLo; omega
theorem w_of (h l : Int) (h1 : -9223372036854775808 ≤ h) (h2 : h ≤ 9223372036854775807) (h3 : 0 ≤ l) (h4 : l ≤ 18446744073709551615) :
    ∃ z, h = wHi z ∧ l = wLo z ∧ -170141183460469231731687303715884105728 ≤ z ∧ z ≤ 170141183460469231731687303715884105727 := by
  refine ⟨h * 18446744073709551616 + l, ?_, ?_, ?_, ?_⟩ <;> (try unfold wHi) <;> (try unfold wLo) <;> omega
/-- What the halves stand for. -/
def wCut (z : Int) : Int := (z + 170141183460469231731687303715884105728) % 340282366920938463463374607431768211456 - 170141183460469231731687303715884105728
theorem wCut_in (z : Int) (h1 : -170141183460469231731687303715884105728 ≤ z) (h2 : z ≤ 170141183460469231731687303715884105727) : wCut z = z := by unfold wCut; omega
theorem wCut_of (z : Int) : wCut z = wHi z * 18446744073709551616 + wLo z := by unfold wCut wHi wLo; omega
theorem w_congr {y z : Int} (h : wCut y = wCut z) : wHi y = wHi z ∧ wLo y = wLo z := by unfold wCut at h; unfold wHi wLo; omega
theorem w_inj {y z : Int} (h1 : wHi y = wHi z) (h2 : wLo y = wLo z) : wCut y = wCut z := by rw [wCut_of, wCut_of, h1, h2]
/-- The sum of halves, with what is carried. -/
theorem add_lo (y z : Int) : (wLo y + wLo z) % 18446744073709551616 = wLo (y + z) := by unfold wLo; omega
theorem add_hi (y z : Int) : ((((wHi y) % 18446744073709551616 + (wHi z) % 18446744073709551616 + (wLo y + wLo z) / 18446744073709551616) % 18446744073709551616) + 9223372036854775808) % 18446744073709551616 - 9223372036854775808 = wHi (y + z) := by
  unfold wLo wHi; omega
theorem of_hi (n : Int) (h1 : -9223372036854775808 ≤ n) (h2 : n ≤ 9223372036854775807) : n / 9223372036854775808 = wHi n := by unfold wHi; omega
theorem of_lo (n : Int) : n % 18446744073709551616 = wLo n := rfl
/-- A wide number as a number of 64 bits, where it is one. -/
def toN (z : Int) : Int := if -9223372036854775808 ≤ wCut z ∧ wCut z ≤ 9223372036854775807 then wCut z else 0
/-- .. and the error. -/
def toE (z : Int) : Int := if -9223372036854775808 ≤ wCut z ∧ wCut z ≤ 9223372036854775807 then 0 else 10
/-- The lesser half, with a sign. -/
def wSgn (z : Int) : Int := (wLo z + 9223372036854775808) % 18446744073709551616 - 9223372036854775808
theorem wSgn_lo (z : Int) : -9223372036854775808 ≤ wSgn z := by unfold wSgn; omega
theorem wSgn_up (z : Int) : wSgn z ≤ 9223372036854775807 := by unfold wSgn; omega
theorem to_in {z : Int} (h : wHi (wSgn z) = wHi z) : wLo (wSgn z) = wLo z ∧ toN z = wSgn z ∧ toE z = 0 := by
  have hl : wLo (wSgn z) = wLo z := by unfold wSgn wLo; omega
  have hc := w_inj h hl
  have h1 := wSgn_lo z
  have h2 := wSgn_up z
  rw [wCut_in (wSgn z) (by omega) (by omega)] at hc
  unfold toN toE
  rw [← hc, if_pos ⟨h1, h2⟩, if_pos ⟨h1, h2⟩]
  exact ⟨hl, rfl, rfl⟩
theorem to_out {z : Int} (h : wHi (wSgn z) ≠ wHi z) : toN z = 0 ∧ toE z = 10 := by
  have h' : ¬ (-9223372036854775808 ≤ wCut z ∧ wCut z ≤ 9223372036854775807) := by
    intro hr
    apply h
    unfold wSgn
    unfold wCut at hr
    unfold wHi wLo
    omega
  unfold toN toE
  rw [if_neg h', if_neg h']
  exact ⟨rfl, rfl⟩
theorem not_hi (z : Int) : -1 - wHi z = wHi (-1 - z) := by unfold wHi; omega
theorem not_lo (z : Int) : 18446744073709551615 - wLo z = wLo (-1 - z) := by unfold wLo; omega
/-- The product's halves, the signs taken off. -/
theorem mul_lo (n m : Int) : (n % 18446744073709551616 * (m % 18446744073709551616)) % 18446744073709551616 = wLo (n * m) := by
  unfold wLo; rw [← Int.mul_emod]
theorem mul_hi (n m : Int) (h1 : -9223372036854775808 ≤ n) (h2 : n ≤ 9223372036854775807) (k1 : -9223372036854775808 ≤ m) (k2 : m ≤ 9223372036854775807) :
    ((n % 18446744073709551616 * (m % 18446744073709551616)) / 18446744073709551616 - (if n < 0 then m % 18446744073709551616 else 0) - (if m < 0 then n % 18446744073709551616 else 0) + 9223372036854775808) % 18446744073709551616 - 9223372036854775808 = wHi (n * m) := by
  have e1 : n % 18446744073709551616 = if n < 0 then n + 18446744073709551616 else n := by split <;> omega
  have e2 : m % 18446744073709551616 = if m < 0 then m + 18446744073709551616 else m := by split <;> omega
  unfold wHi
  rw [e1, e2]
  by_cases hn : n < 0 <;> by_cases hm : m < 0 <;> simp only [hn, hm, if_true, if_false]
  · have e : (n + 18446744073709551616) * (m + 18446744073709551616) = n * m + (n + m + 18446744073709551616) * 18446744073709551616 := by
      rw [Int.add_mul, Int.mul_add, Int.mul_add]; omega
    rw [e, Int.add_mul_ediv_right _ _ (by decide)]
    omega
  · have e : (n + 18446744073709551616) * m = n * m + m * 18446744073709551616 := by rw [Int.add_mul]; omega
    rw [e, Int.add_mul_ediv_right _ _ (by decide)]
    omega
  · have e : n * (m + 18446744073709551616) = n * m + n * 18446744073709551616 := by rw [Int.mul_add]
    rw [e, Int.add_mul_ediv_right _ _ (by decide)]
    omega
  · omega
/-- z times 2 to the power by, or 0. -/
def shZ (z b : Int) : Int := if 0 ≤ b ∧ b ≤ 127 then z * 2 ^ b.toNat else 0
theorem shZ_in (z : Int) (k : Nat) (hk : k ≤ 127) : shZ z (k : Int) = z * 2 ^ k := by
  unfold shZ; rw [if_pos ⟨by omega, by omega⟩]; simp
theorem shZ_out (z b : Int) (h : b < 0 ∨ 127 < b) : shZ z b = 0 := by
  unfold shZ; rw [if_neg (by omega)]
theorem sh_lo (z : Int) (k : Nat) : (wLo z * 2 ^ k) % 18446744073709551616 = wLo (z * 2 ^ k) := by
  unfold wLo; rw [Int.mul_emod, Int.emod_emod, ← Int.mul_emod]
theorem w_parts (z : Int) : ∃ t, z = wHi z * 18446744073709551616 + wLo z + t * 340282366920938463463374607431768211456 :=
  ⟨(z / 18446744073709551616 + 9223372036854775808) / 18446744073709551616, by unfold wHi wLo; omega⟩
theorem sh_hi (z : Int) (k : Nat) (hk : k ≤ 64) : (wHi z * 2 ^ k + wLo z / 2 ^ (64 - k) + 9223372036854775808) % 18446744073709551616 - 9223372036854775808 = wHi (z * 2 ^ k) := by
  obtain ⟨t, ht⟩ := w_parts z
  have hp : (18446744073709551616 : Int) = 2 ^ (64 - k) * 2 ^ k := by
    rw [← Int.pow_add, show 64 - k + k = 64 from by omega]; rfl
  have hpos : (0 : Int) < 2 ^ k := Int.pow_pos (by decide)
  have hd : wLo z * 2 ^ k / 18446744073709551616 = wLo z / 2 ^ (64 - k) := by
    rw [hp, Int.mul_ediv_mul_of_pos_left _ _ hpos]
  have e : z * 2 ^ k = wLo z * 2 ^ k + (wHi z * 2 ^ k + t * 2 ^ k * 18446744073709551616) * 18446744073709551616 := by
    generalize (2 : Int) ^ k = p
    generalize wHi z = H at *
    generalize wLo z = L at *
    subst ht
    rw [Int.add_mul, Int.add_mul, Int.add_mul, Int.mul_right_comm H, Int.mul_right_comm t, Int.mul_assoc (t * p)]
    omega
  rw [show wHi (z * 2 ^ k) = (z * 2 ^ k / 18446744073709551616 + 9223372036854775808) % 18446744073709551616 - 9223372036854775808 from rfl, e, Int.add_mul_ediv_right _ _ (by decide), hd]
  generalize wLo z / 2 ^ (64 - k) = q
  generalize wHi z * 2 ^ k = r
  generalize t * 2 ^ k = u
  omega
theorem sh_hi_big (z : Int) (k : Nat) : ((wLo z * 2 ^ k) % 18446744073709551616 + 9223372036854775808) % 18446744073709551616 - 9223372036854775808 = wHi (z * 2 ^ (64 + k)) ∧ wLo (z * 2 ^ (64 + k)) = 0 := by
  have e : z * 2 ^ (64 + k) = z * 2 ^ k * 18446744073709551616 := by
    rw [Int.pow_add, show (2 : Int) ^ 64 = 18446744073709551616 from rfl, Int.mul_comm (18446744073709551616 : Int), Int.mul_assoc]
  rw [sh_lo, e]
  unfold wHi wLo
  generalize z * 2 ^ k = y
  omega
/-- What is joined: the one is a multiple of 2 to the power k, the other is less than that. -/
theorem sh_or (H L : Int) (k : Nat) (hk : k ≤ 63) (h0 : 0 ≤ L) (h1 : L ≤ 18446744073709551615) :
    ∃ a b : Nat, (H * 2 ^ k) % 18446744073709551616 = ((2 ^ k * a : Nat) : Int) ∧ L / 2 ^ (64 - k) = (b : Int) ∧ b < 2 ^ k ∧ 2 ^ k * a < 18446744073709551616 := by
  have hp : (18446744073709551616 : Int) = 2 ^ (64 - k) * 2 ^ k := by
    rw [← Int.pow_add, show 64 - k + k = 64 from by omega]; rfl
  have hpos : (0 : Int) < 2 ^ k := Int.pow_pos (by decide)
  have hpos' : (0 : Int) < 2 ^ (64 - k) := Int.pow_pos (by decide)
  have hm : (H * 2 ^ k) % 18446744073709551616 = (H % 2 ^ (64 - k)) * 2 ^ k := by
    rw [hp, Int.mul_comm H, Int.mul_comm (2 ^ (64 - k)), Int.mul_emod_mul_of_pos _ _ hpos, Int.mul_comm]
  have ha : 0 ≤ H % 2 ^ (64 - k) := Int.emod_nonneg _ (by omega)
  have hb : 0 ≤ L / 2 ^ (64 - k) := Int.ediv_nonneg h0 (by omega)
  obtain ⟨a, ha'⟩ := Int.eq_ofNat_of_zero_le ha
  obtain ⟨b, hb'⟩ := Int.eq_ofNat_of_zero_le hb
  have hlt : L / 2 ^ (64 - k) < 2 ^ k := by
    apply Int.ediv_lt_of_lt_mul hpos'
    rw [Int.mul_comm, ← hp]; omega
  have e1 : (H * 2 ^ k) % 18446744073709551616 = ((2 ^ k * a : Nat) : Int) := by
    rw [hm, ha', Int.natCast_mul, Int.mul_comm]; simp
  refine ⟨a, b, e1, hb', ?_, ?_⟩
  · rw [hb'] at hlt; exact_mod_cast hlt
  · have : (H * 2 ^ k) % 18446744073709551616 < 18446744073709551616 := Int.emod_lt_of_pos _ (by decide)
    rw [e1] at this
    generalize 2 ^ k * a = x at *
    omega
/-- What the first k binary digits of n come to, times m. -/
def mulP (n m : Int) (k : Nat) : Int := if k ≤ 63 then (n % 2 ^ k) * m else n * m
/-- Digit k of n. -/
def dig (n : Int) (k : Nat) : Int := n % 18446744073709551616 / 2 ^ k % 2
theorem dig_of (n : Int) (k : Nat) (hk : k ≤ 63) : dig n k = n / 2 ^ k % 2 := by
  have hpos : (0 : Int) < 2 ^ k := Int.pow_pos (by decide)
  have hM : (18446744073709551616 : Int) = 2 ^ k * (2 * 2 ^ (63 - k)) := by
    rw [Int.mul_comm 2, ← Int.pow_succ, ← Int.pow_add, show k + (63 - k + 1) = 64 from by omega]; rfl
  have e : n = n % 18446744073709551616 + 2 ^ k * (2 * 2 ^ (63 - k) * (n / 18446744073709551616)) := by
    rw [← Int.mul_assoc, ← hM]; omega
  have e2 : n / 2 ^ k = n % 18446744073709551616 / 2 ^ k + 2 * 2 ^ (63 - k) * (n / 18446744073709551616) := by
    conv => lhs; rw [e]
    rw [Int.add_mul_ediv_left _ _ (by omega)]
  unfold dig
  rw [e2, Int.mul_assoc]
  omega
theorem mulP_zero (n m : Int) : mulP n m 0 = 0 := by
  unfold mulP; rw [if_pos (by decide)]; simp [Int.emod_one]
theorem mulP_end (n m : Int) : mulP n m 64 = n * m := by
  unfold mulP; rw [if_neg (by decide)]
theorem emod_twice (n p : Int) (hp : 0 < p) : n % (p * 2) = n % p + p * (n / p % 2) := by
  have h0 := Int.emod_nonneg n (show p ≠ 0 by omega)
  have h1 := Int.emod_lt_of_pos n hp
  have e : n = n % p + p * (n / p) := (Int.emod_add_mul_ediv n p).symm
  have e2 : n = (n % p + p * (n / p % 2)) + p * 2 * (n / p / 2) := by
    have : n / p = n / p % 2 + 2 * (n / p / 2) := by omega
    conv => lhs; rw [e, this]
    rw [Int.mul_add, ← Int.mul_assoc]
    omega
  have hq : n / p % 2 = 0 ∨ n / p % 2 = 1 := by omega
  conv => lhs; rw [e2]
  rw [Int.add_mul_emod_self_left]
  rcases hq with hq | hq <;> rw [hq] <;> apply Int.emod_eq_of_lt <;> omega
theorem dig_step (n : Int) (k : Nat) (hk : k ≤ 63) : n % 2 ^ (k + 1) = n % 2 ^ k + 2 ^ k * dig n k := by
  rw [dig_of n k hk, Int.pow_succ, emod_twice _ _ (Int.pow_pos (by decide))]
theorem mulP_off (n m : Int) (h1 : -9223372036854775808 ≤ n) (h2 : n ≤ 9223372036854775807) (k : Nat) (hk : k ≤ 63) (h : dig n k ≠ 1) : mulP n m (k + 1) = mulP n m k := by
  have hd : dig n k = 0 := by unfold dig at *; omega
  have hs := dig_step n k hk
  rw [hd, Int.mul_zero, Int.add_zero] at hs
  unfold mulP
  by_cases hk2 : k + 1 ≤ 63
  · rw [if_pos hk2, if_pos hk, hs]
  · obtain rfl : k = 63 := by omega
    rw [if_neg (by decide), if_pos (by decide)]
    have hn : n % 2 ^ 63 = n := by
      rw [show (2 : Int) ^ 63 = 9223372036854775808 from rfl]
      unfold dig at hd
      rw [show (2 : Int) ^ 63 = 9223372036854775808 from rfl] at hd
      omega
    rw [hn]
theorem mulP_on (n m : Int) (k : Nat) (hk : k < 63) (h : dig n k = 1) : mulP n m k + m * 2 ^ k = mulP n m (k + 1) := by
  have hs := dig_step n k (by omega)
  rw [h, Int.mul_one] at hs
  unfold mulP
  rw [if_pos (by omega), if_pos (by omega), hs, Int.add_mul, Int.mul_comm m]
theorem mulP_last (n m : Int) (h1 : -9223372036854775808 ≤ n) (h2 : n ≤ 9223372036854775807) (h : dig n 63 = 1) : mulP n m 63 + -(m * 2 ^ 63) = mulP n m 64 := by
  have hn : n % 2 ^ 63 = n + 9223372036854775808 := by
    rw [show (2 : Int) ^ 63 = 9223372036854775808 from rfl]
    unfold dig at h
    rw [show (2 : Int) ^ 63 = 9223372036854775808 from rfl] at h
    omega
  unfold mulP
  rw [if_pos (by decide), if_neg (by decide), hn, Int.add_mul, show (2 : Int) ^ 63 = 9223372036854775808 from rfl]
  omega
end Go.Proofs.Ytalhaceclfeohaa
