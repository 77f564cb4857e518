/- The contracts of wide.Mul and wide.Shift, over this program. -/
import Derived.Test.YtalhaceclfeohaaWLeaf
import Derived.Shelf.Bits.Mul64
import Derived.RegionTactic
namespace Go.Proofs.Ytalhaceclfeohaa
open Go.RowKit Go.Lib

set_option maxHeartbeats 1000000 in
theorem mul64_nat (x y : Nat) (hx : x < 18446744073709551616) (hy : y < 18446744073709551616) (w : World) :
    Calls Try.prog 32 #[.int .u64 x, .int .u64 y] w fun e w' => e = .returned (.tuple #[.int .u64 ((x * y / 18446744073709551616 : Nat) : Int), .int .u64 ((x * y % 18446744073709551616 : Nat) : Int)]) ∧ w = w' := by
  obtain ⟨bd, bt, bw, hhi⟩ := Lib.mul64_hi x y hx hy
  have ba := Lib.half_mul_le (a := x / 4294967296) (b := y / 4294967296) (by omega) (by omega)
  have bb := Lib.half_mul_le (a := x / 4294967296) (b := y % 4294967296) (by omega) (by omega)
  have bc := Lib.half_mul_le (a := x % 4294967296) (b := y / 4294967296) (by omega) (by omega)
  have ba' : x / 4294967296 * (y / 4294967296) < 18446744073709551616 := by omega
  have bb' : x / 4294967296 * (y % 4294967296) < 18446744073709551616 := by omega
  have bc' : x % 4294967296 * (y / 4294967296) < 18446744073709551616 := by omega
  have bh1 : x / 4294967296 * (y / 4294967296) + (x / 4294967296 * (y % 4294967296) + x % 4294967296 * (y % 4294967296) / 4294967296) / 4294967296 < 18446744073709551616 := by omega
  have bh : x / 4294967296 * (y / 4294967296) + (x / 4294967296 * (y % 4294967296) + x % 4294967296 * (y % 4294967296) / 4294967296) / 4294967296 + ((x / 4294967296 * (y % 4294967296) + x % 4294967296 * (y % 4294967296) / 4294967296) % 4294967296 + x % 4294967296 * (y / 4294967296)) / 4294967296 < 18446744073709551616 := by omega
  go_enter Try.func32, Try.ntmps32
  go_wp2
  simp only [Mul64.maskN x hx, Mul64.maskN y hy, Mul64.divN, Mul64.mulN, Mul64.addN, Mul64.wrapN _ bd, Mul64.wrapN _ bb', Mul64.wrapN _ bt, Mul64.maskN _ bt, Mul64.wrapN _ bc', Mul64.wrapN _ bw, Mul64.wrapN _ ba', Mul64.wrapN _ bh1, Mul64.wrapN _ bh, Mul64.wrapM (x * y)]
  rw [hhi]
  go_ret2
  exact ⟨rfl, rfl⟩

theorem mul64_any (x y : Int) (hx : 0 ≤ x) (hx' : x < 18446744073709551616) (hy : 0 ≤ y) (hy' : y < 18446744073709551616) (w : World) :
    Calls Try.prog 32 #[.int .u64 x, .int .u64 y] w fun e w' => e = .returned (.tuple #[.int .u64 (x * y / 18446744073709551616), .int .u64 (x * y % 18446744073709551616)]) ∧ w = w' := by
  obtain ⟨x, rfl⟩ := Int.eq_ofNat_of_zero_le hx
  obtain ⟨y, rfl⟩ := Int.eq_ofNat_of_zero_le hy
  have h := mul64_nat x y (by omega) (by omega) w
  rw [Int.natCast_ediv, Int.natCast_emod, Int.natCast_mul] at h
  exact h

set_option maxHeartbeats 1000000 in
theorem mul_any (n m : Int) (h1 : -9223372036854775808 ≤ n) (h2 : n ≤ 9223372036854775807) (k1 : -9223372036854775808 ≤ m) (k2 : m ≤ 9223372036854775807) (w : World) :
    Calls Try.prog 20 #[.int .i64 n, .int .i64 m] w (RetW (n * m) w) := by
  have u1 : 0 ≤ IntKind.u64.wrap n := by rw [u64_wrap]; omega
  have u2 : IntKind.u64.wrap n < 18446744073709551616 := by rw [u64_wrap]; omega
  have u3 : 0 ≤ IntKind.u64.wrap m := by rw [u64_wrap]; omega
  have u4 : IntKind.u64.wrap m < 18446744073709551616 := by rw [u64_wrap]; omega
  have e1 := mul_hi n m h1 h2 k1 k2
  have e2 := mul_lo n m
  by_cases hn : n < 0 <;> by_cases hm : m < 0
  · simp only [if_pos hn, if_pos hm] at e1
    have H1 := Lib.hid e1; have H2 := Lib.hid e2
    clear e1 e2 
    go_enter Try.func20, Try.ntmps20
    go_wp2_with (go_at_call 32; refine (mul64_any _ _ (by first | assumption | omega) (by first | assumption | omega) (by first | assumption | omega) (by first | assumption | omega) _).mono ?_; rintro e w' ⟨rfl, rfl⟩)
    refine bodyPost_ret (v := (.agg #[.int .i64 (wHi (n * m)), .int .u64 (wLo (n * m))])) ?_ rfl ⟨rfl, (Below.refl _ _).alloc (Nat.le_refl _) _⟩
    rw [← H1.out, ← H2.out]
    simp [results, Try.results20, go_sem, u64_wrap, wrap64]
    omega
  · have em : m % 18446744073709551616 = m := by omega
    simp only [em, if_pos hn, if_neg hm, Int.sub_zero] at e1
    simp only [em] at e2
    have H1 := Lib.hid e1; have H2 := Lib.hid e2
    clear e1 e2 em
    go_enter Try.func20, Try.ntmps20
    go_wp2_with (go_at_call 32; refine (mul64_any _ _ (by first | assumption | omega) (by first | assumption | omega) (by first | assumption | omega) (by first | assumption | omega) _).mono ?_; rintro e w' ⟨rfl, rfl⟩)
    refine bodyPost_ret (v := (.agg #[.int .i64 (wHi (n * m)), .int .u64 (wLo (n * m))])) ?_ rfl ⟨rfl, (Below.refl _ _).alloc (Nat.le_refl _) _⟩
    rw [← H1.out, ← H2.out]
    simp [results, Try.results20, go_sem, u64_wrap, wrap64]
  · have en : n % 18446744073709551616 = n := by omega
    simp only [en, if_neg hn, if_pos hm, Int.sub_zero] at e1
    simp only [en] at e2
    have H1 := Lib.hid e1; have H2 := Lib.hid e2
    clear e1 e2 en 
    go_enter Try.func20, Try.ntmps20
    go_wp2_with (go_at_call 32; refine (mul64_any _ _ (by first | assumption | omega) (by first | assumption | omega) (by first | assumption | omega) (by first | assumption | omega) _).mono ?_; rintro e w' ⟨rfl, rfl⟩)
    refine bodyPost_ret (v := (.agg #[.int .i64 (wHi (n * m)), .int .u64 (wLo (n * m))])) ?_ rfl ⟨rfl, (Below.refl _ _).alloc (Nat.le_refl _) _⟩
    rw [← H1.out, ← H2.out]
    simp [results, Try.results20, go_sem, u64_wrap, wrap64]
  · have en : n % 18446744073709551616 = n := by omega
    have em : m % 18446744073709551616 = m := by omega
    simp only [en, em, if_neg hn, if_neg hm, Int.sub_zero] at e1
    simp only [en, em] at e2
    have H1 := Lib.hid e1; have H2 := Lib.hid e2
    clear e1 e2 en em
    go_enter Try.func20, Try.ntmps20
    go_wp2_with (go_at_call 32; refine (mul64_any _ _ (by first | assumption | omega) (by first | assumption | omega) (by first | assumption | omega) (by first | assumption | omega) _).mono ?_; rintro e w' ⟨rfl, rfl⟩)
    refine bodyPost_ret (v := (.agg #[.int .i64 (wHi (n * m)), .int .u64 (wLo (n * m))])) ?_ rfl ⟨rfl, (Below.refl _ _).alloc (Nat.le_refl _) _⟩
    rw [← H1.out, ← H2.out]
    simp [results, Try.results20, go_sem, wrap64]

theorem bits_or_i64 (x y : Int) (a b k : Nat) (hx : x % 18446744073709551616 = ((2 ^ k * a : Nat) : Int)) (hy : y = (b : Int)) (hb : b < 2 ^ k) (hk : k ≤ 63) :
    bits .or .i64 (wrap64 x) (wrap64 y) = wrap64 (x + y) := by
  have hp : 2 ^ k ≤ 2 ^ 63 := Nat.pow_le_pow_right (by decide) hk
  rw [show (2 : Nat) ^ 63 = 9223372036854775808 from rfl] at hp
  have e1 : (BitVec.ofInt 64 (wrap64 x)).toNat = 2 ^ k * a := by
    rw [BitVec.toNat_ofInt]; unfold wrap64
    generalize 2 ^ k * a = c at *
    omega
  have e2 : (BitVec.ofInt 64 (wrap64 y)).toNat = b := by
    rw [BitVec.toNat_ofInt]; unfold wrap64
    omega
  show IntKind.i64.wrap ((BitVec.ofInt 64 (wrap64 x) ||| BitVec.ofInt 64 (wrap64 y)).toNat : Int) = _
  rw [BitVec.toNat_or, e1, e2, ← Nat.two_pow_add_eq_or_of_lt hb, IntKind.wrap_i64]
  unfold wrap64
  generalize 2 ^ k * a = c at *
  omega

set_option maxHeartbeats 1000000 in
theorem shift_small (z : Int) (k : Nat) (hk : k ≤ 63) (w : World) : Calls Try.prog 22 #[(.agg #[.int .i64 (wHi (z)), .int .u64 (wLo (z))]), .int .i64 k] w (RetW (shZ z k) w) := by
  have a1 := wHi_lo z; have a2 := wHi_up z; have a3 := wLo_lo z; have a4 := wLo_up z
  have n0 : (0 : Int) ≤ k := by omega
  have n1 : ¬ (k : Int) < 0 := by omega
  have n2 : ¬ 127 < (k : Int) := by omega
  have n3 : (k : Int) ≤ 63 := by omega
  have t1 : ((k : Int)).toNat = k := by omega
  have t2 : (64 - (k : Int)).toNat = 64 - k := by omega
  obtain ⟨a, b, c1, c2, c3, c4⟩ := sh_or (wHi z) (wLo z) k hk a3 a4
  have H1 := Lib.hid ((bits_or_i64 _ _ a b k c1 c2 c3 hk).trans (by unfold wrap64; exact sh_hi z k (by omega)))
  have H2 := Lib.hid (sh_lo z k)
  have H3 := Lib.hid (shZ_in z k (by omega))
  clear c1 c2 c3 c4
  go_enter Try.func22, Try.ntmps22
  go_wp2
  go_region
  all_goals
    go_wp2
    refine bodyPost_ret (v := (.agg #[.int .i64 (wHi (shZ z k)), .int .u64 (wLo (shZ z k))])) ?_ rfl ⟨rfl, (((Below.refl _ _).alloc (Nat.le_refl _) _).alloc (by simp) _).drew⟩
    rw [H3.out, ← H1.out, ← H2.out]
    simp [results, Try.results22, go_sem, u64_wrap]

set_option maxHeartbeats 1000000 in
theorem shift_big (z : Int) (k : Nat) (hk : k ≤ 63) (w : World) : Calls Try.prog 22 #[(.agg #[.int .i64 (wHi (z)), .int .u64 (wLo (z))]), .int .i64 (k + 64)] w (RetW (shZ z (k + 64)) w) := by
  have a1 := wHi_lo z; have a2 := wHi_up z; have a3 := wLo_lo z; have a4 := wLo_up z
  have n0 : (0 : Int) ≤ k + 64 := by omega
  have n1 : ¬ (k : Int) + 64 < 0 := by omega
  have n2 : ¬ 127 < (k : Int) + 64 := by omega
  have n3 : 63 < (k : Int) + 64 := by omega
  have n4 : (k : Int) + 64 ≤ 127 := by omega
  have n5 : (0 : Int) ≤ k := by omega
  have H1 := Lib.hid (sh_hi_big z k)
  have H3 : Hid (shZ z (k + 64) = z * 2 ^ (64 + k)) := Lib.hid (by have := shZ_in z (64 + k) (by omega); rw [← this]; congr 1; omega)
  go_enter Try.func22, Try.ntmps22
  go_wp2
  refine bodyPost_ret (v := (.agg #[.int .i64 (wHi (shZ z (k + 64))), .int .u64 (wLo (shZ z (k + 64)))])) ?_ rfl ⟨rfl, ((Below.refl _ _).alloc (Nat.le_refl _) _).alloc (by simp) _⟩
  rw [H3.out, ← H1.out.1, H1.out.2]
  simp [results, Try.results22, go_sem, u64_wrap, wrap64]

set_option maxHeartbeats 1000000 in
theorem shift_out (z b : Int) (h1 : -9223372036854775808 ≤ b) (h2 : b ≤ 9223372036854775807) (h : b < 0 ∨ 127 < b) (w : World) : Calls Try.prog 22 #[(.agg #[.int .i64 (wHi (z)), .int .u64 (wLo (z))]), .int .i64 b] w (RetW (shZ z b) w) := by
  have H3 := Lib.hid (shZ_out z b h)
  rcases h with h | h
  · go_enter Try.func22, Try.ntmps22
    go_wp2
    refine bodyPost_ret (v := (.agg #[.int .i64 (wHi (shZ z b)), .int .u64 (wLo (shZ z b))])) ?_ rfl ⟨rfl, ((Below.refl _ _).alloc (Nat.le_refl _) _).alloc (by simp) _⟩
    rw [H3.out, show wHi 0 = 0 from rfl, show wLo 0 = 0 from rfl]
    simp [results, Try.results22, go_sem]
  · have h' : ¬ b < 0 := by omega
    go_enter Try.func22, Try.ntmps22
    go_wp2
    refine bodyPost_ret (v := (.agg #[.int .i64 (wHi (shZ z b)), .int .u64 (wLo (shZ z b))])) ?_ rfl ⟨rfl, ((Below.refl _ _).alloc (Nat.le_refl _) _).alloc (by simp) _⟩
    rw [H3.out, show wHi 0 = 0 from rfl, show wLo 0 = 0 from rfl]
    simp [results, Try.results22, go_sem]

theorem shift_any (z b : Int) (h1 : -9223372036854775808 ≤ b) (h2 : b ≤ 9223372036854775807) (w : World) : Calls Try.prog 22 #[(.agg #[.int .i64 (wHi (z)), .int .u64 (wLo (z))]), .int .i64 b] w (RetW (shZ z b) w) := by
  by_cases h : b < 0 ∨ 127 < b
  · exact shift_out z b h1 h2 h w
  · by_cases h' : b ≤ 63
    · obtain ⟨k, rfl⟩ := Int.eq_ofNat_of_zero_le (a := b) (by omega)
      exact shift_small z k (by omega) w
    · obtain ⟨k, hk⟩ := Int.eq_ofNat_of_zero_le (a := b - 64) (by omega)
      obtain rfl : b = k + 64 := by omega
      exact shift_big z k (by omega) w
end Go.Proofs.Ytalhaceclfeohaa
