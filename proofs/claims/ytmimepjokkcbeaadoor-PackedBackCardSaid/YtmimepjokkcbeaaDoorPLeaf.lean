/- bits.Len, packed.Size, over this program. -/
import Derived.Test.YtmimepjokkcbeaaDoorVLeaf
import Derived.Test.YtmimepjokkcbeaaDoorPMath
import Derived.Shelf.Bits.Mul64
import Derived.Laws.MathBits
import Derived.RegionTactic
import Derived.Deep.RegionWith
namespace Go.Proofs.YtmimepjokkcbeaaDoor
open Go.RowKit Go.Lib

theorem wd_len (n : Nat) : bitLen n = wd n := by
  obtain ⟨h1, h2⟩ := bitLen_spec n
  refine Nat.le_antisymm ?_ (wd_le.2 h1)
  by_cases h0 : n = 0
  · subst h0; simp [bitLen]
  · have h3 := h2 h0
    rcases Nat.lt_or_ge (wd n) (bitLen n) with h | h
    · have := Nat.lt_of_lt_of_le (lt_wd n) (Nat.pow_le_pow_right (by decide) (show wd n ≤ bitLen n - 1 by omega))
      omega
    · exact h

set_option maxRecDepth 1000000 in
set_option maxHeartbeats 1000000 in
theorem len64_any (n : Nat) (hn : n < 65536) (w : World) : Calls Tryd.prog 39 #[.int .u64 n] w fun e w' => e = .returned (.int .i64 (wd n)) ∧ w = w' := by
  have h1 : ¬ (4294967296 : Int) ≤ n := by omega
  have h2 : ¬ (65536 : Int) ≤ n := by omega
  by_cases h : n < 256
  · have h3 : ¬ (256 : Int) ≤ n := by omega
    have hb := len8tab_get n (show n < 256 by omega)
    rw [wd_len] at hb
    have hw : wd n ≤ 8 := wd_le.2 h
    generalize wd n = k at *
    go_enter Tryd.func39, Tryd.ntmps39
    go_wp2
    go_ret
    exact ⟨rfl, rfl⟩
  · have h3 : (256 : Int) ≤ n := by omega
    obtain ⟨q, hq⟩ : ∃ q, q = n / 256 := ⟨_, rfl⟩
    have hql : q < 256 := by omega
    have hb := len8tab_get q hql
    rw [wd_len] at hb
    have hw : wd q ≤ 8 := wd_le.2 (by omega)
    have hs : Hid (wd n = wd q + 8) := Lib.hid (by rw [hq]; exact wd_shift n 8 (by omega))
    generalize wd q = k at *
    have hq2 : (n : Int) / 256 = q := by omega
    have hr : (q : Int) < 256 := by omega
    have hr2 : (0 : Int) ≤ q := by omega
    clear hq
    go_enter Tryd.func39, Tryd.ntmps39
    go_wp2
    go_ret
    exact ⟨ret_int (by rw [hs.out]; omega), rfl⟩
theorem len_any (n : Nat) (hn : n < 65536) (w : World) : Calls Tryd.prog 32 #[.int .u64 n] w fun e w' => e = .returned (.int .i64 (wd n)) ∧ w = w' := by
  go_enter Tryd.func32, Tryd.ntmps32
  go_wp2_with (go_at_call 39; refine (len64_any n hn _).mono ?_; rintro e w' ⟨rfl, rfl⟩)
  go_ret
  exact ⟨rfl, rfl⟩

set_option maxHeartbeats 1000000 in
theorem mul64_nat (x y : Nat) (hx : x < 18446744073709551616) (hy : y < 18446744073709551616) (w : World) :
    Calls Tryd.prog 29 #[.int .u64 x, .int .u64 y] w fun e w' => e = .returned (.tuple #[.int .u64 ((x * y / 18446744073709551616 : Nat) : Int), .int .u64 ((x * y % 18446744073709551616 : Nat) : Int)]) ∧ w = w' := by
  obtain ⟨bd, bt, bw, hhi⟩ := Lib.mul64_hi x y hx hy
  have ba := Lib.half_mul_le (a := x / 4294967296) (b := y / 4294967296) (by omega) (by omega)
  have bb := Lib.half_mul_le (a := x / 4294967296) (b := y % 4294967296) (by omega) (by omega)
  have bc := Lib.half_mul_le (a := x % 4294967296) (b := y / 4294967296) (by omega) (by omega)
  have ba' : x / 4294967296 * (y / 4294967296) < 18446744073709551616 := by omega
  have bb' : x / 4294967296 * (y % 4294967296) < 18446744073709551616 := by omega
  have bc' : x % 4294967296 * (y / 4294967296) < 18446744073709551616 := by omega
  have bh1 : x / 4294967296 * (y / 4294967296) + (x / 4294967296 * (y % 4294967296) + x % 4294967296 * (y % 4294967296) / 4294967296) / 4294967296 < 18446744073709551616 := by omega
  have bh : x / 4294967296 * (y / 4294967296) + (x / 4294967296 * (y % 4294967296) + x % 4294967296 * (y % 4294967296) / 4294967296) / 4294967296 + ((x / 4294967296 * (y % 4294967296) + x % 4294967296 * (y % 4294967296) / 4294967296) % 4294967296 + x % 4294967296 * (y / 4294967296)) / 4294967296 < 18446744073709551616 := by omega
  go_enter Tryd.func29, Tryd.ntmps29
  go_wp2
  simp only [Mul64.maskN x hx, Mul64.maskN y hy, Mul64.divN, Mul64.mulN, Mul64.addN, Mul64.wrapN _ bd, Mul64.wrapN _ bb', Mul64.wrapN _ bt, Mul64.maskN _ bt, Mul64.wrapN _ bc', Mul64.wrapN _ bw, Mul64.wrapN _ ba', Mul64.wrapN _ bh1, Mul64.wrapN _ bh, Mul64.wrapM (x * y)]
  rw [hhi]
  go_ret2
  exact ⟨rfl, rfl⟩
theorem mul64_small (x y : Nat) (hx : x ≤ 1000000) (hy : y ≤ 1000) (w : World) :
    Calls Tryd.prog 29 #[.int .u64 x, .int .u64 y] w fun e w' => e = .returned (.tuple #[.int .u64 0, .int .u64 ((x * y : Nat) : Int)]) ∧ w = w' := by
  have h : x * y ≤ 1000000 * 1000 := Nat.mul_le_mul hx hy
  have hm := mul64_nat x y (by omega) (by omega) w
  rwa [Nat.div_eq_of_lt (by omega), Nat.mod_eq_of_lt (by omega)] at hm
set_option maxHeartbeats 400000 in
theorem add64_small (x : Nat) (hx : x ≤ 1000000000) (w : World) : (callFunc 30 #[.int .u64 x, .int .u64 7, .int .u64 0]).run Tryd.prog w =
    .ok (.value (.tuple #[.int .u64 ((x : Int) + 7), .int .u64 0])) w := by
  have h := run_add64 (P := Tryd.prog) (w := w) x 7 0 (by omega) (by omega) (by omega) (by omega)
  rw [run_callFunc_extern Tryd.func30 (by kernel_rfl) (by kernel_rfl) (by kernel_rfl) (e := add64Entry) (by kernel_rfl)]
  rw [show ((x : Int) + 7 + 0) % 18446744073709551616 = (x : Int) + 7 by omega, show ((x : Int) + 7 + 0) / 18446744073709551616 = 0 by omega] at h
  rw [show (add64Entry #[Value.int .u64 (x : Int), .int .u64 7, .int .u64 0]).run Tryd.prog w = _ from h]
  simp only [Result.andThen]
set_option maxHeartbeats 1000000 in
theorem div64_small (x : Nat) (hx : x ≤ 1000000007) (w : World) :
    Calls Tryd.prog 31 #[.int .u64 0, .int .u64 x, .int .u64 8] w fun e w' => e = .returned (.tuple #[.int .u64 ((x / 8 : Nat) : Int), .int .u64 ((x % 8 : Nat) : Int)]) ∧ Below w.heap.size w w' := by
  have e0 : (x : Int).tmod 8 = (x : Int) % 8 := Int.tmod_eq_emod_of_nonneg (by omega)
  go_enter Tryd.func31, Tryd.ntmps31
  go_wp2
  go_region
  all_goals
    go_wp2
    go_ret2
    refine ⟨?_, (Below.refl _ _).drew⟩
    simp

/-- Size, of numbers with a sign. -/
def szI (n m : Int) : Int := if n < 0 ∨ m < 0 then 0 else (szOf n.toNat m.toNat : Nat)
theorem szI_nat (x y : Nat) : szI x y = (szOf x y : Nat) := by
  unfold szI
  rw [if_neg (by omega), Int.toNat_natCast, Int.toNat_natCast]
theorem szI_low {n m : Int} (h : n ≤ 0 ∨ m ≤ 0) : szI n m = 0 := by
  unfold szI
  split
  · rfl
  · rename_i h2
    have hc : n = 0 ∨ m = 0 := by omega
    rcases hc with rfl | rfl <;> simp [szOf]
/-- Size of numbers as few, and as small, as these. -/
theorem size_any (n m : Int) (hn : n ≤ 1000000) (hm : m ≤ 1000) (w : World) :
    Calls Tryd.prog 20 #[.int .i64 n, .int .i64 m] w fun e w' => e = .returned (.int .i64 (szI n m)) ∧ Below w.heap.size w w' := by
  by_cases hneg : n < 0 ∨ m < 0
  · have H : Hid (szI n m = 0) := Lib.hid (szI_low (by omega))
    have hc : n < 0 ∨ (¬ n < 0 ∧ m < 0) := by omega
    clear hneg
    rcases hc with h | ⟨h, h'⟩
    · go_enter Tryd.func20, Tryd.ntmps20
      go_wp2
      go_ret
      exact ⟨ret_int H.out.symm, Below.refl _ _⟩
    · go_enter Tryd.func20, Tryd.ntmps20
      go_wp2
      go_ret
      exact ⟨ret_int H.out.symm, Below.refl _ _⟩
  · obtain ⟨x, rfl⟩ := Int.eq_ofNat_of_zero_le (show 0 ≤ n by omega)
    obtain ⟨y, rfl⟩ := Int.eq_ofNat_of_zero_le (show 0 ≤ m by omega)
    have hz : Hid (szI x y = ((x * y + 7) / 8 : Nat)) := Lib.hid (szI_nat x y)
    have hM := Lib.hid (mul64_small x y (by omega) (by omega))
    have hp : x * y ≤ 1000000 * 1000 := Nat.mul_le_mul (by omega) (by omega)
    generalize x * y = p at *
    have hA := add64_small p (by omega)
    have hD := Lib.hid (div64_small (p + 7) (by omega))
    obtain ⟨q, hq⟩ : ∃ q, q = (p + 7) / 8 := ⟨_, rfl⟩
    obtain ⟨r, hr⟩ : ∃ r, r = (p + 7) % 8 := ⟨_, rfl⟩
    rw [← hq] at hz
    rw [← hq, ← hr] at hD
    have hq' : q ≤ 1000000000 := by omega
    have hx0 : ¬ (x : Int) < 0 := by omega
    have hy0 : ¬ (y : Int) < 0 := by omega
    have hD' : ∀ w, Calls Tryd.prog 31 #[.int .u64 0, .int .u64 ((p : Int) + 7), .int .u64 8] w fun e w' => e = .returned (.tuple #[.int .u64 q, .int .u64 r]) ∧ Below w.heap.size w w' := hD.out
    have HD := Lib.hid hD'
    have HQ : Hid (((p + 7 : Nat) : Int) = (p : Int) + 7) := Lib.hid rfl
    have hr' : r < 8 := by omega
    clear hneg hD' hD hq hr
    go_enter Tryd.func20, Tryd.ntmps20
    go_wp2_with (first | (go_at_call 29; refine (hM.out _).mono ?_; rintro e w' ⟨rfl, rfl⟩) | (go_at_call 31; refine (HD.out _).mono ?_; rintro e w' ⟨rfl, hb⟩))
    go_ret
    exact ⟨ret_int hz.out.symm, hb⟩
theorem size_nat (n m : Nat) (hn : n ≤ 1000000) (hm : m ≤ 1000) (w : World) :
    Calls Tryd.prog 20 #[.int .i64 n, .int .i64 m] w fun e w' => e = .returned (.int .i64 (szOf n m : Nat)) ∧ Below w.heap.size w w' := by
  have h := size_any n m (by omega) (by omega) w
  rwa [szI_nat] at h
theorem ref_size_any (n m : Int) (hn : n ≤ 1000000) (hm : m ≤ 1000) (h1 : -9223372036854775808 ≤ n) (h2 : -9223372036854775808 ≤ m) (w : World) :
    Calls Tryd.prog 21 #[.int .i64 n, .int .i64 m] w fun e w' => e = .returned (.int .i64 (szI n m)) ∧ w = w' := by
  by_cases hneg : n ≤ 0 ∨ m ≤ 0
  · have H : Hid (szI n m = 0) := Lib.hid (szI_low hneg)
    have hc : n ≤ 0 ∨ (¬ n ≤ 0 ∧ m ≤ 0) := by omega
    clear hneg
    rcases hc with h | ⟨h, h'⟩
    · go_enter Tryd.func21, Tryd.ntmps21
      go_wp2
      go_ret
      exact ⟨ret_int H.out.symm, rfl⟩
    · go_enter Tryd.func21, Tryd.ntmps21
      go_wp2
      go_ret
      exact ⟨ret_int H.out.symm, rfl⟩
  · obtain ⟨x, rfl⟩ := Int.eq_ofNat_of_zero_le (show 0 ≤ n by omega)
    obtain ⟨y, rfl⟩ := Int.eq_ofNat_of_zero_le (show 0 ≤ m by omega)
    have hp : x * y ≤ 1000000 * 1000 := Nat.mul_le_mul (by omega) (by omega)
    have hmul : (x : Int) * y = ((x * y : Nat) : Int) := (Int.natCast_mul x y).symm
    have H : Hid (szI x y = ((x * y + 7) / 8 : Nat)) := Lib.hid (szI_nat x y)
    generalize x * y = p at *
    have hx0 : ¬ (x : Int) ≤ 0 := by omega
    have hy0 : ¬ (y : Int) ≤ 0 := by omega
    have e0 : ((p : Int) + 7).tdiv 8 = ((p : Int) + 7) / 8 := Int.tdiv_eq_ediv_of_nonneg (by omega)
    clear hneg
    go_enter Tryd.func21, Tryd.ntmps21
    go_wp2
    go_ret
    exact ⟨ret_int (by rw [H.out]; omega), rfl⟩
theorem ref_size_nat (n m : Nat) (hn : n ≤ 1000000) (hm : m ≤ 1000) (w : World) :
    Calls Tryd.prog 21 #[.int .i64 n, .int .i64 m] w fun e w' => e = .returned (.int .i64 (szOf n m : Nat)) ∧ w = w' := by
  have h := ref_size_any n m (by omega) (by omega) (by omega) (by omega) w
  rwa [szI_nat] at h
end Go.Proofs.YtmimepjokkcbeaaDoor
