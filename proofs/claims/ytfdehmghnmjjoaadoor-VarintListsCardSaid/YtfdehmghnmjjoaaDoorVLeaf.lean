/- The contracts of package varint's functions that have no loop, over this program. -/
import Derived.Test.YtfdehmghnmjjoaaDoorProg
import Derived.Test.YtfdehmghnmjjoaaDoorVMath
import Derived.WalkKit
import Derived.WalkSpells
import Derived.Below
import Derived.Lib.Hide
import Derived.Laws.Externs
import Derived.Lib.SmallJoins
import Derived.Test.YtfdehmghnmjjoaaDoorWKit
import Derived.Deep.RegionHeld3
import Derived.Outline
namespace Go.Proofs.YtfdehmghnmjjoaaDoor
open Go.RowKit

theorem u64_wrap (n : Int) : IntKind.u64.wrap n = n % 18446744073709551616 := by
  simp [IntKind.wrap, IntKind.bits, IntKind.signed]

/-- A number with a sign, turned; and back. -/
def turnOf (n : Int) : Int := if n < 0 then 2 * (-1 - n) + 1 else 2 * n
def backOf (n : Int) : Int := if n % 2 = 1 then -1 - n / 2 else n / 2
theorem turn_lo {n : Int} (h1 : -9223372036854775808 ≤ n) (h2 : n ≤ 9223372036854775807) : 0 ≤ turnOf n ∧ turnOf n ≤ 18446744073709551615 := by unfold turnOf; split <;> omega
theorem back_lo {n : Int} (h1 : 0 ≤ n) (h2 : n ≤ 18446744073709551615) : -9223372036854775808 ≤ backOf n ∧ backOf n ≤ 9223372036854775807 := by unfold backOf; split <;> omega
theorem back_turn (n : Int) : backOf (turnOf n) = n := by unfold backOf turnOf; split <;> split <;> omega
theorem turn_back {n : Int} (h1 : 0 ≤ n) : turnOf (backOf n) = n := by unfold backOf turnOf; split <;> split <;> omega

theorem bits_xor_ones (x : Int) (h1 : 0 ≤ x) (h2 : x ≤ 18446744073709551615) : bits .xor .u64 x 18446744073709551615 = 18446744073709551615 - x := by
  show IntKind.u64.wrap ((BitVec.ofInt 64 x ^^^ BitVec.ofInt 64 18446744073709551615).toNat : Int) = _
  rw [show BitVec.ofInt 64 18446744073709551615 = BitVec.allOnes 64 from rfl, BitVec.xor_allOnes, BitVec.toNat_not, BitVec.toNat_ofInt, u64_wrap]
  omega
theorem bits_xor_zero (x : Int) (h1 : 0 ≤ x) (h2 : x ≤ 18446744073709551615) : bits .xor .u64 x 0 = x := by
  show IntKind.u64.wrap ((BitVec.ofInt 64 x ^^^ BitVec.ofInt 64 0).toNat : Int) = _
  rw [show BitVec.ofInt 64 0 = 0#64 from rfl, BitVec.xor_zero, BitVec.toNat_ofInt, u64_wrap]
  omega
theorem bits_xor_neg (x : Int) (h1 : -9223372036854775808 ≤ x) (h2 : x ≤ 9223372036854775807) : bits .xor .i64 x (-1) = -1 - x := by
  show IntKind.i64.wrap ((BitVec.ofInt 64 x ^^^ BitVec.ofInt 64 (-1)).toNat : Int) = _
  rw [show BitVec.ofInt 64 (-1) = BitVec.allOnes 64 from rfl, BitVec.xor_allOnes, BitVec.toNat_not, BitVec.toNat_ofInt, IntKind.wrap_i64]
  omega
theorem bits_xor_nil (x : Int) (h1 : -9223372036854775808 ≤ x) (h2 : x ≤ 9223372036854775807) : bits .xor .i64 x 0 = x := by
  show IntKind.i64.wrap ((BitVec.ofInt 64 x ^^^ BitVec.ofInt 64 0).toNat : Int) = _
  rw [show BitVec.ofInt 64 0 = 0#64 from rfl, BitVec.xor_zero, BitVec.toNat_ofInt, IntKind.wrap_i64]
  omega
theorem bits_and_one (n : Int) : bits .and .u64 n 1 = n % 2 := by
  show IntKind.u64.wrap ((BitVec.ofInt 64 n &&& BitVec.ofInt 64 1).toNat : Int) = _
  rw [BitVec.toNat_and, BitVec.toNat_ofInt, BitVec.toNat_ofInt, u64_wrap, show (1 % ((2 ^ 64 : Nat) : Int)).toNat = 1 from rfl, Nat.and_one_is_mod]
  omega
theorem turn_bits (n : Int) (h1 : -9223372036854775808 ≤ n) (h2 : n ≤ 9223372036854775807) :
    bits .xor .u64 (IntKind.u64.wrap (IntKind.u64.wrap n * 2)) (IntKind.u64.wrap (n / 9223372036854775808)) = turnOf n := by
  unfold turnOf
  split
  · rw [show IntKind.u64.wrap (n / 9223372036854775808) = 18446744073709551615 by rw [u64_wrap]; omega, bits_xor_ones _ (by rw [u64_wrap]; omega) (by rw [u64_wrap]; omega), u64_wrap, u64_wrap]
    omega
  · rw [show IntKind.u64.wrap (n / 9223372036854775808) = 0 by rw [u64_wrap]; omega, bits_xor_zero _ (by rw [u64_wrap]; omega) (by rw [u64_wrap]; omega), u64_wrap, u64_wrap]
    omega
theorem back_bits (n : Int) (h1 : 0 ≤ n) (h2 : n ≤ 18446744073709551615) :
    bits .xor .i64 (n / 2) (wrap64 (-wrap64 (bits .and .u64 n 1))) = backOf n := by
  rw [bits_and_one n]
  unfold backOf
  split
  · rename_i h
    rw [h, show wrap64 (-wrap64 1) = -1 by simp [wrap64], bits_xor_neg _ (by omega) (by omega)]
  · have h : n % 2 = 0 := by omega
    rw [h, show wrap64 (-wrap64 0) = 0 by simp [wrap64], bits_xor_nil _ (by omega) (by omega)]

theorem ret_int {k : IntKind} {a b : Int} (h : a = b) : Ending.returned (.int k a) = .returned (.int k b) := by rw [h]
theorem ret_bs {a b : ByteArray} (h : a = b) : Ending.returned (.string a) = .returned (.string b) := by rw [h]
theorem turn_ref (n : Int) (h1 : -9223372036854775808 ≤ n) (h2 : n ≤ 9223372036854775807) (w : World) : Calls Tryd.prog 15 #[.int .i64 n] w fun e w' => e = .returned (.int .u64 (turnOf n)) ∧ w = w' := by
  have H : Hid (turnOf n = if n < 0 then 2 * (-1 - n) + 1 else 2 * n) := Lib.hid rfl
  by_cases hn : n < 0
  · go_enter Tryd.func15, Tryd.ntmps15
    go_wp2
    go_ret
    exact ⟨ret_int (by rw [H.out, if_pos hn]), rfl⟩
  · go_enter Tryd.func15, Tryd.ntmps15
    go_wp2
    go_ret
    exact ⟨ret_int (by rw [H.out, if_neg (by omega)]), rfl⟩
theorem turn_any (n : Int) (h1 : -9223372036854775808 ≤ n) (h2 : n ≤ 9223372036854775807) (w : World) : Calls Tryd.prog 14 #[.int .i64 n] w fun e w' => e = .returned (.int .u64 (turnOf n)) ∧ w = w' := by
  have H := Lib.hid (turn_bits n h1 h2)
  go_enter Tryd.func14, Tryd.ntmps14
  go_wp2
  go_ret
  exact ⟨ret_int H.out, rfl⟩
theorem back_any (n : Int) (h1 : 0 ≤ n) (h2 : n ≤ 18446744073709551615) (w : World) : Calls Tryd.prog 16 #[.int .u64 n] w fun e w' => e = .returned (.int .i64 (backOf n)) ∧ w = w' := by
  have H := Lib.hid (back_bits n h1 h2)
  go_enter Tryd.func16, Tryd.ntmps16
  go_wp2
  go_ret
  exact ⟨ret_int H.out, rfl⟩
theorem back_ref (n : Int) (h1 : 0 ≤ n) (h2 : n ≤ 18446744073709551615) (w : World) : Calls Tryd.prog 17 #[.int .u64 n] w fun e w' => e = .returned (.int .i64 (backOf n)) ∧ w = w' := by
  have H : Hid (backOf n = if n % 2 = 1 then -1 - n / 2 else n / 2) := Lib.hid rfl
  by_cases hn : n % 2 = 1
  · have hb : (n % 2 == 1) = true := by simpa using hn
    have HN := Lib.hid hn
    clear hn
    go_enter Tryd.func17, Tryd.ntmps17
    go_wp2
    go_ret
    exact ⟨ret_int (by rw [H.out, if_pos HN.out]), rfl⟩
  · have hb : (n % 2 == 1) = false := by simpa using hn
    have HN := Lib.hid hn
    clear hn
    go_enter Tryd.func17, Tryd.ntmps17
    go_wp2
    go_ret
    exact ⟨ret_int (by rw [H.out, if_neg HN.out]), rfl⟩

/-- A part of a string of bytes. -/
theorem ext_mk (l : List UInt8) (a b : Nat) : (ByteArray.mk l.toArray).extract a b = ⟨((l.take b).drop a).toArray⟩ := by
  apply ByteArray.ext
  rw [ByteArray.data_extract]
  rw [List.extract_toArray, List.extract_eq_take_drop, List.drop_take]
theorem app_mk (a b : List UInt8) : ByteArray.mk a.toArray ++ ByteArray.mk b.toArray = ⟨(a ++ b).toArray⟩ := by
  rw [ByteArray.mk_append_mk, ← List.append_toArray]
theorem mk_str {a b : List UInt8} (h : a = b) : ByteArray.mk a.toArray = ⟨b.toArray⟩ := by rw [h]

theorem cut_any (l : List UInt8) (w : World) : Calls Tryd.prog 10 #[.string ⟨l.toArray⟩] w fun e w' => e = .returned (.string ⟨(l.take 2000).toArray⟩) ∧ w = w' := by
  have H := Lib.hid (ext_mk l)
  by_cases h : (l.length : Int) ≤ 2000
  · go_enter Tryd.func10, Tryd.ntmps10
    go_wp2
    go_ret
    exact ⟨ret_bs ((H.out 0 _).trans (mk_str (by rw [List.drop_zero, List.take_of_length_le (Nat.le_refl _), List.take_of_length_le (by omega)]))), rfl⟩
  · go_enter Tryd.func10, Tryd.ntmps10
    go_wp2
    go_ret
    exact ⟨ret_bs ((H.out 0 _).trans (mk_str (by simp))), rfl⟩
end Go.Proofs.YtfdehmghnmjjoaaDoor
