/- The contracts of the functions that have no call but their own: frame.Sum; the document's Sum, four, number; cut. -/
import Derived.Test.YtkjiinhcmhoejaaDoorProg
import Derived.Test.YtkjiinhcmhoejaaDoorFMath
import Derived.WalkKit
import Derived.WalkSpells
import Derived.Below
import Derived.Lib.Hide
import Derived.Laws.Externs
import Derived.Lib.SmallJoins
import Derived.Test.YtkjiinhcmhoejaaDoorWKit
import Derived.Deep.RegionHeld3
import Derived.Outline
namespace Go.Proofs.YtkjiinhcmhoejaaDoor
open Go.RowKit

theorem u32_wrap (n : Int) : IntKind.u32.wrap n = n % 4294967296 := by
  simp [IntKind.wrap, IntKind.bits, IntKind.signed]
theorem u8_wrap (n : Int) : IntKind.u8.wrap n = n % 256 := by
  simp [IntKind.wrap, IntKind.bits, IntKind.signed]
theorem bits_xor32 {a b : Nat} (ha : a < 4294967296) (hb : b < 4294967296) : bits .xor .u32 (a : Int) (b : Int) = ((a ^^^ b : Nat) : Int) := by
  show IntKind.u32.wrap ((BitVec.ofInt 32 a ^^^ BitVec.ofInt 32 b).toNat : Int) = _
  have h := Nat.xor_lt_two_pow (n := 32) ha hb
  rw [BitVec.toNat_xor, BitVec.ofInt_natCast, BitVec.ofInt_natCast, BitVec.toNat_ofNat, BitVec.toNat_ofNat, Nat.mod_eq_of_lt ha, Nat.mod_eq_of_lt hb, u32_wrap]
  omega
theorem bits_and15 {a : Nat} (ha : a < 4294967296) : bits .and .u32 (a : Int) 15 = ((a % 16 : Nat) : Int) := by
  show IntKind.u32.wrap ((BitVec.ofInt 32 a &&& BitVec.ofInt 32 15).toNat : Int) = _
  rw [BitVec.toNat_and, BitVec.ofInt_natCast, BitVec.toNat_ofNat, Nat.mod_eq_of_lt ha, show (BitVec.ofInt 32 15).toNat = 2 ^ 4 - 1 from rfl, Nat.and_two_pow_sub_one_eq_mod, u32_wrap]
  omega

theorem ret_int {k : IntKind} {a b : Int} (h : a = b) : Ending.returned (.int k a) = .returned (.int k b) := by rw [h]
theorem ret_bs {a b : ByteArray} (h : a = b) : Ending.returned (.string a) = .returned (.string b) := by rw [h]
/-- A part of a string of bytes. -/
theorem ext_mk (l : List UInt8) (a b : Nat) : (ByteArray.mk l.toArray).extract a b = ⟨((l.take b).drop a).toArray⟩ := by
  apply ByteArray.ext
  rw [ByteArray.data_extract]
  rw [List.extract_toArray, List.extract_eq_take_drop, List.drop_take]
theorem app_mk (a b : List UInt8) : ByteArray.mk a.toArray ++ ByteArray.mk b.toArray = ⟨(a ++ b).toArray⟩ := by
  rw [ByteArray.mk_append_mk, ← List.append_toArray]
theorem mk_str {a b : List UInt8} (h : a = b) : ByteArray.mk a.toArray = ⟨b.toArray⟩ := by rw [h]
/-- The byte at a place. -/
def byteAt (l : List UInt8) (j : Nat) : Nat := (l.getD j 0).toNat
theorem byteAt_lt (l : List UInt8) (j : Nat) : byteAt l j < 256 := UInt8.toNat_lt _
theorem byte_get (s : List UInt8) (k : Nat) (h : k < s.length) : ((⟨s.toArray⟩ : ByteArray)[k]'(show k < s.toArray.size by simpa using h)).toNat = byteAt s k := by
  unfold byteAt
  rw [List.getD_eq_getElem?_getD, List.getElem?_eq_getElem h]
  rfl
theorem byte_split {s : List UInt8} {k : Nat} (h : k < s.length) : s.take (k + 1) = s.take k ++ [s.getD k 0] := by
  rw [List.take_succ_eq_append_getElem h, List.getD_eq_getElem?_getD, List.getElem?_eq_getElem h]; rfl
theorem crc_round {s : List UInt8} {k : Nat} (h : k < s.length) (c : Nat) : crcFrom c (s.take (k + 1)) = step8 (crcFrom c (s.take k) ^^^ byteAt s k) := by
  rw [byte_split h, crcFrom_snoc]; rfl

/-- The table of steps lies as start-up laid it. -/
def Tab (w : World) : Prop := ∀ i, i < 16 → w.cell? ⟨0, i, none⟩ = some (.int .u32 (tabN i : Nat))
theorem Tab.lt {w : World} (h : Tab w) : 0 < w.heap.size := World.block_lt_of_cell? w _ (h 0 (by decide))
theorem Tab.below {w w' : World} (h : Tab w) (hb : Below w.heap.size w w') : Tab w' := fun i hi => (hb.cell (p := ⟨0, i, none⟩) h.lt).trans (h i hi)

set_option maxRecDepth 100000 in
set_option maxHeartbeats 2000000 in
theorem sum_any (s : List UInt8) (hs : s.length ≤ 9223372036854775807) (w : World) (hT : Tab w) :
    Calls Tryd.prog 16 #[.string ⟨s.toArray⟩] w fun e w' => e = .returned (.int .u32 (crc s : Nat)) ∧ w = w' := by
  have HT := Lib.hid hT
  clear hT
  go_enter Tryd.func16, Tryd.ntmps16
  go_wp2
  go_loopw [3, 7] (fun c i wr => ∃ k n : Nat, k ≤ s.length ∧ i = .int .i64 k ∧ c = .int .u32 n ∧ Hid (n = crcFrom 4294967295 (s.take k)) ∧ n < 4294967296 ∧ w = wr)
    (fun _ i _ => s.length - (intOf i).toNat)
  case atStart => exact ⟨0, 4294967295, Nat.zero_le _, rfl, rfl, Lib.hid rfl, by decide, rfl⟩
  case round =>
    obtain ⟨k, n, hk, rfl, rfl, HN, hn, rfl⟩ := hrel
    by_cases hlt : k < s.length
    · have hb := byte_get s k hlt
      have hbl := byteAt_lt s k
      have HR := Lib.hid (crc_round hlt 4294967295)
      rw [← HN.out] at HR
      generalize byteAt s k = b at *
      have e0 : bits .xor .u32 (n : Int) (b : Int) = _ := bits_xor32 hn (by omega)
      have hx0 : n ^^^ b < 4294967296 := Nat.xor_lt_two_pow (n := 32) hn (by omega)
      generalize n ^^^ b = x0 at *
      have a0 := bits_and15 hx0
      have hj0 : x0 % 16 < 16 := Nat.mod_lt _ (by decide)
      have c0 := HT.out (x0 % 16) hj0
      have hx1 := step4_lt hx0
      have s0 : bits .xor .u32 ((x0 : Int) / 16) (tabN (x0 % 16) : Nat) = ((step4 x0 : Nat) : Int) := by
        rw [step4_tab]
        exact bits_xor32 (a := x0 / 16) (by omega) (tabN_lt _ hj0)
      have HX : Hid (step8 x0 = step4 (step4 x0)) := Lib.hid rfl
      generalize step4 x0 = x1 at *
      generalize x0 % 16 = j0 at *
      generalize tabN j0 = t0 at *
      have a1 := bits_and15 hx1
      have hj1 : x1 % 16 < 16 := Nat.mod_lt _ (by decide)
      have c1 := HT.out (x1 % 16) hj1
      have hx2 := step4_lt hx1
      have s1 : bits .xor .u32 ((x1 : Int) / 16) (tabN (x1 % 16) : Nat) = ((step4 x1 : Nat) : Int) := by
        rw [step4_tab]
        exact bits_xor32 (a := x1 / 16) (by omega) (tabN_lt _ hj1)
      generalize step4 x1 = x2 at *
      generalize x1 % 16 = j1 at *
      generalize tabN j1 = t1 at *
      have hlt' : (k : Int) < s.length := by omega
      go_wp2
      go_roundw
      case rel => exact ⟨k + 1, x2, by omega, by simp, rfl, Lib.hid (by rw [HR.out, HX.out]), hx2, trivial⟩
      case measure => simp [intOf]; omega
    · obtain rfl : k = s.length := by omega
      have e0 : bits .xor .u32 IntKind.u32.max (n : Int) = ((4294967295 ^^^ n : Nat) : Int) := bits_xor32 (a := 4294967295) (by decide) hn
      have E0 := Lib.hid e0
      clear e0
      have hsg : IntKind.u32.signed = false := rfl
      have HC : Hid (crc s = n ^^^ 4294967295) := Lib.hid (by rw [HN.out, List.take_length]; rfl)
      go_wp2
      go_ret
      exact ⟨ret_int (by rw [E0.out, HC.out, Nat.xor_comm]), rfl⟩

/-- How a sum stands behind k of a byte's eight steps. -/
def stepN : Nat → Nat → Nat
  | 0, n => n
  | k + 1, n => step1 (stepN k n)
theorem stepN8 (n : Nat) : stepN 8 n = step8 n := rfl
theorem stepN_lt {n : Nat} (h : n < 4294967296) : ∀ k, stepN k n < 4294967296
  | 0 => h
  | k + 1 => step1_lt (stepN_lt h k)

set_option maxRecDepth 100000 in
set_option maxHeartbeats 2000000 in
theorem sum_ref (s : List UInt8) (hs : s.length ≤ 9223372036854775807) (w : World) :
    Calls Tryd.prog 17 #[.string ⟨s.toArray⟩] w fun e w' => e = .returned (.int .u32 (crc s : Nat)) ∧ w = w' := by
  go_enter Tryd.func17, Tryd.ntmps17
  go_wp2
  go_loopw [3, 4] (fun c i wr => ∃ k n : Nat, k ≤ s.length ∧ i = .int .i64 k ∧ c = .int .u32 n ∧ Hid (n = crcFrom 4294967295 (s.take k)) ∧ n < 4294967296 ∧ w = wr)
    (fun _ i _ => s.length - (intOf i).toNat)
  case atStart => exact ⟨0, 4294967295, Nat.zero_le _, rfl, rfl, Lib.hid rfl, by decide, rfl⟩
  case round =>
    obtain ⟨k, n, hk, rfl, rfl, HN, hn, rfl⟩ := hrel
    by_cases hlt : k < s.length
    · have hb := byte_get s k hlt
      have hbl := byteAt_lt s k
      have HR := Lib.hid (crc_round hlt 4294967295)
      rw [← HN.out] at HR
      generalize byteAt s k = b at *
      have e0 : bits .xor .u32 (n : Int) (b : Int) = _ := bits_xor32 hn (by omega)
      have hx0 : n ^^^ b < 4294967296 := Nat.xor_lt_two_pow (n := 32) hn (by omega)
      generalize n ^^^ b = x0 at *
      have hlt' : (k : Int) < s.length := by omega
      go_wp2
      go_loopw [3, 5] (fun c i wr => ∃ j n : Nat, j ≤ 8 ∧ i = .int .i64 j ∧ c = .int .u32 n ∧ Hid (n = stepN j x0) ∧ n < 4294967296 ∧ w = wr)
        (fun _ i _ => 8 - (intOf i).toNat)
      case atStart => exact ⟨0, x0, Nat.zero_le _, rfl, rfl, Lib.hid rfl, hx0, rfl⟩
      case round =>
        obtain ⟨j, m, hj, rfl, rfl, HM, hm, rfl⟩ := hrel
        by_cases hj8 : j < 8
        · have hj' : (j : Int) < 8 := by omega
          have HS : Hid (stepN (j + 1) x0 = step1 m) := Lib.hid (by rw [HM.out]; rfl)
          by_cases ho : m % 2 = 1
          · have ho' : ((m : Int) % 2 == 1) = true := by simp; omega
            have hs1 : step1 m < 4294967296 := step1_lt hm
            have e1 : bits .xor .u32 ((m : Int) / 2) 3988292384 = ((step1 m : Nat) : Int) := by
              rw [step1, if_pos ho]
              exact bits_xor32 (a := m / 2) (b := 3988292384) (by omega) (by decide)
            generalize step1 m = m1 at *
            clear ho
            go_wp2
            go_roundw
            case rel => exact ⟨j + 1, m1, by omega, by simp, rfl, Lib.hid HS.out.symm, hs1, trivial⟩
            case measure => simp [intOf]; omega
          · have ho' : ((m : Int) % 2 == 1) = false := by simp; omega
            have hs1 : step1 m < 4294967296 := step1_lt hm
            have e1 : (m : Int) / 2 = ((step1 m : Nat) : Int) := by
              rw [step1, if_neg ho]
              omega
            have E1 := Lib.hid e1
            generalize step1 m = m1 at *
            clear ho e1
            go_wp2
            go_roundw
            case rel => exact ⟨j + 1, m1, by omega, by simp, by rw [E1.out], Lib.hid HS.out.symm, hs1, trivial⟩
            case measure => simp [intOf]; omega
        · obtain rfl : j = 8 := by omega
          go_wp2
          go_roundw
          case rel => exact ⟨k + 1, m, by omega, by simp, rfl, Lib.hid (by rw [HR.out, HM.out, stepN8]), hm, trivial⟩
          case measure => simp [intOf]; omega
    · obtain rfl : k = s.length := by omega
      have e0 : bits .xor .u32 (n : Int) 4294967295 = ((n ^^^ 4294967295 : Nat) : Int) := bits_xor32 hn (b := 4294967295) (by decide)
      have HC : Hid (crc s = n ^^^ 4294967295) := Lib.hid (by rw [HN.out, List.take_length]; rfl)
      go_wp2
      go_ret
      exact ⟨ret_int (by rw [HC.out]), rfl⟩

theorem cut_any (l : List UInt8) (w : World) : Calls Tryd.prog 11 #[.string ⟨l.toArray⟩] w fun e w' => e = .returned (.string ⟨(l.take 2000).toArray⟩) ∧ w = w' := by
  have H := Lib.hid (ext_mk l)
  by_cases h : (l.length : Int) ≤ 2000
  · go_enter Tryd.func11, Tryd.ntmps11
    go_wp2
    go_ret
    exact ⟨ret_bs ((H.out 0 _).trans (mk_str (by rw [List.drop_zero, List.take_of_length_le (Nat.le_refl _), List.take_of_length_le (by omega)]))), rfl⟩
  · go_enter Tryd.func11, Tryd.ntmps11
    go_wp2
    go_ret
    exact ⟨ret_bs ((H.out 0 _).trans (mk_str (by simp))), rfl⟩
end Go.Proofs.YtkjiinhcmhoejaaDoor
