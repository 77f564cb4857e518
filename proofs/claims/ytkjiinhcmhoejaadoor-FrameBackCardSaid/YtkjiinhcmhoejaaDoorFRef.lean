/- The document's answers: four, number, Make, Read. -/
import Derived.Test.YtkjiinhcmhoejaaDoorFLeaf
import Derived.Deep.RegionWith
import Derived.Laws.Concat
import Derived.Laws.IdiomStrings
import Derived.RegionTactic
namespace Go.Proofs.YtkjiinhcmhoejaaDoor
open Go.RowKit

theorem bits_or32 (i : Nat) {a b : Nat} (hb : b < 2 ^ i) (h : 2 ^ i * a + b < 4294967296) : bits .or .u32 ((2 ^ i * a : Nat) : Int) (b : Int) = ((2 ^ i * a + b : Nat) : Int) := by
  show IntKind.u32.wrap ((BitVec.ofInt 32 ((2 ^ i * a : Nat) : Int) ||| BitVec.ofInt 32 b).toNat : Int) = _
  have e : 2 ^ i * a ||| b = 2 ^ i * a + b := (Nat.two_pow_add_eq_or_of_lt hb a).symm
  rw [BitVec.toNat_or, BitVec.ofInt_natCast, BitVec.ofInt_natCast, BitVec.toNat_ofNat, BitVec.toNat_ofNat, Nat.mod_eq_of_lt (show 2 ^ i * a < 2 ^ 32 by omega), Nat.mod_eq_of_lt (show b < 2 ^ 32 by omega), e, u32_wrap]
  omega

theorem or_four (b0 b1 b2 b3 : Nat) (l0 : b0 < 256) (l1 : b1 < 256) (l2 : b2 < 256) (l3 : b3 < 256) :
    bits .or .u32 (bits .or .u32 (bits .or .u32 ((b0 : Int) * 16777216) ((b1 : Int) * 65536)) ((b2 : Int) * 256)) (b3 : Int) = ((16777216 * b0 + 65536 * b1 + 256 * b2 + b3 : Nat) : Int) := by
  have o1 := bits_or32 24 (a := b0) (b := 65536 * b1) (by omega) (by omega)
  have o2 := bits_or32 16 (a := 256 * b0 + b1) (b := 256 * b2) (by omega) (by omega)
  have o3 := bits_or32 8 (a := 65536 * b0 + 256 * b1 + b2) (b := b3) (by omega) (by omega)
  rw [show (b0 : Int) * 16777216 = ((2 ^ 24 * b0 : Nat) : Int) by omega, show (b1 : Int) * 65536 = ((65536 * b1 : Nat) : Int) by omega, show (b2 : Int) * 256 = ((256 * b2 : Nat) : Int) by omega, o1,
    show ((2 ^ 24 * b0 + 65536 * b1 : Nat) : Int) = ((2 ^ 16 * (256 * b0 + b1) : Nat) : Int) by omega, o2,
    show ((2 ^ 16 * (256 * b0 + b1) + 256 * b2 : Nat) : Int) = ((2 ^ 8 * (65536 * b0 + 256 * b1 + b2) : Nat) : Int) by omega, o3]
  omega

theorem conv_cells (l : List UInt8) (c : Nat) (W : World) (b : Nat) (h : ∀ j (hj : j < l.length), W.cell? ⟨b, j, none⟩ = some (.int .u8 (l[j].toNat : Int))) : (convert 40 9 (.slice (some ⟨b, 0, none⟩) l.length c)).run Tryd.prog W = .ok (.string ⟨l.toArray⟩) W :=
  run_convert_bytes_back W _ _ _ ⟨b, 0, none⟩ c l Tryd.underlying40 Tryd.underlying5 Tryd.underlying9 (fun j hj => by
    have e : (⟨b, 0, none⟩ : Addr).add j = ⟨b, j, none⟩ := by unfold Addr.add; split <;> simp_all
    rw [e]; exact h j hj)
theorem conv_four (x0 x1 x2 x3 : UInt8) (W : World) (b : Nat) (h0 : W.cell? ⟨b, 0, none⟩ = some (.int .u8 (x0.toNat : Int))) (h1 : W.cell? ⟨b, 1, none⟩ = some (.int .u8 (x1.toNat : Int))) (h2 : W.cell? ⟨b, 2, none⟩ = some (.int .u8 (x2.toNat : Int))) (h3 : W.cell? ⟨b, 3, none⟩ = some (.int .u8 (x3.toNat : Int))) :
    (convert 40 9 (.slice (some ⟨b, 0, none⟩) 4 4)).run Tryd.prog W = .ok (.string ⟨#[x0, x1, x2, x3]⟩) W :=
  conv_cells [x0, x1, x2, x3] 4 W b (fun j hj => match j, hj with
    | 0, _ => h0
    | 1, _ => h1
    | 2, _ => h2
    | 3, _ => h3)

set_option maxRecDepth 100000 in
set_option maxHeartbeats 1000000 in
theorem four_ref (n : Nat) (w : World) : n < 4294967296 → Calls Tryd.prog 25 #[.int .u32 n] w fun e w' => e = .returned (.string ⟨(be4 n).toArray⟩) ∧ Below w.heap.size w w' := by
  intro hn
  have e0 : (n : Int) / 16777216 = ((UInt8.ofNat (n / 16777216 % 256)).toNat : Int) := by rw [ofNat_toNat _ (by omega)]; omega
  have e1 : (n : Int) / 65536 % 256 = ((UInt8.ofNat (n / 65536 % 256)).toNat : Int) := by rw [ofNat_toNat _ (by omega)]; omega
  have e2 : (n : Int) / 256 % 256 = ((UInt8.ofNat (n / 256 % 256)).toNat : Int) := by rw [ofNat_toNat _ (by omega)]; omega
  have e3 : (n : Int) % 256 = ((UInt8.ofNat (n % 256)).toNat : Int) := by rw [ofNat_toNat _ (by omega)]; omega
  have HB : Hid (be4 n = [UInt8.ofNat (n / 16777216 % 256), UInt8.ofNat (n / 65536 % 256), UInt8.ofNat (n / 256 % 256), UInt8.ofNat (n % 256)]) := Lib.hid rfl
  generalize UInt8.ofNat (n / 16777216 % 256) = x0 at *
  generalize UInt8.ofNat (n / 65536 % 256) = x1 at *
  generalize UInt8.ofNat (n / 256 % 256) = x2 at *
  generalize UInt8.ofNat (n % 256) = x3 at *
  have hcv := conv_four x0 x1 x2 x3 (w.alloc (.cells #[.int .u8 (x0.toNat : Int), .int .u8 (x1.toNat : Int), .int .u8 (x2.toNat : Int), .int .u8 (x3.toNat : Int)] 5)) w.heap.size (by simp) (by simp) (by simp) (by simp)
  go_enter Tryd.func25, Tryd.ntmps25
  go_wp2
  go_ret
  exact ⟨ret_bs (by rw [HB.out]), (Below.refl _ _).alloc (Nat.le_refl _) _⟩

set_option maxRecDepth 100000 in
set_option maxHeartbeats 2000000 in
theorem number_ref (s : List UInt8) (hs : s.length ≤ 9223372036854775807) (h4 : 4 ≤ s.length) (w : World) : Calls Tryd.prog 27 #[.string ⟨s.toArray⟩] w fun e w' => e = .returned (.int .u32 (num4 s : Nat)) ∧ Below w.heap.size w w' := by
  have g0 := byte_get s 0 (by omega)
  have g1 := byte_get s 1 (by omega)
  have g2 := byte_get s 2 (by omega)
  have g3 := byte_get s 3 (by omega)
  have l0 := byteAt_lt s 0
  have l1 := byteAt_lt s 1
  have l2 := byteAt_lt s 2
  have l3 := byteAt_lt s 3
  have HN : Hid (num4 s = 16777216 * byteAt s 0 + 65536 * byteAt s 1 + 256 * byteAt s 2 + byteAt s 3) := Lib.hid (by
    match s, h4 with
    | a :: b :: c :: d :: r, _ => rw [num4_at]; simp [byteAt]; omega)
  generalize byteAt s 0 = b0 at *
  generalize byteAt s 1 = b1 at *
  generalize byteAt s 2 = b2 at *
  generalize byteAt s 3 = b3 at *
  have HO := Lib.hid (or_four b0 b1 b2 b3 l0 l1 l2 l3)
  rw [← HN.out] at HO
  have h4' : (4 : Int) ≤ s.length := by omega
  go_enter Tryd.func27, Tryd.ntmps27
  go_wp2
  go_region
  all_goals
    go_wp2
    go_ret
    exact ⟨ret_int HO.out, (Below.refl _ _).drew⟩

set_option maxRecDepth 100000 in
set_option maxHeartbeats 2000000 in
theorem make_ref (l : List UInt8) (hl : l.length ≤ 60000) (w : World) : Calls Tryd.prog 13 #[.string ⟨l.toArray⟩] w fun e w' => e = .returned (.tuple #[.string ⟨(frameB l).toArray⟩, .int .i64 0]) ∧ Below w.heap.size w w' := by
  have hl' : (l.length : Int) ≤ 60000 := by omega
  have HF1 := Lib.hid (fun w => four_ref l.length w (by omega))
  have HF2 := Lib.hid (fun w => four_ref (crc l) w (crc_lt l))
  have HS := Lib.hid (sum_ref l (by omega))
  have h1 := be4_length l.length
  have h2 := be4_length (crc l)
  have HB : Hid (frameB l = be4 l.length ++ be4 (crc l) ++ l) := Lib.hid rfl
  have hcl := crc_lt l
  generalize be4 l.length = a at *
  generalize be4 (crc l) = b at *
  generalize crc l = c at *
  have hadd1 : ∀ W : World, (Op.stringOp .add ⟨a.toArray⟩ ⟨b.toArray⟩).run Tryd.prog W = .ok (.string ⟨(a ++ b).toArray⟩) W := fun W => by
    rw [run_string_add_sum W _ _ (by simp [ByteArray.size]; omega), app_mk]
  have hadd2 : ∀ W : World, (Op.stringOp .add ⟨(a ++ b).toArray⟩ ⟨l.toArray⟩).run Tryd.prog W = .ok (.string ⟨(a ++ b ++ l).toArray⟩) W := fun W => by
    rw [run_string_add_sum W _ _ (by simp [ByteArray.size]; omega), app_mk]
  replace HB := HB.out
  generalize a ++ b = d at *
  replace HB := Lib.hid HB
  clear h1 h2
  go_enter Tryd.func13, Tryd.ntmps13
  go_wp2_with fail
  refine (HF1.out _).mono ?_
  rintro e w1 ⟨rfl, hb1⟩
  go_wp2_with fail
  refine (HS.out _).mono ?_
  rintro e w' ⟨rfl, rfl⟩
  go_wp2_with fail
  refine (HF2.out _).mono ?_
  rintro e w2 ⟨rfl, hb2⟩
  go_wp2
  go_ret2
  exact ⟨by rw [HB.out]; rfl, hb1.trans (hb2.mono hb1.size)⟩

/-- What Read answers. -/
def RPost (s : List UInt8) (w : World) (e : Ending) (w' : World) : Prop := e = .returned (.tuple #[.string ⟨(rbytes s).toArray⟩, .string ⟨(rrest s).toArray⟩, .int .i64 (rcode s)]) ∧ Below w.heap.size w w'
theorem RPost.bad {s : List UInt8} {w w' : World} {c : Int} (hc : rcode s = c) (h0 : c ≠ 0) (hb : Below w.heap.size w w') : RPost s w (.returned (.tuple #[.string ⟨#[]⟩, .string ⟨s.toArray⟩, .int .i64 c])) w' := by
  subst hc
  refine ⟨?_, hb⟩
  rw [rbytes_bad h0, rrest_bad h0]
theorem RPost.ok {s : List UInt8} {w w' : World} {b r : List UInt8} (hc : rcode s = 0) (h1 : b = (s.drop 8).take (num4 s)) (h2 : r = s.drop (8 + num4 s)) (hb : Below w.heap.size w w') : RPost s w (.returned (.tuple #[.string ⟨b.toArray⟩, .string ⟨r.toArray⟩, .int .i64 0])) w' := by
  refine ⟨?_, hb⟩
  rw [rbytes_ok hc, rrest_ok hc, hc, h1, h2]

set_option maxRecDepth 100000 in
set_option maxHeartbeats 4000000 in
theorem read_ref (s : List UInt8) (hs : s.length ≤ 1000000) (w : World) : Calls Tryd.prog 15 #[.string ⟨s.toArray⟩] w (RPost s w) := by
  by_cases h8 : s.length < 8
  · have h8' : (s.length : Int) < 8 := by omega
    have HP := Lib.hid (fun w' => RPost.bad (s := s) (w := w) (w' := w') (rcode_short h8) (by decide))
    go_enter Tryd.func15, Tryd.ntmps15
    go_wp2
    go_ret3
    exact HP.out _ (Below.refl _ _)
  have h8' : (8 : Int) ≤ s.length := by omega
  have HN1 := Lib.hid (number_ref s (by omega) (by omega))
  have HN2 := Lib.hid (number_ref (s.drop 4) (by rw [List.length_drop]; omega) (by rw [List.length_drop]; omega))
  have hn := num4_lt s
  have hm := num4_lt (s.drop 4)
  by_cases hbig : 60000 < num4 s
  · have hbig' : (60000 : Int) < num4 s := by omega
    have HP := Lib.hid (fun w' => RPost.bad (s := s) (w := w) (w' := w') (rcode_big h8 hbig) (by decide))
    generalize num4 s = n at *
    go_enter Tryd.func15, Tryd.ntmps15
    go_wp2_with fail
    refine (HN1.out _).mono ?_
    rintro e w1 ⟨rfl, hb1⟩
    go_wp2
    go_ret3
    exact HP.out _ hb1
  have hbig' : ¬ (60000 : Int) < num4 s := by omega
  by_cases hmiss : s.length - 8 < num4 s
  · have hmiss' : (s.length : Int) - 8 < num4 s := by omega
    have HP := Lib.hid (fun w' => RPost.bad (s := s) (w := w) (w' := w') (rcode_miss h8 hbig hmiss) (by decide))
    generalize num4 s = n at *
    go_enter Tryd.func15, Tryd.ntmps15
    go_wp2_with fail
    refine (HN1.out _).mono ?_
    rintro e w1 ⟨rfl, hb1⟩
    go_wp2
    go_ret3
    exact HP.out _ hb1
  have hmiss' : ¬ (s.length : Int) - 8 < num4 s := by omega
  have hx1 : (ByteArray.mk s.toArray).extract 8 (8 + num4 s) = ⟨((s.drop 8).take (num4 s)).toArray⟩ := (ext_mk s 8 (8 + num4 s)).trans (mk_str (by rw [List.drop_take, Nat.add_sub_cancel_left]))
  have hx2 : (ByteArray.mk s.toArray).extract 4 s.length = ⟨(s.drop 4).toArray⟩ := (ext_mk s 4 s.length).trans (mk_str (by rw [List.take_length]))
  have hx3 : (ByteArray.mk s.toArray).extract (8 + num4 s) s.length = ⟨(s.drop (8 + num4 s)).toArray⟩ := (ext_mk s (8 + num4 s) s.length).trans (mk_str (by rw [List.take_length]))
  have HS := Lib.hid (sum_ref ((s.drop 8).take (num4 s)) (by rw [List.length_take]; omega))
  have hcl := crc_lt ((s.drop 8).take (num4 s))
  by_cases hsum : crc ((s.drop 8).take (num4 s)) = num4 (s.drop 4)
  · have HP := Lib.hid (fun w' => RPost.ok (s := s) (w := w) (w' := w') (rcode_ok h8 hbig hmiss hsum) rfl rfl)
    rw [hsum] at HS
    clear hsum hcl
    generalize (s.drop 8).take (num4 s) = b at *
    generalize s.drop (8 + num4 s) = r at *
    generalize s.drop 4 = s4 at *
    generalize num4 s4 = m at *
    generalize num4 s = n at *
    have hk0 : IntKind.u32.wrap (8 + (n : Int)) = 8 + (n : Int) := by rw [u32_wrap]; omega
    have hk1 : 8 + (n : Int) ≤ s.length := by omega
    have hk2 : (8 + (n : Int)).toNat = 8 + n := by omega
    have hk3 : (0 : Int) ≤ 8 + (n : Int) := by omega
    go_enter Tryd.func15, Tryd.ntmps15
    go_wp2_with fail
    refine (HN1.out _).mono ?_
    rintro e w1 ⟨rfl, hb1⟩
    go_wp2_with fail
    try simp only [hx1]
    go_region_with (first
      | (go_at_call 17; refine (HS.out _).mono ?_; rintro e w' ⟨rfl, rfl⟩)
      | (go_at_call 27; refine (HN2.out _).mono ?_; rintro e w2 ⟨rfl, hb2⟩))
    all_goals
      go_wp2
      go_region
      all_goals
        go_wp2
        go_ret3
        have HG := HP.out _ ((hb1.drew.trans (hb2.mono (by simpa using hb1.size))).drew)
        go_simp
  · have HP := Lib.hid (fun w' => RPost.bad (s := s) (w := w) (w' := w') (rcode_sum h8 hbig hmiss hsum) (by decide))
    have hne : ((crc ((s.drop 8).take (num4 s)) : Int) == (num4 (s.drop 4) : Int)) = false := by simp; omega
    clear hsum
    generalize (s.drop 8).take (num4 s) = b at *
    generalize s.drop (8 + num4 s) = r at *
    generalize s.drop 4 = s4 at *
    generalize num4 s4 = m at *
    generalize num4 s = n at *
    generalize crc b = c at *
    go_enter Tryd.func15, Tryd.ntmps15
    go_wp2_with fail
    refine (HN1.out _).mono ?_
    rintro e w1 ⟨rfl, hb1⟩
    go_wp2_with fail
    try simp only [hx1]
    go_region_with (first
      | (go_at_call 17; refine (HS.out _).mono ?_; rintro e w' ⟨rfl, rfl⟩)
      | (go_at_call 27; refine (HN2.out _).mono ?_; rintro e w2 ⟨rfl, hb2⟩))
    all_goals
      go_wp2
      go_ret3
      exact HP.out _ (hb1.drew.trans (hb2.mono (by simpa using hb1.size)))
end Go.Proofs.YtkjiinhcmhoejaaDoor
