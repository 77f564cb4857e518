/- The document's answer: Get. -/
import Derived.Test.YthoegicchjadaaaDoorVRef
import Derived.Test.YthoegicchjadaaaDoorVNumM
import Derived.LoopTactic
import Derived.Deep.RegionWith
import Derived.RegionTactic
namespace Go.Proofs.YthoegicchjadaaaDoor
open Go.RowKit

theorem or_step {s : List UInt8} {k : Nat} (h1 : k < s.length) (h2 : k < 10) : bits .or .u64 ((digs (s.take k) % 18446744073709551616 : Nat) : Int) (shl7 (byteAt s k) k) = ((digs (s.take (k + 1)) % 18446744073709551616 : Nat) : Int) := by
  rw [← orAll_range (by omega) (by omega), ← orAll_range (by omega) (by omega), List.range_succ]
  simp only [orAll, List.foldl_append, List.foldl_cons, List.foldl_nil, orAt]
  rw [m10_eq h2]
theorem shl_eq (d k : Nat) (hk : k < 10) : IntKind.u64.wrap ((d : Int) % 128 * 2 ^ (7 * k)) = shl7 d k := by
  have h := shl7_eq (d % 128) k hk
  rw [show min ((7 : Int) * k).toNat 64 = 7 * k by omega] at h
  have e : ((d % 128 : Nat) : Int) = (d : Int) % 128 := by omega
  rw [e] at h
  exact h

/-- What Get answers. -/
def GetPost (s : List UInt8) (w : World) (e : Ending) (w' : World) : Prop := e = .returned (.tuple #[.int .u64 (vnum s), .string ⟨(s.drop (vsize s)).toArray⟩, .int .i64 (vcode s)]) ∧ Below w.heap.size w w'
theorem GetPost.err {s : List UInt8} {w w' : World} {c : Int} (hc : vcode s = c) (h0 : c ≠ 0) (hb : Below w.heap.size w w') : GetPost s w (.returned (.tuple #[.int .u64 0, .string ⟨s.toArray⟩, .int .i64 c])) w' := by
  subst hc
  refine ⟨?_, hb⟩
  rw [vnum_err h0, vsize_err h0, List.drop_zero]
  rfl
theorem GetPost.ok {s : List UInt8} {w w' : World} {k : Nat} (hk : k < min s.length 10) (h : ∀ i, i < k → 128 ≤ (s.getD i 0).toNat) (hl : byteAt s k < 128) (hf : Fits (s.take (k + 1))) (hb : Below w.heap.size w w') :
    GetPost s w (.returned (.tuple #[.int .u64 ((digs (s.take (k + 1)) % 18446744073709551616 : Nat) : Int), .string ⟨(s.drop (k + 1)).toArray⟩, .int .i64 0])) w' := by
  obtain ⟨e1, e2⟩ := vcode_at (s := s) (k := k) (by omega) (by omega) h hl
  rw [if_pos hf] at e2
  have es : vsize s = k + 1 := by unfold vsize; rw [if_pos e2, e1]
  have hd := (fits_iff.1 hf).2
  refine ⟨?_, hb⟩
  rw [e2, es, Nat.mod_eq_of_lt hd]
  unfold vnum
  rw [es]
theorem GetPost.bad {s : List UInt8} {w w' : World} {k : Nat} (hk : k < min s.length 10) (h : ∀ i, i < k → 128 ≤ (s.getD i 0).toNat) (hl : byteAt s k < 128) (hf : ¬ Fits (s.take (k + 1))) (hb : Below w.heap.size w w') :
    GetPost s w (.returned (.tuple #[.int .u64 0, .string ⟨s.toArray⟩, .int .i64 20])) w' := by
  refine .err ?_ (by decide) hb
  rw [(vcode_at (s := s) (k := k) (by omega) (by omega) h hl).2, if_neg hf]

set_option maxRecDepth 100000 in
set_option maxHeartbeats 2000000 in
theorem ref_get_any (s : List UInt8) (hs : s.length ≤ 9223372036854775807) (w : World) : Calls Tryd.prog 42 #[.string ⟨s.toArray⟩] w (GetPost s w) := by
  go_enter Tryd.func42, Tryd.ntmps42
  go_wp2
  go_loop [5, 6] (fun n i => ∃ k : Nat, k ≤ s.length ∧ k ≤ 10 ∧ i = .int .i64 k ∧ n = .int .u64 ((digs (s.take k) % 18446744073709551616 : Nat) : Int) ∧ Hid (∀ j, j < k → 128 ≤ (s.getD j 0).toNat))
    (fun _ i => 10 - (intOf i).toNat)
  case atStart => exact ⟨0, by omega, by omega, rfl, by simp [digs], Lib.hid (fun j hj => by omega)⟩
  case round =>
    obtain ⟨k, hk, hk10, rfl, rfl, HH⟩ := hrel
    by_cases hlt : k < s.length ∧ k < 10
    · obtain ⟨h1, h2⟩ := hlt
      have hN : digs (s.take (k + 1)) % 18446744073709551616 < 18446744073709551616 := Nat.mod_lt _ (by decide)
      have hor := or_step h1 h2
      have hb := byte_get s k h1
      have hd := byteAt_lt s k
      have hsh := shl_eq (byteAt s k) k h2
      have HPut := Lib.hid (ref_put_any _ hN)
      have HF : Hid (Fits (s.take (k + 1)) ↔ vput (digs (s.take (k + 1)) % 18446744073709551616) = s.take (k + 1)) := Lib.hid Iff.rfl
      generalize digs (s.take k) % 18446744073709551616 = P at *
      generalize hNd : digs (s.take (k + 1)) % 18446744073709551616 = N at *
      have HND := Lib.hid hNd
      clear hNd
      generalize hbd : byteAt s k = d at *
      have HBD := Lib.hid hbd
      clear hbd
      generalize shl7 d k = v at *
      have e0 : (d : Int).tmod 128 = (d : Int) % 128 := Int.tmod_eq_emod_of_nonneg (by omega)
      have h1' : (k : Int) < s.length := by omega
      have h2' : (k : Int) < 10 := by omega
      have hext : (ByteArray.mk s.toArray).extract 0 (k + 1) = ⟨(s.take (k + 1)).toArray⟩ := (ext_mk s 0 (k + 1)).trans (mk_str (by rw [List.drop_zero]))
      have hk1 : (k : Int) + 1 ≤ s.length := by omega
      have hk0 : 0 ≤ (k : Int) + 1 := by omega
      have hkw : IntKind.i64.wrap ((k : Int) + 1) = (k : Int) + 1 := by rw [IntKind.wrap_i64]; omega
      have hkt : ((k : Int) + 1).toNat = k + 1 := by omega
      by_cases hlo : (d : Int) < 128
      · have hlo' : byteAt s k < 128 := by rw [HBD.out]; omega
        have HLO := Lib.hid hlo'
        clear hlo'
        have hext2 : (ByteArray.mk s.toArray).extract (k + 1) s.length = ⟨(s.drop (k + 1)).toArray⟩ := (ext_mk s (k + 1) s.length).trans (mk_str (by rw [List.take_length]))
        by_cases hf : Fits (s.take (k + 1))
        · have hbe : (vput N == s.take (k + 1)) = true := by rw [HF.out.1 hf]; simp
          have HFit := Lib.hid hf
          clear hf
          go_wp2_with fail
          go_region_with (go_at_call 38; refine (HPut.out _).mono ?_; rintro e w' ⟨rfl, hb⟩)
          all_goals
            go_wp2
            go_region
            go_wp2
            go_ret3
            have HG := GetPost.ok (s := s) (w := w) (k := k) (by omega) HH.out HLO.out HFit.out (((Below.refl w.heap.size w).drew.trans hb).drew)
            rw [HND.out] at HG
            go_simp
        · have hbe : (vput N == s.take (k + 1)) = false := by simpa using fun e => hf (HF.out.2 e)
          have HFit := Lib.hid hf
          clear hf
          go_wp2_with fail
          go_region_with (go_at_call 38; refine (HPut.out _).mono ?_; rintro e w' ⟨rfl, hb⟩)
          all_goals
            go_wp2
            go_ret3
            exact GetPost.bad (s := s) (w := w) (k := k) (by omega) HH.out HLO.out HFit.out ((Below.refl w.heap.size w).drew.trans hb)
      · go_wp2_with fail
        go_round
        case rel => exact ⟨k + 1, by omega, by omega, by simp, by rw [HND.out], Lib.hid (fun j hj => by
          rcases Nat.lt_or_ge j k with h | h
          · exact HH.out j h
          · obtain rfl : j = k := by omega
            show 128 ≤ byteAt s j
            rw [HBD.out]; omega)⟩
        case measure => simp [intOf]; omega
    · have HN := Lib.hid (vcode_none (s := s) (fun j h1 h2 => HH.out j (by omega)))
      by_cases hl : s.length < 10
      · have hl' : (s.length : Int) < 10 := by omega
        have hge : ¬ (k : Int) < s.length := by omega
        go_wp2
        all_goals
          go_ret3
          exact .err (by rw [HN.out, if_pos hl]) (by decide) (Below.refl _ _)
      · have hl' : ¬ (s.length : Int) < 10 := by omega
        have hge : ¬ (k : Int) < 10 := by omega
        go_wp2
        all_goals
          go_ret3
          exact .err (by rw [HN.out, if_neg hl]) (by decide) (Below.refl _ _)
end Go.Proofs.YthoegicchjadaaaDoor
