/- The document's Encode. -/
import Derived.Test.YthoegicchjadaaaDoorDEnc
import Derived.Test.YthoegicchjadaaaDoorVRef
import Derived.Deep.RegionHeld3
import Derived.Laws.Concat
import Derived.Laws.IdiomStrings
namespace Go.Proofs.YthoegicchjadaaaDoor
open Go.RowKit

set_option maxRecDepth 100000 in
set_option maxHeartbeats 8000000 in
theorem rencode_any (x : Option Addr) (len cap : Nat) (ls : List (List UInt8)) (hlen : ls.length = len) (hcm : len ≤ 9223372036854775807) (hs : ∀ j : Nat, (ls[j]?.getD []).length ≤ 9223372036854775807) (w : World) (hI : Strs w.heap.size w (.slice x len cap) ls) :
    Calls Tryd.prog 24 #[.slice x len cap] w fun e w' => e = .returned (.tuple #[.string ⟨(encText ls).toArray⟩, .int .i64 (encCode ls : Nat)]) ∧ Below w.heap.size w w' := by
  have HR := Lib.hid (rright_any x len cap ls hlen hcm hs w hI)
  by_cases hr : RightL ls
  · have HC : Hid (encCode ls = 0) := Lib.hid (by unfold encCode; rw [if_pos hr])
    have HT : Hid (encText ls = encD ls) := Lib.hid (by unfold encText; rw [if_pos hr])
    have hl : len ≤ 1000 := by have := hr.1; omega
    have hsh : ∀ t ∈ ls, t.length ≤ 100 := fun t ht => right_len hr ht
    rw [decide_eq_true hr] at HR
    have HPut := Lib.hid (ref_put_any len (by omega))
    have HL := Lib.hid hlen; have HI := Lib.hid hI; have HS := Lib.hid hsh
    have HE0 : Hid (vput len = encTo ls 0) := Lib.hid (by unfold encTo; rw [hlen]; simp [encAll])
    have HEN := Lib.hid (fun k => encTo_length hsh (by omega) k)
    have ew : IntKind.u64.wrap (len : Int) = (len : Int) := by rw [u64_wrap]; omega
    clear hr hI hs hlen hsh
    go_enter Tryd.func24, Tryd.ntmps24
    go_wp2_with fail
    refine HR.out.mono ?_
    rintro e w1 ⟨rfl, q1, rfl⟩
    go_wp2_with fail
    refine (HPut.out _).mono ?_
    rintro e w2 ⟨rfl, hb2⟩
    have hB2 : Below w.heap.size w w2 := (below_drewN (Below.refl w.heap.size w) q1).trans hb2
    clear hb2
    rw [HE0.out]
    go_wp2
    go_loopw [4, 5, 6] (fun v a i wr => ∃ k : Nat, k ≤ len ∧ i = .int .i64 k ∧ v = .string ⟨(encTo ls k).toArray⟩ ∧ a = .string ⟨(prevW ls k).toArray⟩ ∧ Below w.heap.size w wr) (fun _ _ i _ => len - (intOf i).toNat)
    case atStart => exact ⟨0, Nat.zero_le _, rfl, rfl, rfl, hB2⟩
    case round =>
      obtain ⟨k, hk, rfl, rfl, rfl, hB⟩ := hrel
      by_cases hlt : k < len
      · obtain ⟨b, off, rfl, hb, hcell⟩ := HI.out.at_ hlt
        have hkl : k < ls.length := by rw [HL.out]; exact hlt
        have HN := Lib.hid (encTo_next hkl)
        have hle := HEN.out k
        have htl : (ls[k]?.getD []).length ≤ 100 := HS.out _ (getD_mem hkl)
        have hpl2 : (prevW ls k).length ≤ 100 := prevW_le HS.out _
        have hsl := shared_le (prevW ls k) (ls[k]?.getD [])
        have HSh := Lib.hid (fun W => wref_shared_any (prevW ls k) (ls[k]?.getD []) (by omega) (by omega) W)
        have hext := (ext_mk (ls[k]?.getD []) (sharedL (prevW ls k) (ls[k]?.getD [])) (ls[k]?.getD []).length).trans (mk_str (by rw [List.take_length]))
        have HPv := Lib.hid (prevW_succ ls k)
        have HDl := Lib.hid (List.length_drop (l := ls[k]?.getD []) (i := sharedL (prevW ls k) (ls[k]?.getD [])))
        have HCW : Hid (∀ W, Below w.heap.size w W → W.cell? ⟨b, off + k, none⟩ = some (.string ⟨(ls[k]?.getD []).toArray⟩)) := Lib.hid (fun W h => (h.cell (p := ⟨b, off + k, none⟩) hb).trans hcell)
        have hc1 := HCW.out _ hB
        have hlt' : (k : Int) < len := by omega
        clear hcell
        generalize prevW ls k = a at *
        generalize ls[k]?.getD [] = t at *
        generalize sharedL a t = s at *
        obtain ⟨d, hd⟩ : ∃ d, d = t.length - s := ⟨_, rfl⟩
        rw [← hd] at HN HDl
        have hsub : (t.length : Int) - (s : Int) = (d : Int) := by omega
        have hs' : (s : Int) ≤ t.length := by omega
        have esw : IntKind.u64.wrap (s : Int) = (s : Int) := by rw [u64_wrap]; omega
        have edw : IntKind.u64.wrap (d : Int) = (d : Int) := by rw [u64_wrap]; omega
        have e64d : IntKind.i64.wrap (d : Int) = (d : Int) := by rw [IntKind.wrap_i64]; omega
        have HP : Hid (∀ m : Nat, m ≤ 100 → ∀ W : World, Calls Tryd.prog 38 #[.int .u64 m] W fun e w' => e = .returned (.string ⟨(vput m).toArray⟩) ∧ Below W.heap.size W w') := Lib.hid (fun m hm => ref_put_any m (by omega))
        have hp1 := length_put (n := s) (by omega)
        have hp2 := length_put (n := d) (by omega)
        have hdl : d ≤ 100 := by omega
        have hsl2 : s ≤ 100 := by omega
        have hul : (t.drop s).length = d := HDl.out
        have hadd1 : ∀ W : World, (Op.stringOp .add ⟨(encTo ls k).toArray⟩ ⟨(vput s).toArray⟩).run Tryd.prog W = .ok (.string ⟨(encTo ls k ++ vput s).toArray⟩) W := fun W => by
          rw [run_string_add_sum W _ _ (by simp [ByteArray.size]; omega), app_mk]
        have hadd2 : ∀ W : World, (Op.stringOp .add ⟨(encTo ls k ++ vput s).toArray⟩ ⟨(vput d).toArray⟩).run Tryd.prog W = .ok (.string ⟨(encTo ls k ++ vput s ++ vput d).toArray⟩) W := fun W => by
          rw [run_string_add_sum W _ _ (by simp [ByteArray.size]; omega), app_mk]
        have hadd3 : ∀ W : World, (Op.stringOp .add ⟨(encTo ls k ++ vput s ++ vput d).toArray⟩ ⟨(t.drop s).toArray⟩).run Tryd.prog W = .ok (.string ⟨(encTo ls k ++ vput s ++ vput d ++ t.drop s).toArray⟩) W := fun W => by
          rw [run_string_add_sum W _ _ (by simp [ByteArray.size]; omega), app_mk]
        clear hd hsl hul hp1 hp2 hle HDl
        generalize encTo ls k ++ vput s ++ vput d ++ t.drop s = c3 at *
        generalize encTo ls k ++ vput s ++ vput d = c2 at *
        generalize encTo ls k ++ vput s = c1 at *
        generalize t.drop s = u at *
        generalize encTo ls k = cur at *
        go_wp2_with fail
        refine (HSh.out _).mono ?_
        rintro e w3 ⟨rfl, q, rfl⟩
        have hB3 : Below w.heap.size w (wr.drewN q) := below_drewN hB q
        clear hB hc1
        generalize wr.drewN q = W3 at *
        have hc3 := HCW.out _ hB3
        have hB4 : Below w.heap.size w W3.drew := hB3.drew
        have hc4 : W3.drew.cell? ⟨b, off + k, none⟩ = some (.string ⟨t.toArray⟩) := hc3
        go_wp2
        go_region_held3 (fun W => W.cell? ⟨b, off + k, none⟩ = some (.string ⟨t.toArray⟩)) (first | exact hc4 | assumption)
          (first | (go_at_call 38; refine (HP.out _ (by assumption) _).mono ?_; rintro e wb ⟨rfl, hbb⟩; have hBb : Below w.heap.size w wb := hBa.trans (hbb.mono hBa.size); have hcb := HCW.out _ hBb) | (go_at_call 38; refine (HP.out _ (by assumption) _).mono ?_; rintro e wa ⟨rfl, hba⟩; have hBa : Below w.heap.size w wa := hB4.trans (hba.mono hB4.size); have hca := HCW.out _ hBa))
        all_goals
          go_wp2
          go_roundw
          case rel => exact ⟨k + 1, by omega, by simp, by rw [HN.out], by rw [HPv.out], hBb⟩
          case measure => simp [intOf]; omega
      · obtain rfl : k = len := by omega
        have HE : Hid (encTo ls k = encD ls) := Lib.hid (by rw [← HL.out, encTo_all])
        have hge : ¬ (k : Int) < k := by omega
        clear hlt
        go_wp2
        go_ret2
        exact ⟨by rw [HC.out, HT.out, ← HE.out]; rfl, hB⟩
  · have HC : Hid (encCode ls = 50) := Lib.hid (by unfold encCode; rw [if_neg hr])
    have HT : Hid (encText ls = []) := Lib.hid (by unfold encText; rw [if_neg hr])
    rw [decide_eq_false hr] at HR
    clear hr hI hlen hs
    go_enter Tryd.func24, Tryd.ntmps24
    go_wp2_with fail
    refine HR.out.mono ?_
    rintro e w1 ⟨rfl, q, rfl⟩
    go_wp2
    go_ret2
    exact ⟨by rw [HC.out, HT.out]; rfl, below_drewN (Below.refl _ _) q⟩
end Go.Proofs.YthoegicchjadaaaDoor
