/- DictMakes: Build, Right and their answers are as the document says, for every list (its first hundred words, each cut at 110 bytes). No condition beyond the row's: the handle of error's type and package varint's two errors lie as start-up laid them (tied to the program's text). -/
import Derived.Test.YthoegicchjadaaaDoorDRow
import Derived.Test.YthoegicchjadaaaDoorDTold
namespace Go.Proofs.YthoegicchjadaaaDoor.dictMakes
open Go.ChangeShapes Go.WideShapes Go.ChangeAt Go.RowKit Go.Joins

set_option maxRecDepth 100000 in
set_option maxHeartbeats 4000000 in
theorem walk {n₀ : Nat} (a b : Addr) (x : Option Addr) (len cap : Nat) (ls : List (List UInt8)) (hlc : len ≤ cap) (hcm : cap ≤ 9223372036854775807) (hln : ls.length = len) (hz : ∀ j : Nat, (ls[j]?.getD []).length ≤ 9223372036854775807) (w : World)
    (hI : Strs w.heap.size w (.slice x len cap) ls) (hS : Sent n₀ w a b) (hE : Ety n₀ w) (hn₀ : n₀ ≤ w.heap.size) :
    Calls Tryd.prog 3 #[.slice x len cap] w fun e w' => e = .returned (.bool true) ∧ Below w.heap.size w w' := by
  have HS := Lib.hid (shown_any a b w hS hE hn₀)
  have HF := Lib.hid (fun W (h : Below w.heap.size w W) => few_told x len cap ls hz W ((Wrds.mk hln hlc hcm hI).next h))
  have hl1 := few_length ls
  have hs1 := few_short ls
  clear hI hS hE hn₀ hz hln hlc hcm
  go_enter Tryd.func3, Tryd.ntmps3
  go_wp2_with fail
  refine HS.out.mono ?_
  rintro e w1 ⟨rfl, hB1⟩
  go_wp2_with fail
  refine (HF.out _ hB1).mono ?_
  rintro e w2 ⟨x2, n2, cap2, rfl, hL2, hb2⟩
  have hB2 := hB1.trans (hb2.mono hB1.size)
  generalize fewS ls = l at *
  have hn2 := hL2.len
  have HB := Lib.hid (build_any x2 n2 cap2 l hn2 (by omega) w2 hL2.strs)
  have HRB := Lib.hid (fun W h => rbuild_any x2 n2 cap2 l hn2 (by omega) (fun j => Nat.le_trans (hs1 j) (by decide)) W (hL2.next h).strs)
  have HR := Lib.hid (fun W h => right_any x2 n2 cap2 l hn2 (by omega) W (hL2.next h).strs)
  have HRR := Lib.hid (fun W h => rright_any x2 n2 cap2 l hn2 (by omega) (fun j => Nat.le_trans (hs1 j) (by decide)) W (hL2.next h).strs)
  have hbl := blist_length l
  generalize decide (RightL l) = d at *
  go_wp2_with fail
  refine HB.out.mono ?_
  intro e w3 h
  obtain ⟨x3, n3, cap3, rfl, hL3, hb3⟩ := build_told h
  clear h
  go_wp2_with fail
  refine (HRB.out _ hb3).mono ?_
  intro e w4 h
  obtain ⟨x4, n4, cap4, rfl, hL4, hb4⟩ := build_told h
  clear h
  have hb24 := hb3.trans (hb4.mono hb3.size)
  have hL3' := hL3.next hb4
  obtain rfl : n3 = n4 := by rw [← hL3.len, ← hL4.len]
  generalize bcode l = c at *
  have hn3 := hL3.len
  generalize blist l = m at *
  have HT := Lib.hid (fun W h => texts_same x3 x4 n3 cap3 cap4 m (by omega) W (hL3'.next h).strs (hL4.next h).strs)
  have HW := Lib.hid (fun W (h : Below w4.heap.size w4 W) => (hB2.trans (hb24.mono hB2.size)).trans (h.mono (hB2.trans (hb24.mono hB2.size)).size))
  have H24 := Lib.hid hb24
  clear hL3 hL3' hL4 hL2 hb3 hb4 hb24 hb2 hB1 hB2 HB HRB HF HS hs1 hbl hl1
  go_wp2_with fail
  refine (HR.out _ H24.out).mono ?_
  rintro e w' ⟨rfl, rfl⟩
  go_wp2_with fail
  refine (HRR.out _ H24.out).mono ?_
  rintro e w' ⟨rfl, q, rfl⟩
  go_wp2_with fail
  refine (HT.out _ (below_drewN (Below.refl _ _) q)).mono ?_
  rintro e w5 ⟨rfl, hb5⟩
  go_wp2
  go_ret
  exact ⟨rfl, HW.out _ ((below_drewN (Below.refl _ _) q).trans hb5)⟩

set_option maxRecDepth 100000 in
set_option maxHeartbeats 1000000 in
theorem lifted (os : Os) (started : os.Started) (H : Type) (enc : TypeId × Value → H) :
    ReturnsInHanded {} Tryd.checked os 3 .any (fun w args => (Rows.dictMakesSpec.pre enc Tryd.prog Tryd.f3 [] false w args ∧ laidMetH Tryd.prog laid3 w) ∧ sizedMet enc Tryd.prog Tryd.f3 (OpenSpec.ofChange Rows.dictMakesSpec) false w args)
      (Rows.dictMakesSpec.post enc Tryd.prog Tryd.f3 false true false false) := by
  refine returnsInHanded_of_change_and (C := Tryd.checked) (X := fun w _ => laidMetH Tryd.prog laid3 w) (fun _ _ _ hh h => h.of_heap hh) own started (by kernel_rfl) Tryd.func3
    (ChangeSpec.witness_shaped (enc := enc) (C := Tryd.checked) (os := os) (X := fun w _ => laidMetH Tryd.prog laid3 w) false (World.doorLaid Tryd.prog 54 os) #[.slice none 0 0] 8 rfl (World.shaped_of_RefB (by kernel_rfl) (by kernel_rfl)) (by kernel_rfl) (by kernel_rfl) (by kernel_rfl) (door_met os _)) ?_
  intro W base args ds gs before hval0 hW _ _ hL _
  obtain ⟨⟨a, b, hS⟩, hE⟩ := both_of_laid hL
  have hval : ∀ (j : Nat) t v, Tryd.f3.params[j]? = some t → args[j]? = some v → Value.okWide Tryd.prog W .any base t v := hval0
  have hW' := hW
  obtain ⟨p, q, hA0, hV, rfl, hfz, hnd⟩ := hW
  have hA : DataW.TrodAll enc Tryd.prog W 0 (fun _ => true) true Tryd.f3.params.toList args.toList ds p := hA0
  rw [Tryd.params3] at hA hval
  obtain ⟨v0, vs0, d0, ds0, p0, q0, hargs, rfl, rfl, h0, r0⟩ := trodAll_cons hA
  obtain ⟨rfl, rfl, rfl⟩ := trodAll_nil r0
  obtain rfl : args = #[v0] := by cases args; simp_all
  obtain ⟨rfl, rfl⟩ := trodVars_none hV
  obtain ⟨x0, len0, cap0, ls0, rfl, hlc0, hcm0, hln0, hz0, hI0, hr0⟩ := open_strings (hval 0 22 v0 rfl rfl) h0 (fun q hq => hW'.lt q (by simp [hq]))
  clear hA0 hval0
  simp only [List.append_nil] at hW'
  refine (walk a b x0 len0 cap0 ls0 hlc0 hcm0 hln0 hz0 W hI0 hS hE (Nat.le_refl _)).mono fun e W' ⟨he, hg⟩ => ?_
  subst he
  exact ⟨_, rfl, post_below (pa := _) (pv := []) hW' (fun _ _ _ => (trodAll_cons_mk (shut_bool Tryd.underlying4 _) trodAll_mk0)) (fun sp hsp => (trodAll_cons_mk (hr0 _ hg sp (fun p hp => hsp p (by simp [hp]))) trodAll_mk0)) (fun _ _ => rfl) (by simp)
    hg (ok_one (by kernel_rfl) rfl (okWide_bool_mk Tryd.underlying4 _))⟩

theorem over : Rows.DictMakesSaid :=
  OpenClaim.holds_of_wide 3 Tryd.f3 rfl rfl rfl rfl rfl rfl rfl ⟨rfl, rfl, rfl, rfl, rfl⟩ rfl rfl rfl rfl rfl (by kernel_rfl) Tryd.func3 (by kernel_rfl)
    (of_decide_eq_true (by kernel_rfl)) (by unfold Func.isWrapper; first | (rw [if_pos (by decide +kernel)]; kernel_rfl) | (rw [if_neg (by decide +kernel)]; exact ⟨rfl, rfl⟩))
    (fun os started H enc _ => lifted os started H enc)

/-- The statement: the tied card. -/
theorem proved : Rows.DictMakesCardSaid :=
  Claim7.holds_tied_plain_at .later [] [.handle, .sentinel, .sentinel] true _ true
    over (fun _ h => by cases h) (by kernel_rfl) (fun _ h => by cases h) dictMakes_row_tie rfl ⟨rfl, rfl⟩ (by kernel_rfl) rfl
    (fun f fn hf hfn => by
      obtain rfl : f = 3 := Option.some.inj ((show Tryd.prog.funcNamed "tesserae/tesseraelaw05.DictMakes" = some 3 by kernel_rfl).symm.trans hf) |>.symm
      obtain rfl : fn = Tryd.f3 := (Option.some.inj (Tryd.func3.symm.trans hfn)).symm
      exact ⟨by kernel_rfl, fun j t ht => by
        rw [Tryd.params3] at ht
        have hm : t ∈ [22] := by simpa using Array.mem_of_getElem? ht
        have hall : ([22].all fun u => !Tryd.prog.wantsStandIn u) = true := by kernel_rfl
        exact (show Tryd.prog.wantsStandIn t = false by simpa using List.all_eq_true.1 hall t hm)⟩)
    (by kernel_rfl)
#print axioms proved
end Go.Proofs.YthoegicchjadaaaDoor.dictMakes
