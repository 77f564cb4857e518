import Derived.Test.YtbfchlfagdhglaaDoorMG15
import Derived.Test.YtbfchlfagdhglaaDoorMG16
import Derived.Test.YtbfchlfagdhglaaDoorMG19
import Derived.BigQuiet
import Derived.StillTailTactics
import Derived.Sort.AtCall
/- RoarBack: bitmaps and their bytes, their numbers are one to one. No condition beyond the row's. -/
namespace Go.Proofs.YtbfchlfagdhglaaDoor.roarBack
open Go.ChangeShapes Go.WideShapes Go.ChangeAt Go.RowKit Go.Joins

theorem decZ_right {s : List UInt8} {r : List Ch} {q : List UInt8} {c : Int} (h : decZ s = (r, q, c)) : RightZ r := by
  unfold decZ at h
  split at h
  · cases h; exact right_nil
  · split at h
    · cases h; exact right_nil
    · unfold decTail at h
      split at h
      · cases h; exact right_nil
      · split at h
        · rename_i hr
          cases h; exact hr
        · cases h; exact right_nil
set_option maxRecDepth 100000 in
set_option maxHeartbeats 8000000 in
theorem walk (a b m v r : Addr) (x0 : Option Addr) (len0 cap0 : Nat) (zs : List Int) (hlc0 : len0 ≤ cap0) (hcm0 : cap0 ≤ 9223372036854775807) (hln0 : zs.length = len0) (_hz : In64 zs) (s : List UInt8) (_hs : s.length ≤ 9223372036854775807) (w : World) (hI : Ints w.heap.size w (.slice x0 len0 cap0) zs) (hS : Sent w.heap.size w a b) (h3 : Sen3 w.heap.size w m v r) :
    Calls Tryd.prog 4 #[.slice x0 len0 cap0, .string ⟨s.toArray⟩] w fun e w' => e = .returned (.bool true) ∧ Below w.heap.size w w' := by
  have HI := Lib.hid (ints_cut hI 300 hln0)
  have hlz : (zs.take 300).length = min len0 300 := by rw [List.length_take, hln0, Nat.min_comm]
  clear hI
  generalize zs.take 300 = zt at *
  have HM := Lib.hid (fun W h => make_roar x0 (min len0 300) cap0 zt hlz (by omega) W h)
  obtain ⟨R, em, eM⟩ : ∃ r f, makeZ zt = (r, f) := ⟨_, _, rfl⟩
  have hR : RightZ R ∧ (em = 0 ∨ em = 70) := by
    by_cases h : AllQ zt
    · rw [makeZ_good h] at eM; cases eM; exact ⟨right_of _, .inl rfl⟩
    · rw [makeZ_bad h] at eM; cases eM; exact ⟨right_nil, .inr rfl⟩
  simp only [eM] at HM
  obtain ⟨hR, hem⟩ := hR
  have HCut := Lib.hid (cut07_any s)
  have hzl : (s.take 2000).length ≤ 2000 := List.length_take_le _ _
  generalize s.take 2000 = z at *
  have hOkR := okCh_made hR
  have hbl : (bytesZ R).length ≤ 100000 := by rw [← accZ_all]; exact accZ_le (ok3_right hR) hR.1 _
  have HEn := Lib.hid (fun y k (oA : OkR R.length k R) W h => enc_prog y R.length k R oA W h)
  rw [encZ_good hR] at HEn
  have HDe := Lib.hid (fun q (hq : q.length ≤ 9223372036854775807) W (hW : Below w.heap.size w W) => dec_roar a b m v r q hq W (hS.below hW) hW.size (h3.below hW))
  have HDa := Lib.hid (fun W hW => HDe.out (bytesZ R ++ z) (by rw [List.length_append]; omega) W hW)
  rw [enc_dec hR z] at HDa
  have HDz := Lib.hid (fun W hW => HDe.out z (by omega) W hW)
  obtain ⟨RC, qc, ec, eZ⟩ : ∃ r q f, decZ z = (r, q, f) := ⟨_, _, _, rfl⟩
  have hRC := decZ_right eZ
  have hlen : ec = 0 → (bytesZ RC).length + qc.length ≤ z.length := fun h => by
    subst h
    rw [← (dec_enc eZ).2, List.length_append]; exact Nat.le_refl _
  simp only [eZ] at HDz
  have hOkRC := okCh_made hRC
  have hblC : (bytesZ RC).length ≤ 100000 := by rw [← accZ_all]; exact accZ_le (ok3_right hRC) hRC.1 _
  have HEc := Lib.hid (fun y k (oA : OkR RC.length k RC) W h => enc_prog y RC.length k RC oA W h)
  rw [encZ_good hRC] at HEc
  have HRc := Lib.hid (fun y k (oA : OkR RC.length k RC) W h => right_prog y RC.length k RC oA W h)
  rw [decide_eq_true hRC] at HRc
  have HRr := Lib.hid (fun y k (oA : OkR R.length k R) W h => right_prog y R.length k R oA W h)
  rw [decide_eq_true hR] at HRr
  have HVa := Lib.hid (fun y k (oA : OkR R.length k R) W h => values_prog y R.length k R oA W h)
  unfold ValsRes at HVa
  have hvl := valsZ_le R
  have HMv := Lib.hid (fun y k W h => make_roar y (valsZ R).length k (zsOf (valsZ R)) (zsOf_length _) (by omega) W h)
  rw [make_valsZ hR] at HMv
  generalize zsOf (valsZ R) = zv at *
  generalize (valsZ R).length = nv at *
  have hadd : ∀ W : World, (Op.stringOp .add ⟨(bytesZ R).toArray⟩ ⟨z.toArray⟩).run Tryd.prog W = .ok (.string ⟨(bytesZ R ++ z).toArray⟩) W := fun W => by
    rw [run_string_add_sum W _ _ (by simp [ByteArray.size]; omega), app_mk]
  have hqz : qc.length ≤ 2000 ∨ ec ≠ 0 := by
    by_cases h : ec = 0
    · have := hlen h; exact .inl (by omega)
    · exact .inr h
  generalize bytesZ R ++ z = bz at *
  generalize bytesZ RC = bc at *
  generalize bytesZ R = br at *
  clear hR hRC eM eZ hS h3 HDe
  have hB : Below w.heap.size w w := Below.refl _ w
  go_enter Tryd.func4, Tryd.ntmps4
  go_wp2_with fail
  refine (shownz_any _).mono ?_
  rintro e w1 ⟨rfl, hb⟩
  have hB_ := hB.trans (hb.mono hB.size)
  clear hB
  have hB := hB_
  clear hB_ hb
  go_wp2_with fail
  refine (fewz_any x0 len0 cap0 hlc0 hcm0 _).mono ?_
  rintro e w' ⟨rfl, rfl⟩
  go_wp2_with fail
  refine (HM.out _ ((HI.out.below hB).more hB.size)).mono ?_
  rintro e wR ⟨yR, kR, rfl, m1, m2, m3, hb, -⟩
  dsimp only at m1 m3
  have oR : OkR R.length kR R := ⟨m1, by unfold maxLen at m2; omega, hOkR⟩
  have bR := BoxR.new m3
  have hB_ := (hB.trans (hb.mono hB.size)).alloc (by have := hb.size; have := hB.size; omega) (.cells #[.slice yR R.length kR] 24)
  clear hB
  have hB := hB_
  clear hB_ m1 m2 m3 hb
  clear HM HI
  have cR := bR.1.cell 0
  dsimp at cR
  go_wp2_with fail
  generalize wR.alloc (.cells #[.slice yR R.length kR] 24) = vR at *
  generalize wR.heap.size = gR at *
  refine (HEn.out _ _ oR _ bR.2).mono ?_
  rintro e wE ⟨rfl, hb⟩
  clear cR
  have bR_ := (bR.under hb)
  clear bR
  have bR := bR_
  clear bR_
  have hB_ := hB.trans (hb.mono hB.size)
  clear hB
  have hB := hB_
  clear hB_ hb
  go_wp2_with fail
  refine (HCut.out _).mono ?_
  rintro e w' ⟨rfl, rfl⟩
  go_wp2_with fail
  refine (HDa.out _ hB).mono ?_
  rintro e wD ⟨yD, kD, rfl, m1, m2, m3, hb, -⟩
  dsimp only at m1 m3
  have oD : OkR R.length kD R := ⟨m1, by unfold maxLen at m2; omega, hOkR⟩
  have bR_ := (bR.under hb).alloc (.cells #[.slice yD R.length kD] 24)
  clear bR
  have bR := bR_
  clear bR_
  have bD := BoxR.new m3
  have hB_ := (hB.trans (hb.mono hB.size)).alloc (by have := hb.size; have := hB.size; omega) (.cells #[.slice yD R.length kD] 24)
  clear hB
  have hB := hB_
  clear hB_ m1 m2 m3 hb
  have cR := bR.1.cell 0
  dsimp at cR
  go_wp2_with fail
  generalize wD.alloc (.cells #[.slice yD R.length kD] 24) = vD at *
  generalize wD.heap.size = gD at *
  refine (HVa.out _ _ oR _ bR.2).mono ?_
  rintro e wV ⟨xv, cv, rfl, hIv, hb⟩
  clear cR
  have bR_ := (bR.under hb)
  clear bR
  have bR := bR_
  clear bR_
  have bD_ := (bD.under hb)
  clear bD
  have bD := bD_
  clear bD_
  have hB_ := hB.trans (hb.mono hB.size)
  clear hB
  have hB := hB_
  clear hB_ hb
  go_wp2_with fail
  refine (HMv.out _ _ _ hIv).mono ?_
  rintro e wM ⟨yM, kM, rfl, m1, m2, m3, hb, -⟩
  dsimp only at m1 m3
  have oM : OkR R.length kM R := ⟨m1, by unfold maxLen at m2; omega, hOkR⟩
  have bR_ := (bR.under hb).alloc (.cells #[.slice yM R.length kM] 24)
  clear bR
  have bR := bR_
  clear bR_
  have bD_ := (bD.under hb).alloc (.cells #[.slice yM R.length kM] 24)
  clear bD
  have bD := bD_
  clear bD_
  have bM := BoxR.new m3
  have hB_ := (hB.trans (hb.mono hB.size)).alloc (by have := hb.size; have := hB.size; omega) (.cells #[.slice yM R.length kM] 24)
  clear hB
  have hB := hB_
  clear hB_ m1 m2 m3 hb
  clear hIv HMv HVa HDa HEn hadd
  have HSD := Lib.hid (fun W h1 h2 => ref_same_any yD R.length kD R yR R.length kR R oD.len oR.len W h1 h2)
  have HSM := Lib.hid (fun W h1 h2 => ref_same_any yM R.length kM R yR R.length kR R oM.len oR.len W h1 h2)
  rw [decide_eq_true (rfl : R = R)] at HSD HSM
  have HS : Hid (∃ wq, True) := Lib.hid ⟨w, trivial⟩
  clear HS
  rcases hem with rfl | rfl
  · have cR := bR.1.cell 0; have cD := bD.1.cell 0; have cM := bM.1.cell 0
    dsimp at cR cD cM
    go_wp2_with fail
    generalize wM.alloc (.cells #[.slice yM R.length kM] 24) = vM at *
    generalize wM.heap.size = gM at *
    refine (HSD.out _ bD.2 bR.2).mono ?_
    rintro e wa ⟨rfl, hb⟩
    have bR2 := bR.under hb
    have bM2 := bM.under hb
    have hB2 := hB.trans (hb.mono hB.size)
    clear bR bM bD hB hb cR cD cM
    go_wp2_with fail
    refine (HCut.out _).mono ?_
    rintro e w' ⟨rfl, rfl⟩
    have cR := bR2.1.cell 0; have cM := bM2.1.cell 0
    dsimp at cR cM
    go_wp2_with fail
    refine (HSM.out _ bM2.2 bR2.2).mono ?_
    rintro e wb ⟨rfl, hb⟩
    have bR3 := bR2.under hb
    have hB3 := hB2.trans (hb.mono hB2.size)
    clear bR2 bM2 hB2 hb cR cM
    have cR := bR3.1.cell 0
    dsimp at cR
    go_wp2_with fail
    refine (HRr.out _ _ oR _ bR3.2).mono ?_
    rintro e wc ⟨rfl, hb⟩
    have hB := hB3.trans (hb.mono hB3.size)
    clear bR3 hB3 hb cR
    go_wp2_with fail
    refine (HCut.out _).mono ?_
    rintro e w' ⟨rfl, rfl⟩
    go_wp2_with fail
    refine (HDz.out _ hB).mono ?_
    rintro e wC ⟨yC, kC, rfl, m1, m2, m3, hb, -⟩
    dsimp only at m1 m3
    have oC : OkR RC.length kC RC := ⟨m1, by unfold maxLen at m2; omega, hOkRC⟩
    have bC := BoxR.new m3
    have hB_ := (hB.trans (hb.mono hB.size)).alloc (by have := hb.size; have := hB.size; omega) (.cells #[.slice yC RC.length kC] 24)
    clear hB m1 m2 m3 hb
    have cC := bC.1.cell 0
    dsimp at cC
    go_wp2_with fail
    generalize wC.alloc (.cells #[.slice yC RC.length kC] 24) = vC at *
    generalize wC.heap.size = gC at *
    refine (HEc.out _ _ oC _ bC.2).mono ?_
    rintro e wF ⟨rfl, hb⟩
    have bC2 := bC.under hb
    have hB2 := hB_.trans (hb.mono hB_.size)
    clear bC hB_ hb cC
    have cC := bC2.1.cell 0
    dsimp at cC
    have HB2 := Lib.hid hB2
    have HC2 := Lib.hid bC2.2
    clear hB2 bC2
    by_cases he0 : ec = 0
    · subst he0
      have hl2 := hlen rfl
      have hl3 : (bc.length : Int) + qc.length ≤ z.length := by omega
      have hw : IntKind.i64.wrap ((bc.length : Int) + qc.length) = (bc.length : Int) + qc.length := by rw [IntKind.wrap_i64]; omega
      go_wp2_with fail
      refine (HCut.out _).mono ?_
      rintro e w' ⟨rfl, rfl⟩
      go_wp2_with fail
      refine (HRc.out _ _ oC _ HC2.out).mono ?_
      rintro e wG ⟨rfl, hb⟩
      have HB := Lib.hid (HB2.out.trans (hb.mono HB2.out.size))
      clear hb
      go_wp2
      go_ret
      exact ⟨rfl, HB.out⟩
    · go_wp2
      go_ret
      exact ⟨rfl, HB2.out⟩
  · clear bR bD bM
    go_wp2_with fail
    refine (HCut.out _).mono ?_
    rintro e w' ⟨rfl, rfl⟩
    go_wp2_with fail
    refine (HDz.out _ hB).mono ?_
    rintro e wC ⟨yC, kC, rfl, m1, m2, m3, hb, -⟩
    dsimp only at m1 m3
    have oC : OkR RC.length kC RC := ⟨m1, by unfold maxLen at m2; omega, hOkRC⟩
    have bC := BoxR.new m3
    have hB_ := (hB.trans (hb.mono hB.size)).alloc (by have := hb.size; have := hB.size; omega) (.cells #[.slice yC RC.length kC] 24)
    clear hB m1 m2 m3 hb
    have cC := bC.1.cell 0
    dsimp at cC
    go_wp2_with fail
    generalize wC.alloc (.cells #[.slice yC RC.length kC] 24) = vC at *
    generalize wC.heap.size = gC at *
    refine (HEc.out _ _ oC _ bC.2).mono ?_
    rintro e wF ⟨rfl, hb⟩
    have bC2 := bC.under hb
    have hB2 := hB_.trans (hb.mono hB_.size)
    clear bC hB_ hb cC
    have cC := bC2.1.cell 0
    dsimp at cC
    have HB2 := Lib.hid hB2
    have HC2 := Lib.hid bC2.2
    clear hB2 bC2
    by_cases he0 : ec = 0
    · subst he0
      have hl2 := hlen rfl
      have hl3 : (bc.length : Int) + qc.length ≤ z.length := by omega
      have hw : IntKind.i64.wrap ((bc.length : Int) + qc.length) = (bc.length : Int) + qc.length := by rw [IntKind.wrap_i64]; omega
      go_wp2_with fail
      refine (HCut.out _).mono ?_
      rintro e w' ⟨rfl, rfl⟩
      go_wp2_with fail
      refine (HRc.out _ _ oC _ HC2.out).mono ?_
      rintro e wG ⟨rfl, hb⟩
      have HB := Lib.hid (HB2.out.trans (hb.mono HB2.out.size))
      clear hb
      go_wp2
      go_ret
      exact ⟨rfl, HB.out⟩
    · go_wp2
      go_ret
      exact ⟨rfl, HB2.out⟩

set_option maxRecDepth 100000 in
set_option maxHeartbeats 1000000 in
theorem lifted (os : Os) (started : os.Started) (H : Type) (enc : TypeId × Value → H) :
    ReturnsInHanded {} Tryd.checked os 4 .any (fun w args => (Rows.roarBackSpec.pre enc Tryd.prog Tryd.f4 [] false w args ∧ laidMetH Tryd.prog laid5 w) ∧ sizedMet enc Tryd.prog Tryd.f4 (OpenSpec.ofChange Rows.roarBackSpec) false w args)
      (Rows.roarBackSpec.post enc Tryd.prog Tryd.f4 false true false false) := by
  refine returnsInHanded_of_change_and (C := Tryd.checked) (X := fun w _ => laidMetH Tryd.prog laid5 w) (fun _ _ _ hh h => h.of_heap hh) own started (by kernel_rfl) Tryd.func4
    (ChangeSpec.witness_shaped (enc := enc) (C := Tryd.checked) (os := os) (X := fun w _ => laidMetH Tryd.prog laid5 w) false (World.doorLaid Tryd.prog 104 os) #[.slice none 0 0, .string ⟨#[]⟩] 8 rfl (World.shaped_of_RefB (by kernel_rfl) (by kernel_rfl)) (by kernel_rfl) (by kernel_rfl) (by kernel_rfl) (door_met os _)) ?_
  intro W base args ds gs before hval0 hW _ _ hL _
  rw [laid_plain] at hL
  obtain ⟨a, b, m, v, r, hS, h3⟩ := five_of_laid hL
  have hval : ∀ (j : Nat) t v, Tryd.f4.params[j]? = some t → args[j]? = some v → Value.okWide Tryd.prog W .any base t v := hval0
  have hW' := hW
  obtain ⟨p, q, hA0, hV, rfl, hfz, hnd⟩ := hW
  have hA : DataW.TrodAll enc Tryd.prog W 0 (fun _ => true) true Tryd.f4.params.toList args.toList ds p := hA0
  rw [Tryd.params4] at hA hval
  obtain ⟨v0, vs0, d0, ds0, p0, q0, hargs, rfl, rfl, h0, r0⟩ := trodAll_cons hA
  obtain ⟨v1, vs1, d1, ds1, p1, q1, rfl, rfl, rfl, h1, r1⟩ := trodAll_cons r0
  obtain ⟨rfl, rfl, rfl⟩ := trodAll_nil r1
  obtain rfl : args = #[v0, v1] := by cases args; simp_all
  obtain ⟨rfl, rfl⟩ := trodVars_none hV
  obtain ⟨x0, len0, cap0, zs0, rfl, hlc0, hcm0, hln0, hz0, hI0, hr0⟩ := open_numbers (hval 0 35 v0 rfl rfl) h0 (fun q hq => hW'.lt q (by simp [hq]))
  obtain ⟨z1, rfl, l1, rfl, hr1⟩ := open_text (hval 1 9 v1 rfl rfl) h1
  clear hA0 hval0
  simp only [List.append_nil] at hW'
  refine (walk a b m v r x0 len0 cap0 zs0 hlc0 hcm0 hln0 hz0 z1 l1 W hI0 hS h3).mono fun e W' ⟨he, hg⟩ => ?_
  subst he
  exact ⟨_, rfl, post_below (pa := _) (pv := []) hW' (fun _ _ _ => (trodAll_cons_mk (shut_bool Tryd.underlying4 _) trodAll_mk0)) (fun sp hsp => (trodAll_cons_mk (hr0 _ hg sp (fun p hp => hsp p (by simp [hp]))) (trodAll_cons_mk (hr1 _ _ _ _) trodAll_mk0))) (fun _ _ => rfl) (by simp)
    hg (ok_one (by kernel_rfl) rfl (okWide_bool_mk Tryd.underlying4 _))⟩

theorem over : Rows.RoarBackSaid :=
  OpenClaim.holds_of_wide 4 Tryd.f4 rfl rfl rfl rfl rfl rfl rfl ⟨rfl, rfl, rfl, rfl, rfl⟩ rfl rfl rfl rfl rfl (by kernel_rfl) Tryd.func4 (by kernel_rfl)
    (of_decide_eq_true (by kernel_rfl)) (by unfold Func.isWrapper; first | (rw [if_pos (by decide +kernel)]; kernel_rfl) | (rw [if_neg (by decide +kernel)]; exact ⟨rfl, rfl⟩))
    (fun os started H enc _ => lifted os started H enc)

/-- The statement: the tied card. -/
theorem proved : Rows.RoarBackCardSaid :=
  Claim7.holds_tied_plain_at .later [] [.sentinel, .sentinel, .sentinel, .sentinel, .sentinel] true _ true
    over (fun _ h => by cases h) (by kernel_rfl) (fun _ h => by cases h) roarBack_row_tie rfl ⟨rfl, rfl⟩ (by kernel_rfl) rfl
    (fun f fn hf hfn => by
      obtain rfl : f = 4 := Option.some.inj ((show Tryd.prog.funcNamed "tesserae/tesseraelaw07.RoarBack" = some 4 by kernel_rfl).symm.trans hf) |>.symm
      obtain rfl : fn = Tryd.f4 := (Option.some.inj (Tryd.func4.symm.trans hfn)).symm
      exact ⟨by kernel_rfl, fun j t ht => by
        rw [Tryd.params4] at ht
        have hm : t ∈ [35, 9] := by simpa using Array.mem_of_getElem? ht
        have hall : ([35, 9].all fun u => !Tryd.prog.wantsStandIn u) = true := by kernel_rfl
        exact (show Tryd.prog.wantsStandIn t = false by simpa using List.all_eq_true.1 hall t hm)⟩)
    (by kernel_rfl)
#print axioms proved
end Go.Proofs.YtbfchlfagdhglaaDoor.roarBack
