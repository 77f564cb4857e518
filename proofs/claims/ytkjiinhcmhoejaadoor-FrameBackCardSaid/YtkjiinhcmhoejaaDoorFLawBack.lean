/- FrameBack: what is made is read again, whatever stands behind; what is joined is parted again: for any texts (the first two thousand bytes of two; of a list the first twenty, of at most three hundred bytes). No condition beyond the row's: the package's table of steps lies as start-up laid it (tied to the program's text). -/
import Derived.Test.YtkjiinhcmhoejaaDoorFRow
import Derived.Test.YtkjiinhcmhoejaaDoorFShown
import Derived.Test.YtkjiinhcmhoejaaDoorFRow2
import Derived.Test.YtkjiinhcmhoejaaDoorFSplit
namespace Go.Proofs.YtkjiinhcmhoejaaDoor.frameBack
open Go.ChangeShapes Go.WideShapes Go.ChangeAt Go.RowKit Go.Joins

theorem frame_first (l r : List UInt8) (h : l.length ≤ 60000) : slist (frameB l ++ r) = l :: slist r ∧ scode (frameB l ++ r) = scode r := by
  obtain ⟨h1, h2, h3⟩ := read_make l r h
  rw [slist_ok h1, scode_ok h1, h2, h3]
  exact ⟨rfl, rfl⟩
theorem split_join {F : List (List UInt8)} (h : ∀ l ∈ F, l.length ≤ 300) : slist (joinB F) = F ∧ scode (joinB F) = 0 := by
  induction F with
  | nil => exact ⟨slist_nil, scode_nil⟩
  | cons l F ih =>
    obtain ⟨i1, i2⟩ := ih (fun x hx => h x (List.mem_cons_of_mem _ hx))
    have hl := h l (List.mem_cons_self ..)
    obtain ⟨f1, f2⟩ := frame_first l (joinB F) (by omega)
    show slist (frameB l ++ joinB F) = l :: F ∧ scode (frameB l ++ joinB F) = 0
    rw [f1, f2, i1, i2]
    exact ⟨rfl, rfl⟩

set_option maxRecDepth 100000 in
set_option maxHeartbeats 8000000 in
theorem walk (s : List UInt8) (hs : s.length ≤ 9223372036854775807) (m : List UInt8) (hm : m.length ≤ 9223372036854775807) (x : Option Addr) (len cap : Nat) (ls : List (List UInt8)) (hlc : len ≤ cap) (hcm : cap ≤ 9223372036854775807) (hln : ls.length = len) (hls : ∀ j : Nat, (ls[j]?.getD []).length ≤ 9223372036854775807) (w : World) (hI : Strs w.heap.size w (.slice x len cap) ls) (hT : Tab w) :
    Calls Tryd.prog 5 #[.string ⟨s.toArray⟩, .string ⟨m.toArray⟩, .slice x len cap] w fun e w' => e = .returned (.bool true) ∧ Below w.heap.size w w' := by
  have HFew := Lib.hid (fun (w' : World) (h : Strs w'.heap.size w' (.slice x len cap) ls) => few_any x len cap ls hln (by omega) hls w' h)
  have HI := Lib.hid hI
  have hFl := fewS_length ls
  have hFle := fewS_le ls
  have hFj : ∀ j : Nat, ((fewS ls)[j]?.getD []).length ≤ 60000 := fun j => by
    by_cases hj : j < (fewS ls).length
    · rw [List.getElem?_eq_getElem hj]
      exact Nat.le_trans (hFle _ (List.getElem_mem hj)) (by decide)
    · rw [List.getElem?_eq_none (by omega)]; decide
  have hF20 : (fewS ls).length ≤ 20 := by omega
  obtain ⟨hsl, hsc⟩ := split_join hFle
  have hjl := joinB_length hFle
  clear hFl hFle hls hln hlc hcm
  generalize fewS ls = F at *
  have HJ := Lib.hid (fun y cp (w' : World) (h : Strs w'.heap.size w' (.slice y F.length cp) F) (ht : Tab w') => join_any y F.length cp F rfl hFj (by omega) w' h ht)
  have HS := Lib.hid (fun (w' : World) (ht : Tab w') => split_any (joinB F) (by omega) w' ht)
  unfold SplitPost at HS
  rw [hsl, hsc] at HS
  clear hFj hsl hsc hjl
  generalize joinB F = j at *
  have hcl : (s.take 2000).length ≤ 2000 := List.length_take_le _ _
  have hml : (m.take 2000).length ≤ 2000 := List.length_take_le _ _
  have HC := Lib.hid (cut_any s)
  have HC2 := Lib.hid (cut_any m)
  generalize s.take 2000 = c at *
  generalize m.take 2000 = q at *
  have HM := Lib.hid (fun w' h => make_any c (by omega) w' h)
  have hfl := frameB_length c
  obtain ⟨r1, r2, r3⟩ := read_make c q (by omega)
  have HR := Lib.hid (fun W h => read_any (frameB c ++ q) (by rw [List.length_append]; omega) W h)
  unfold RPost at HR
  rw [r1, r2, r3] at HR
  have hadd : ∀ W : World, (Op.stringOp .add ⟨(frameB c).toArray⟩ ⟨q.toArray⟩).run Tryd.prog W = .ok (.string ⟨(frameB c ++ q).toArray⟩) W := fun W => by
    rw [run_string_add_sum W _ _ (by simp [ByteArray.size]; omega), app_mk]
  clear r1 r2 r3
  generalize frameB c ++ q = fq at *
  generalize frameB c = f at *
  have hfl' : (f.length : Int) = 8 + c.length := by omega
  have HTx := Lib.hid (fun (x1 x2 : Option Addr) (k c1 c2 : Nat) (L : List (List UInt8)) (h : k ≤ 9223372036854775807) => texts_same x1 x2 k c1 c2 L h)
  clear hfl
  go_enter Tryd.func5, Tryd.ntmps5
  go_wp2_with fail
  refine (shown_any _ hT).mono ?_
  rintro e w1 ⟨rfl, hB1⟩
  go_wp2_with fail
  refine (HC.out _).mono ?_
  rintro e w' ⟨rfl, rfl⟩
  go_wp2_with fail
  refine (HM.out _ (hT.below hB1)).mono ?_
  rintro e w2 ⟨rfl, hb2⟩
  have hB2 := hB1.trans (hb2.mono hB1.size)
  go_wp2_with fail
  refine (HC2.out _).mono ?_
  rintro e w' ⟨rfl, rfl⟩
  go_wp2_with fail
  refine (HR.out _ (hT.below hB2)).mono ?_
  rintro e w3 ⟨rfl, hb3⟩
  have hB3 := hB2.trans (hb3.mono hB2.size)
  go_wp2_with fail
  refine (HFew.out _ ((HI.out.below hB3).mono hB3.size)).mono ?_
  rintro e w4 ⟨v, rfl, hO4, hb4⟩
  have hB4 := hB3.trans (hb4.mono hB3.size)
  obtain ⟨hS4, y4, cp4, rfl⟩ := strs_own hO4
  go_wp2_with fail
  refine (HJ.out _ _ _ hS4 (hT.below hB4)).mono ?_
  rintro e w5 ⟨rfl, hb5⟩
  have hB5 := hB4.trans (hb5.mono hB4.size)
  clear hO4 hS4 hb2 hb3 hb4 hb5
  go_wp2_with fail
  refine (HS.out _ (hT.below hB5)).mono ?_
  rintro e w6 ⟨hb6, ⟨_, v, rfl, hO6⟩ | ⟨h0, _⟩⟩
  · have hB6 := hB5.trans (hb6.mono hB5.size)
    obtain ⟨hS6, y6, cp6, rfl⟩ := strs_own hO6
    go_wp2_with fail
    refine (HC.out _).mono ?_
    rintro e w' ⟨rfl, rfl⟩
    go_wp2_with fail
    refine (HC2.out _).mono ?_
    rintro e w' ⟨rfl, rfl⟩
    go_wp2_with fail
    refine (HFew.out _ ((HI.out.below hB6).mono hB6.size)).mono ?_
    rintro e w7 ⟨v, rfl, hO7, hb7⟩
    have hB7 := hB6.trans (hb7.mono hB6.size)
    obtain ⟨hS7, y7, cp7, rfl⟩ := strs_own hO7
    have hT1 := HTx.out y6 y7 F.length cp6 cp7 F (by omega) w7 ((hS6.below hb7).mono hb7.size) hS7
    clear hO6 hO7 hS6 hS7 hb6 hb7
    go_wp2_with fail
    refine hT1.mono ?_
    rintro e w8 ⟨rfl, hb8⟩
    have hB8 := hB7.trans (hb8.mono hB7.size)
    go_wp2_with fail
    refine (HC.out _).mono ?_
    rintro e w' ⟨rfl, rfl⟩
    go_wp2
    go_ret
    exact ⟨rfl, hB8⟩
  · exact absurd rfl h0

set_option maxRecDepth 100000 in
set_option maxHeartbeats 1000000 in
theorem lifted (os : Os) (started : os.Started) (H : Type) (enc : TypeId × Value → H) :
    ReturnsInHanded {} Tryd.checked os 5 .any (fun w args => (Rows.frameBackSpec.pre enc Tryd.prog Tryd.f5 [] false w args ∧ laidMetH Tryd.prog laid1 w) ∧ sizedMet enc Tryd.prog Tryd.f5 (OpenSpec.ofChange Rows.frameBackSpec) false w args)
      (Rows.frameBackSpec.post enc Tryd.prog Tryd.f5 false true false false) := by
  refine returnsInHanded_of_change_and (C := Tryd.checked) (X := fun w _ => laidMetH Tryd.prog laid1 w) (fun _ _ _ hh h => h.of_heap hh) own started (by kernel_rfl) Tryd.func5
    (ChangeSpec.witness_shaped (enc := enc) (C := Tryd.checked) (os := os) (X := fun w _ => laidMetH Tryd.prog laid1 w) false (World.doorLaid Tryd.prog 14 os) #[.string ⟨#[]⟩, .string ⟨#[]⟩, .slice none 0 0] 8 rfl (World.shaped_of_RefB (by kernel_rfl) (by kernel_rfl)) (by kernel_rfl) (by kernel_rfl) (by kernel_rfl) (door_met os _)) ?_
  intro W base args ds gs before hval0 hW _ _ hL _
  rw [laid_plain] at hL
  have hT := tab_of_laid hL
  have hval : ∀ (j : Nat) t v, Tryd.f5.params[j]? = some t → args[j]? = some v → Value.okWide Tryd.prog W .any base t v := hval0
  have hW' := hW
  obtain ⟨p, q, hA0, hV, rfl, hfz, hnd⟩ := hW
  have hA : DataW.TrodAll enc Tryd.prog W 0 (fun _ => true) true Tryd.f5.params.toList args.toList ds p := hA0
  rw [Tryd.params5] at hA hval
  obtain ⟨v0, vs0, d0, ds0, p0, q0, hargs, rfl, rfl, h0, r0⟩ := trodAll_cons hA
  obtain ⟨v1, vs1, d1, ds1, p1, q1, rfl, rfl, rfl, h1, r1⟩ := trodAll_cons r0
  obtain ⟨v2, vs2, d2, ds2, p2, q2, rfl, rfl, rfl, h2, r2⟩ := trodAll_cons r1
  obtain ⟨rfl, rfl, rfl⟩ := trodAll_nil r2
  obtain rfl : args = #[v0, v1, v2] := by cases args; simp_all
  obtain ⟨rfl, rfl⟩ := trodVars_none hV
  obtain ⟨z0, rfl, l0, rfl, hr0⟩ := open_text (hval 0 9 v0 rfl rfl) h0
  obtain ⟨z1, rfl, l1, rfl, hr1⟩ := open_text (hval 1 9 v1 rfl rfl) h1
  obtain ⟨x2, len2, cap2, zs2, rfl, hlc2, hcm2, hln2, hz2, hI2, hr2⟩ := open_strings (hval 2 32 v2 rfl rfl) h2 (fun q hq => hW'.lt q (by simp [hq]))
  clear hA0 hval0
  simp only [List.append_nil] at hW'
  refine (walk z0 l0 z1 l1 x2 len2 cap2 zs2 hlc2 hcm2 hln2 hz2 W hI2 hT).mono fun e W' ⟨he, hg⟩ => ?_
  subst he
  exact ⟨_, rfl, post_below (pa := _) (pv := []) hW' (fun _ _ _ => (trodAll_cons_mk (shut_bool Tryd.underlying4 _) trodAll_mk0)) (fun sp hsp => (trodAll_cons_mk (hr0 _ _ _ _) (trodAll_cons_mk (hr1 _ _ _ _) (trodAll_cons_mk (hr2 _ hg sp (fun p hp => hsp p (by simp [hp]))) trodAll_mk0)))) (fun _ _ => rfl) (by simp)
    hg (ok_one (by kernel_rfl) rfl (okWide_bool_mk Tryd.underlying4 _))⟩

theorem over : Rows.FrameBackSaid :=
  OpenClaim.holds_of_wide 5 Tryd.f5 rfl rfl rfl rfl rfl rfl rfl ⟨rfl, rfl, rfl, rfl, rfl⟩ rfl rfl rfl rfl rfl (by kernel_rfl) Tryd.func5 (by kernel_rfl)
    (of_decide_eq_true (by kernel_rfl)) (by unfold Func.isWrapper; first | (rw [if_pos (by decide +kernel)]; kernel_rfl) | (rw [if_neg (by decide +kernel)]; exact ⟨rfl, rfl⟩))
    (fun os started H enc _ => lifted os started H enc)

/-- The statement: the tied card. -/
theorem proved : Rows.FrameBackCardSaid :=
  Claim7.holds_tied_plain_at .later [] [.data] true _ false
    over (fun _ h => by cases h) (by kernel_rfl) (fun _ h => by cases h) frameBack_row_tie rfl ⟨rfl, rfl⟩ (by kernel_rfl) rfl
    (fun f fn hf hfn => by
      obtain rfl : f = 5 := Option.some.inj ((show Tryd.prog.funcNamed "tesserae/tesseraelaw03.FrameBack" = some 5 by kernel_rfl).symm.trans hf) |>.symm
      obtain rfl : fn = Tryd.f5 := (Option.some.inj (Tryd.func5.symm.trans hfn)).symm
      exact ⟨by kernel_rfl, fun j t ht => by
        rw [Tryd.params5] at ht
        have hm : t ∈ [9, 9, 32] := by simpa using Array.mem_of_getElem? ht
        have hall : ([9, 9, 32].all fun u => !Tryd.prog.wantsStandIn u) = true := by kernel_rfl
        exact (show Tryd.prog.wantsStandIn t = false by simpa using List.all_eq_true.1 hall t hm)⟩)
    (by kernel_rfl)
#print axioms proved
end Go.Proofs.YtkjiinhcmhoejaaDoor.frameBack
