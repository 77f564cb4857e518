/- DictCodes: Encode and Decode are as the document says, for every list (its first hundred words, each cut at 110 bytes) and every text (its first three thousand bytes). No condition beyond the row's: the handle of error's type and package varint's two errors lie as start-up laid them (tied to the program's text). -/
import Derived.Test.YthoegicchjadaaaDoorDRow
import Derived.Test.YthoegicchjadaaaDoorDTold
import Derived.Test.YthoegicchjadaaaDoorRDec
namespace Go.Proofs.YthoegicchjadaaaDoor.dictCodes
open Go.ChangeShapes Go.WideShapes Go.ChangeAt Go.RowKit Go.Joins

set_option maxRecDepth 100000 in
set_option maxHeartbeats 4000000 in
theorem walk {n₀ : Nat} (a b : Addr) (x : Option Addr) (len cap : Nat) (ls : List (List UInt8)) (hlc : len ≤ cap) (hcm : cap ≤ 9223372036854775807) (hln : ls.length = len) (hz : ∀ j : Nat, (ls[j]?.getD []).length ≤ 9223372036854775807)
    (t : List UInt8) (ht : t.length ≤ 9223372036854775807) (w : World)
    (hI : Strs w.heap.size w (.slice x len cap) ls) (hS : Sent n₀ w a b) (hE : Ety n₀ w) (hn₀ : n₀ ≤ w.heap.size) :
    Calls Tryd.prog 5 #[.slice x len cap, .string ⟨t.toArray⟩] w fun e w' => e = .returned (.bool true) ∧ Below w.heap.size w w' := by
  have HS := Lib.hid (shown_any a b w hS hE hn₀)
  have HF := Lib.hid (fun W (h : Below w.heap.size w W) => few_told x len cap ls hz W ((Wrds.mk hln hlc hcm hI).next h))
  have hcl : (t.take 3000).length ≤ 3000 := List.length_take_le _ _
  have HC := Lib.hid (cut_any t)
  generalize t.take 3000 = s at *
  have HD := Lib.hid (fun W (h : Below w.heap.size w W) => decode_any a b s (by omega) W (hS.below (h.mono hn₀)) (hE.below (h.mono hn₀)) (Nat.le_trans hn₀ h.size))
  have HRD := Lib.hid (fun W => rdecode_any s (by omega) W)
  have hl1 := few_length ls
  have hs1 := few_short ls
  clear hI hS hE hn₀ hz hln hlc hcm hcl ht
  go_enter Tryd.func5, Tryd.ntmps5
  go_wp2_with fail
  refine HS.out.mono ?_
  rintro e w1 ⟨rfl, hB1⟩
  go_wp2_with fail
  refine (HF.out _ hB1).mono ?_
  rintro e w2 ⟨x2, n2, cap2, rfl, hL2, hb2⟩
  have hB2 := hB1.trans (hb2.mono hB1.size)
  generalize fewS ls = l at *
  have hn2 := hL2.len
  have HEn := Lib.hid (encode_any x2 n2 cap2 l hn2 (by omega) w2 hL2.strs)
  have HREn := Lib.hid (fun W h => rencode_any x2 n2 cap2 l hn2 (by omega) (fun j => Nat.le_trans (hs1 j) (by decide)) W (hL2.next h).strs)
  generalize encText l = et at *
  generalize encCode l = ec at *
  clear hs1 hl1 hn2 hb2 hB1 HF HS
  go_wp2_with fail
  refine HEn.out.mono ?_
  rintro e w3 ⟨rfl, hb3⟩
  have hB3 := hB2.trans (hb3.mono hB2.size)
  go_wp2_with fail
  refine (HREn.out _ hb3).mono ?_
  rintro e w4 ⟨rfl, hb4⟩
  have hB4 := hB3.trans (hb4.mono hB3.size)
  clear hb3 hb4 hB3 hB2 hL2 HEn HREn
  go_wp2_with fail
  refine (HC.out _).mono ?_
  rintro e w' ⟨rfl, rfl⟩
  go_wp2_with fail
  refine (HD.out _ hB4).mono ?_
  intro e w5 h
  obtain ⟨x5, n5, cap5, rfl, hL5, hb5⟩ := dec_told h
  clear h
  have hB5 := hB4.trans (hb5.mono hB4.size)
  go_wp2_with fail
  refine (HC.out _).mono ?_
  rintro e w' ⟨rfl, rfl⟩
  go_wp2_with fail
  refine (HRD.out _).mono ?_
  intro e w6 h
  obtain ⟨x6, n6, cap6, rfl, hL6, hb6⟩ := dec_told h
  clear h
  have hB6 := hB5.trans (hb6.mono hB5.size)
  have hL5' := hL5.next hb6
  obtain rfl : n5 = n6 := by rw [← hL5.len, ← hL6.len]
  have hr5 := (dlist_right s).1
  rw [hL5.len] at hr5
  generalize drest s = r at *
  generalize dcode s = c at *
  generalize dlist s = m at *
  have HT := Lib.hid (texts_same x5 x6 n5 cap5 cap6 m (by omega) _ hL5'.strs hL6.strs)
  have HB6 := Lib.hid hB6
  clear hL5 hL5' hL6 hb5 hb6 hB4 hB5 hB6 HC HD HRD hr5
  go_wp2_with fail
  refine HT.out.mono ?_
  rintro e w7 ⟨rfl, hb7⟩
  go_wp2
  go_ret
  exact ⟨rfl, HB6.out.trans (hb7.mono HB6.out.size)⟩

set_option maxRecDepth 100000 in
set_option maxHeartbeats 1000000 in
theorem lifted (os : Os) (started : os.Started) (H : Type) (enc : TypeId × Value → H) :
    ReturnsInHanded {} Tryd.checked os 5 .any (fun w args => (Rows.dictCodesSpec.pre enc Tryd.prog Tryd.f5 [] false w args ∧ laidMetH Tryd.prog laid3 w) ∧ sizedMet enc Tryd.prog Tryd.f5 (OpenSpec.ofChange Rows.dictCodesSpec) false w args)
      (Rows.dictCodesSpec.post enc Tryd.prog Tryd.f5 false true false false) := by
  refine returnsInHanded_of_change_and (C := Tryd.checked) (X := fun w _ => laidMetH Tryd.prog laid3 w) (fun _ _ _ hh h => h.of_heap hh) own started (by kernel_rfl) Tryd.func5
    (ChangeSpec.witness_shaped (enc := enc) (C := Tryd.checked) (os := os) (X := fun w _ => laidMetH Tryd.prog laid3 w) false (World.doorLaid Tryd.prog 54 os) #[.slice none 0 0, .string ⟨#[]⟩] 8 rfl (World.shaped_of_RefB (by kernel_rfl) (by kernel_rfl)) (by kernel_rfl) (by kernel_rfl) (by kernel_rfl) (door_met os _)) ?_
  intro W base args ds gs before hval0 hW _ _ hL _
  obtain ⟨⟨a, b, hS⟩, hE⟩ := both_of_laid hL
  have hval : ∀ (j : Nat) t v, Tryd.f5.params[j]? = some t → args[j]? = some v → Value.okWide Tryd.prog W .any base t v := hval0
  have hW' := hW
  obtain ⟨p, q, hA0, hV, rfl, hfz, hnd⟩ := hW
  have hA : DataW.TrodAll enc Tryd.prog W 0 (fun _ => true) true Tryd.f5.params.toList args.toList ds p := hA0
  rw [Tryd.params5] at hA hval
  obtain ⟨v0, vs0, d0, ds0, p0, q0, hargs, rfl, rfl, h0, r0⟩ := trodAll_cons hA
  obtain ⟨v1, vs1, d1, ds1, p1, q1, rfl, rfl, rfl, h1, r1⟩ := trodAll_cons r0
  obtain ⟨rfl, rfl, rfl⟩ := trodAll_nil r1
  obtain rfl : args = #[v0, v1] := by cases args; simp_all
  obtain ⟨rfl, rfl⟩ := trodVars_none hV
  obtain ⟨x0, len0, cap0, ls0, rfl, hlc0, hcm0, hln0, hz0, hI0, hr0⟩ := open_strings (hval 0 22 v0 rfl rfl) h0 (fun q hq => hW'.lt q (by simp [hq]))
  obtain ⟨z1, rfl, l1, rfl, hr1⟩ := open_text (hval 1 9 v1 rfl rfl) h1
  clear hA0 hval0
  simp only [List.append_nil] at hW'
  refine (walk a b x0 len0 cap0 ls0 hlc0 hcm0 hln0 hz0 z1 l1 W hI0 hS hE (Nat.le_refl _)).mono fun e W' ⟨he, hg⟩ => ?_
  subst he
  exact ⟨_, rfl, post_below (pa := _) (pv := []) hW' (fun _ _ _ => (trodAll_cons_mk (shut_bool Tryd.underlying4 _) trodAll_mk0)) (fun sp hsp => (trodAll_cons_mk (hr0 _ hg sp (fun p hp => hsp p (by simp [hp]))) (trodAll_cons_mk (hr1 _ _ _ _) trodAll_mk0))) (fun _ _ => rfl) (by simp)
    hg (ok_one (by kernel_rfl) rfl (okWide_bool_mk Tryd.underlying4 _))⟩

theorem over : Rows.DictCodesSaid :=
  OpenClaim.holds_of_wide 5 Tryd.f5 rfl rfl rfl rfl rfl rfl rfl ⟨rfl, rfl, rfl, rfl, rfl⟩ rfl rfl rfl rfl rfl (by kernel_rfl) Tryd.func5 (by kernel_rfl)
    (of_decide_eq_true (by kernel_rfl)) (by unfold Func.isWrapper; first | (rw [if_pos (by decide +kernel)]; kernel_rfl) | (rw [if_neg (by decide +kernel)]; exact ⟨rfl, rfl⟩))
    (fun os started H enc _ => lifted os started H enc)

/-- The statement: the tied card. -/
theorem proved : Rows.DictCodesCardSaid :=
  Claim7.holds_tied_plain_at .later [] [.handle, .sentinel, .sentinel] true _ true
    over (fun _ h => by cases h) (by kernel_rfl) (fun _ h => by cases h) dictCodes_row_tie rfl ⟨rfl, rfl⟩ (by kernel_rfl) rfl
    (fun f fn hf hfn => by
      obtain rfl : f = 5 := Option.some.inj ((show Tryd.prog.funcNamed "tesserae/tesseraelaw05.DictCodes" = some 5 by kernel_rfl).symm.trans hf) |>.symm
      obtain rfl : fn = Tryd.f5 := (Option.some.inj (Tryd.func5.symm.trans hfn)).symm
      exact ⟨by kernel_rfl, fun j t ht => by
        rw [Tryd.params5] at ht
        have hm : t ∈ [22, 9] := by simpa using Array.mem_of_getElem? ht
        have hall : ([22, 9].all fun u => !Tryd.prog.wantsStandIn u) = true := by kernel_rfl
        exact (show Tryd.prog.wantsStandIn t = false by simpa using List.all_eq_true.1 hall t hm)⟩)
    (by kernel_rfl)
#print axioms proved
end Go.Proofs.YthoegicchjadaaaDoor.dictCodes
