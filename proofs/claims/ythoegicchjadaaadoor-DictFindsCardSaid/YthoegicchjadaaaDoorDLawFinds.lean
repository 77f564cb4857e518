/- DictFinds: Find, Prefix and Between are as the document says, for every list (its first hundred words, each cut at 110 bytes; as it is, or built) and every two words. No condition beyond the row's: the handle of error's type and package varint's two errors lie as start-up laid them (tied to the program's text). -/
import Derived.Test.YthoegicchjadaaaDoorDRow
import Derived.Test.YthoegicchjadaaaDoorDTold
namespace Go.Proofs.YthoegicchjadaaaDoor.dictFinds
open Go.ChangeShapes Go.WideShapes Go.ChangeAt Go.RowKit Go.Joins

set_option maxRecDepth 100000 in
set_option maxHeartbeats 4000000 in
theorem walk {n₀ : Nat} (a b : Addr) (x : Option Addr) (len cap : Nat) (ls : List (List UInt8)) (hlc : len ≤ cap) (hcm : cap ≤ 9223372036854775807) (hln : ls.length = len) (hz : ∀ j : Nat, (ls[j]?.getD []).length ≤ 9223372036854775807)
    (t : List UInt8) (ht : t.length ≤ 9223372036854775807) (tz : List UInt8) (hto : tz.length ≤ 9223372036854775807) (mk : Bool) (w : World)
    (hI : Strs w.heap.size w (.slice x len cap) ls) (hS : Sent n₀ w a b) (hE : Ety n₀ w) (hn₀ : n₀ ≤ w.heap.size) :
    Calls Tryd.prog 4 #[.slice x len cap, .string ⟨t.toArray⟩, .string ⟨tz.toArray⟩, .bool mk] w fun e w' => e = .returned (.bool true) ∧ Below w.heap.size w w' := by
  have HS := Lib.hid (shown_any a b w hS hE hn₀)
  have HF := Lib.hid (fun W (h : Below w.heap.size w W) => few_told x len cap ls hz W ((Wrds.mk hln hlc hcm hI).next h))
  have hl1 := few_length ls
  have hs1 := few_short ls
  have HP : Hid (∀ (x : Option Addr) (n cap : Nat) (l : List (List UInt8)) (W : World), Wrds W x n cap l → (∀ j : Nat, (l[j]?.getD []).length ≤ 110) →
      Calls Tryd.prog 17 #[.slice x n cap, .string ⟨t.toArray⟩] W (fun e w' => e = .returned (.tuple #[.int .i64 (stA l t : Nat), .bool (findB l t)]) ∧ Below W.heap.size W w') ∧
      Calls Tryd.prog 18 #[.slice x n cap, .string ⟨t.toArray⟩] W (fun e w' => e = .returned (.tuple #[.int .i64 (stA l t : Nat), .bool (findB l t)]) ∧ ∃ q, w' = W.drewN q) ∧
      Calls Tryd.prog 19 #[.slice x n cap, .string ⟨t.toArray⟩] W (fun e w' => e = .returned (.tuple #[.int .i64 (stA l t : Nat), .int .i64 (stB (parts t) l t : Nat)]) ∧ Below W.heap.size W w') ∧
      Calls Tryd.prog 20 #[.slice x n cap, .string ⟨t.toArray⟩] W (fun e w' => e = .returned (.tuple #[.int .i64 (stA l t : Nat), .int .i64 (stB (parts t) l t : Nat)]) ∧ ∃ q, w' = W.drewN q) ∧
      Calls Tryd.prog 21 #[.slice x n cap, .string ⟨t.toArray⟩, .string ⟨tz.toArray⟩] W (fun e w' => e = .returned (.tuple #[.int .i64 (stA l t : Nat), .int .i64 (stB (behind tz) l t : Nat)]) ∧ Below W.heap.size W w') ∧
      Calls Tryd.prog 22 #[.slice x n cap, .string ⟨t.toArray⟩, .string ⟨tz.toArray⟩] W (fun e w' => e = .returned (.tuple #[.int .i64 (stA l t : Nat), .int .i64 (stB (behind tz) l t : Nat)]) ∧ ∃ q, w' = W.drewN q)) := Lib.hid (fun x n cap l W h hs => by
    have hs' : ∀ j : Nat, (l[j]?.getD []).length ≤ 9223372036854775807 := fun j => Nat.le_trans (hs j) (by decide)
    have hc := h.cm
    have hc2 := h.lc
    exact ⟨find_any x n cap l t h.len h.lc h.cm W h.strs, rfind_any x n cap l t h.len (by omega) hs' ht W h.strs, prefix_any x n cap l t h.len h.lc h.cm W h.strs, rprefix_any x n cap l t h.len (by omega) hs' ht W h.strs, between_any x n cap l t h.len h.lc h.cm W h.strs tz, rbetween_any x n cap l t h.len (by omega) hs' ht W h.strs tz hto⟩)
  clear hI hS hE hn₀ hz hln hlc hcm ht hto
  cases mk with
  | false =>
    go_enter Tryd.func4, Tryd.ntmps4
    go_wp2_with fail
    refine HS.out.mono ?_
    rintro e w1 ⟨rfl, hB1⟩
    go_wp2_with fail
    refine (HF.out _ hB1).mono ?_
    rintro e w2 ⟨x2, n2, cap2, rfl, hL2, hb2⟩
    have hB2 := hB1.trans (hb2.mono hB1.size)
    generalize fewS ls = l at *
    have HQ := Lib.hid (fun W (h : Below w2.heap.size w2 W) => HP.out x2 n2 cap2 l W (hL2.next h) hs1)
    have HW := Lib.hid (fun W (h : Below w2.heap.size w2 W) => hB2.trans (h.mono hB2.size))
    clear HP HF HS hb2 hB1 hB2 hL2 hs1 hl1
    generalize stA l t = s1 at *
    generalize stB (parts t) l t = s2 at *
    generalize stB (behind tz) l t = s3 at *
    generalize findB l t = s4 at *
    have hb2 := Below.refl w2.heap.size w2
    go_wp2_with fail
    refine (HQ.out _ hb2).1.mono ?_
    rintro e w3 ⟨rfl, h3⟩
    have hb3 := hb2.trans (h3.mono hb2.size)
    go_wp2_with fail
    refine (HQ.out _ hb3).2.1.mono ?_
    rintro e w4 ⟨rfl, q, rfl⟩
    have hb4 := below_drewN hb3 q
    generalize w3.drewN q = w4 at *
    go_wp2_with fail
    refine (HQ.out _ hb4).2.2.1.mono ?_
    rintro e w5 ⟨rfl, h5⟩
    have hb5 := hb4.trans (h5.mono hb4.size)
    go_wp2_with fail
    refine (HQ.out _ hb5).2.2.2.1.mono ?_
    rintro e w6 ⟨rfl, q, rfl⟩
    have hb6 := below_drewN hb5 q
    generalize w5.drewN q = w6 at *
    go_wp2_with fail
    refine (HQ.out _ hb6).2.2.2.2.1.mono ?_
    rintro e w7 ⟨rfl, h7⟩
    have hb7 := hb6.trans (h7.mono hb6.size)
    go_wp2_with fail
    refine (HQ.out _ hb7).2.2.2.2.2.mono ?_
    rintro e w8 ⟨rfl, q, rfl⟩
    have hb8 := below_drewN hb7 q
    go_wp2
    go_ret
    exact ⟨rfl, HW.out _ hb8⟩
  | true =>
    go_enter Tryd.func4, Tryd.ntmps4
    go_wp2_with fail
    refine HS.out.mono ?_
    rintro e w1 ⟨rfl, hB1⟩
    go_wp2_with fail
    refine (HF.out _ hB1).mono ?_
    rintro e w2' ⟨x2', n2', cap2', rfl, hL2', hb2'⟩
    have hB2' := hB1.trans (hb2'.mono hB1.size)
    generalize fewS ls = l' at *
    have hn2 := hL2'.len
    have HRB := Lib.hid (rbuild_any x2' n2' cap2' l' hn2 (by omega) (fun j => Nat.le_trans (hs1 j) (by decide)) w2' hL2'.strs)
    go_wp2_with fail
    refine HRB.out.mono ?_
    intro e w2 h
    obtain ⟨x2, n2, cap2, rfl, hL2, hb2⟩ := build_told h
    clear h
    have hB2 := hB2'.trans (hb2.mono hB2'.size)
    have hs2 := blist_short l'
    generalize bcode l' = c at *
    generalize blist l' = l at *
    have HQ := Lib.hid (fun W (h : Below w2.heap.size w2 W) => HP.out x2 n2 cap2 l W (hL2.next h) (fun j => Nat.le_trans (hs2 j) (by decide)))
    have HW := Lib.hid (fun W (h : Below w2.heap.size w2 W) => hB2.trans (h.mono hB2.size))
    clear HP HF HS hb2 hB1 hB2 hL2 hs1 hl1 hs2 hb2' hB2' hL2' HRB hn2
    generalize stA l t = s1 at *
    generalize stB (parts t) l t = s2 at *
    generalize stB (behind tz) l t = s3 at *
    generalize findB l t = s4 at *
    have hb2 := Below.refl w2.heap.size w2
    go_wp2_with fail
    refine (HQ.out _ hb2).1.mono ?_
    rintro e w3 ⟨rfl, h3⟩
    have hb3 := hb2.trans (h3.mono hb2.size)
    go_wp2_with fail
    refine (HQ.out _ hb3).2.1.mono ?_
    rintro e w4 ⟨rfl, q, rfl⟩
    have hb4 := below_drewN hb3 q
    generalize w3.drewN q = w4 at *
    go_wp2_with fail
    refine (HQ.out _ hb4).2.2.1.mono ?_
    rintro e w5 ⟨rfl, h5⟩
    have hb5 := hb4.trans (h5.mono hb4.size)
    go_wp2_with fail
    refine (HQ.out _ hb5).2.2.2.1.mono ?_
    rintro e w6 ⟨rfl, q, rfl⟩
    have hb6 := below_drewN hb5 q
    generalize w5.drewN q = w6 at *
    go_wp2_with fail
    refine (HQ.out _ hb6).2.2.2.2.1.mono ?_
    rintro e w7 ⟨rfl, h7⟩
    have hb7 := hb6.trans (h7.mono hb6.size)
    go_wp2_with fail
    refine (HQ.out _ hb7).2.2.2.2.2.mono ?_
    rintro e w8 ⟨rfl, q, rfl⟩
    have hb8 := below_drewN hb7 q
    go_wp2
    go_ret
    exact ⟨rfl, HW.out _ hb8⟩

set_option maxRecDepth 100000 in
set_option maxHeartbeats 1000000 in
theorem lifted (os : Os) (started : os.Started) (H : Type) (enc : TypeId × Value → H) :
    ReturnsInHanded {} Tryd.checked os 4 .any (fun w args => (Rows.dictFindsSpec.pre enc Tryd.prog Tryd.f4 [] false w args ∧ laidMetH Tryd.prog laid3 w) ∧ sizedMet enc Tryd.prog Tryd.f4 (OpenSpec.ofChange Rows.dictFindsSpec) false w args)
      (Rows.dictFindsSpec.post enc Tryd.prog Tryd.f4 false true false false) := by
  refine returnsInHanded_of_change_and (C := Tryd.checked) (X := fun w _ => laidMetH Tryd.prog laid3 w) (fun _ _ _ hh h => h.of_heap hh) own started (by kernel_rfl) Tryd.func4
    (ChangeSpec.witness_shaped (enc := enc) (C := Tryd.checked) (os := os) (X := fun w _ => laidMetH Tryd.prog laid3 w) false (World.doorLaid Tryd.prog 54 os) #[.slice none 0 0, .string ⟨#[]⟩, .string ⟨#[]⟩, .bool false] 8 rfl (World.shaped_of_RefB (by kernel_rfl) (by kernel_rfl)) (by kernel_rfl) (by kernel_rfl) (by kernel_rfl) (door_met os _)) ?_
  intro W base args ds gs before hval0 hW _ _ hL _
  obtain ⟨⟨a, b, hS⟩, hE⟩ := both_of_laid hL
  have hval : ∀ (j : Nat) t v, Tryd.f4.params[j]? = some t → args[j]? = some v → Value.okWide Tryd.prog W .any base t v := hval0
  have hW' := hW
  obtain ⟨p, q, hA0, hV, rfl, hfz, hnd⟩ := hW
  have hA : DataW.TrodAll enc Tryd.prog W 0 (fun _ => true) true Tryd.f4.params.toList args.toList ds p := hA0
  rw [Tryd.params4] at hA hval
  obtain ⟨v0, vs0, d0, ds0, p0, q0, hargs, rfl, rfl, h0, r0⟩ := trodAll_cons hA
  obtain ⟨v1, vs1, d1, ds1, p1, q1, rfl, rfl, rfl, h1, r1⟩ := trodAll_cons r0
  obtain ⟨v2, vs2, d2, ds2, p2, q2, rfl, rfl, rfl, h2, r2⟩ := trodAll_cons r1
  obtain ⟨v3, vs3, d3, ds3, p3, q3, rfl, rfl, rfl, h3, r3⟩ := trodAll_cons r2
  obtain ⟨rfl, rfl, rfl⟩ := trodAll_nil r3
  obtain rfl : args = #[v0, v1, v2, v3] := by cases args; simp_all
  obtain ⟨rfl, rfl⟩ := trodVars_none hV
  obtain ⟨x0, len0, cap0, ls0, rfl, hlc0, hcm0, hln0, hz0, hI0, hr0⟩ := open_strings (hval 0 22 v0 rfl rfl) h0 (fun q hq => hW'.lt q (by simp [hq]))
  obtain ⟨z1, rfl, l1, rfl, hr1⟩ := open_text (hval 1 9 v1 rfl rfl) h1
  obtain ⟨z2, rfl, l2, rfl, hr2⟩ := open_text (hval 2 9 v2 rfl rfl) h2
  obtain ⟨b3, rfl, rfl, rfl⟩ := open_bool Tryd.underlying4 (hval 3 4 v3 rfl rfl) h3
  clear hA0 hval0
  simp only [List.append_nil] at hW'
  refine (walk a b x0 len0 cap0 ls0 hlc0 hcm0 hln0 hz0 z1 l1 z2 l2 b3 W hI0 hS hE (Nat.le_refl _)).mono fun e W' ⟨he, hg⟩ => ?_
  subst he
  exact ⟨_, rfl, post_below (pa := _) (pv := []) hW' (fun _ _ _ => (trodAll_cons_mk (shut_bool Tryd.underlying4 _) trodAll_mk0)) (fun sp hsp => (trodAll_cons_mk (hr0 _ hg sp (fun p hp => hsp p (by simp [hp]))) (trodAll_cons_mk (hr1 _ _ _ _) (trodAll_cons_mk (hr2 _ _ _ _) (trodAll_cons_mk (shut_bool Tryd.underlying4 b3) trodAll_mk0))))) (fun _ _ => rfl) (by simp)
    hg (ok_one (by kernel_rfl) rfl (okWide_bool_mk Tryd.underlying4 _))⟩

theorem over : Rows.DictFindsSaid :=
  OpenClaim.holds_of_wide 4 Tryd.f4 rfl rfl rfl rfl rfl rfl rfl ⟨rfl, rfl, rfl, rfl, rfl⟩ rfl rfl rfl rfl rfl (by kernel_rfl) Tryd.func4 (by kernel_rfl)
    (of_decide_eq_true (by kernel_rfl)) (by unfold Func.isWrapper; first | (rw [if_pos (by decide +kernel)]; kernel_rfl) | (rw [if_neg (by decide +kernel)]; exact ⟨rfl, rfl⟩))
    (fun os started H enc _ => lifted os started H enc)

/-- The statement: the tied card. -/
theorem proved : Rows.DictFindsCardSaid :=
  Claim7.holds_tied_plain_at .later [] [.handle, .sentinel, .sentinel] true _ true
    over (fun _ h => by cases h) (by kernel_rfl) (fun _ h => by cases h) dictFinds_row_tie rfl ⟨rfl, rfl⟩ (by kernel_rfl) rfl
    (fun f fn hf hfn => by
      obtain rfl : f = 4 := Option.some.inj ((show Tryd.prog.funcNamed "tesserae/tesseraelaw05.DictFinds" = some 4 by kernel_rfl).symm.trans hf) |>.symm
      obtain rfl : fn = Tryd.f4 := (Option.some.inj (Tryd.func4.symm.trans hfn)).symm
      exact ⟨by kernel_rfl, fun j t ht => by
        rw [Tryd.params4] at ht
        have hm : t ∈ [22, 9, 9, 4] := by simpa using Array.mem_of_getElem? ht
        have hall : ([22, 9, 9, 4].all fun u => !Tryd.prog.wantsStandIn u) = true := by kernel_rfl
        exact (show Tryd.prog.wantsStandIn t = false by simpa using List.all_eq_true.1 hall t hm)⟩)
    (by kernel_rfl)
#print axioms proved
end Go.Proofs.YthoegicchjadaaaDoor.dictFinds
