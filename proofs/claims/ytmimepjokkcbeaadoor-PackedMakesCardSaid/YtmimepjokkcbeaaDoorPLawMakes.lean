/- PackedMakes: widths, bytes, and lists of bytes, their numbers are the document's: for any numbers (the first thousand and ten), bytes (the first two thousand and ten), place. No condition beyond the row's: package varint's two errors lie as start-up laid them (tied to the program's text). -/
import Derived.Test.YtmimepjokkcbeaaDoorPRow
import Derived.Test.YtmimepjokkcbeaaDoorPShown
import Derived.Test.YtmimepjokkcbeaaDoorPRefU
import Derived.Test.YtmimepjokkcbeaaDoorPSame
import Derived.Laws.Concat
namespace Go.Proofs.YtmimepjokkcbeaaDoor.packedMakes
open Go.ChangeShapes Go.WideShapes Go.ChangeAt Go.RowKit Go.Joins

/-- The document's Unpack where its text's list is known; where it finds fault. -/
theorem ref_good (s : List UInt8) (hs : s.length ≤ 1000000) (h0 : pcode s = 0) (w : World) :
    Calls Tryd.prog 17 #[.string ⟨s.toArray⟩] w fun e w' => ∃ x cap, e = .returned (.tuple #[.slice x (vnum s) cap, .string ⟨(prest s).toArray⟩, .int .i64 0]) ∧ Ints w'.heap.size w' (.slice x (vnum s) cap) (plistZ s) ∧ Below w.heap.size w w' := by
  refine (ref_unpack_any s hs w).mono ?_
  rintro e w' ⟨hb, ⟨_, x, cap, rfl, hI⟩ | ⟨h, _⟩⟩
  · exact ⟨x, cap, rfl, hI, hb⟩
  · exact absurd h0 h
theorem ref_bad (s : List UInt8) (hs : s.length ≤ 1000000) (h0 : pcode s ≠ 0) (w : World) :
    Calls Tryd.prog 17 #[.string ⟨s.toArray⟩] w fun e w' => e = .returned (.tuple #[.slice none 0 0, .string ⟨s.toArray⟩, .int .i64 (pcode s)]) ∧ Below w.heap.size w w' := by
  refine (ref_unpack_any s hs w).mono ?_
  rintro e w' ⟨hb, ⟨h, _⟩ | ⟨_, rfl⟩⟩
  · exact absurd h h0
  · exact ⟨rfl, hb⟩

set_option maxRecDepth 100000 in
set_option maxHeartbeats 4000000 in
theorem walk {n₀ : Nat} (a b : Addr) (x : Option Addr) (len cap : Nat) (zs : List Int) (hlc : len ≤ cap) (hcm : cap ≤ 9223372036854775807) (hln : zs.length = len) (hz : In64 zs) (t : List UInt8) (_ : t.length ≤ 9223372036854775807) (p : Int) (h1 : -9223372036854775808 ≤ p) (h2 : p ≤ 9223372036854775807)
    (w : World) (hI : Ints w.heap.size w (.slice x len cap) zs) (hS : Sent n₀ w a b) (hn₀ : n₀ ≤ w.heap.size) :
    Calls Tryd.prog 3 #[.slice x len cap, .string ⟨t.toArray⟩, .int .i64 p] w fun e w' => e = .returned (.bool true) ∧ Below w.heap.size w w' := by
  have hJ := ints_cut hI 1010 hln
  have hzt := in64_take hz 1010
  have hzl : (zs.take 1010).length = min len 1010 := by rw [List.length_take, hln]; omega
  have HF := Lib.hid (few_any x len cap hlc hcm)
  have hm : min len 1010 ≤ 1010 := by omega
  have HC := Lib.hid (cut_any t)
  have hcl : (t.take 2010).length ≤ 2010 := List.length_take_le _ _
  clear hln hI hz hlc hcm
  generalize t.take 2010 = c at *
  generalize zs.take 1010 = ys at *
  generalize min len 1010 = m at *
  have HJ := Lib.hid hJ
  have HPk := Lib.hid (fun w' h => pack_any x m cap ys hzl (by omega) hzt w' h)
  have HRP := Lib.hid (fun w' h => ref_pack_any x m cap ys hzl (by omega) hzt w' h)
  have HWd := Lib.hid (fun w' h => width_any x m cap ys hzl (by omega) hzt w' h)
  have HRW := Lib.hid (fun w' h => ref_width_any x m cap ys hzl (by omega) hzt w' h)
  unfold PackPost at HPk HRP
  unfold WidthPost at HWd HRW
  clear hJ hzl hzt
  generalize packZ ys = pz at *
  generalize wcode ys = wc at *
  generalize wval ys = wv at *
  have HAt := Lib.hid (fun w' hs hn => at_any a b c (by omega) p h1 h2 w' (n₀ := n₀) hs hn)
  by_cases hc0 : pcode c = 0
  · have HU := Lib.hid (fun w' hs hn => unpack_good a b c (by omega) hc0 (plistZ c) (prest c) rfl rfl (vnum c) (plistZ_length c) w' (n₀ := n₀) hs hn)
    have HRU := Lib.hid (fun w' => ref_good c (by omega) hc0 w')
    have hai := fun h => acode_in (s := c) (p := p) hc0 h
    have han := fun h => acode_no (s := c) (p := p) hc0 h
    have hn2 := (pcode_ok hc0).2.1
    clear hc0
    generalize plistZ c = zc at *
    generalize prest c = rc at *
    generalize vnum c = nc at *
    by_cases hin : 0 ≤ p ∧ p < nc
    · obtain ⟨ea, ev⟩ := hai hin
      rw [ea, ev] at HAt
      obtain ⟨j, rfl⟩ := Int.eq_ofNat_of_zero_le hin.1
      rw [Int.toNat_natCast] at HAt
      have hjn : j < nc := by omega
      have hjn' : (j : Int) < nc := hin.2
      clear hai han ea ev hin
      go_enter Tryd.func3, Tryd.ntmps3
      go_wp2_with fail
      refine (shown_any a b _ hS hn₀).mono ?_
      rintro e w1 ⟨rfl, hB1⟩
      go_wp2_with fail
      refine (HF.out _).mono ?_
      rintro e w' ⟨rfl, rfl⟩
      go_wp2_with fail
      refine (HPk.out _ ((HJ.out.below hB1).more hB1.size)).mono ?_
      rintro e w2 ⟨rfl, hb2⟩
      have hB2 := hB1.trans (hb2.mono hB1.size)
      clear hb2
      go_wp2_with fail
      refine (HF.out _).mono ?_
      rintro e w' ⟨rfl, rfl⟩
      go_wp2_with fail
      refine (HRP.out _ ((HJ.out.below hB2).more hB2.size)).mono ?_
      rintro e w3 ⟨rfl, hb3⟩
      have hB3 := hB2.trans (hb3.mono hB2.size)
      clear hb3
      go_wp2_with fail
      refine (HF.out _).mono ?_
      rintro e w' ⟨rfl, rfl⟩
      go_wp2_with fail
      refine (HWd.out _ ((HJ.out.below hB3).more hB3.size)).mono ?_
      rintro e w4 ⟨rfl, hb4⟩
      have hB4 := hB3.trans (hb4.mono hB3.size)
      clear hb4
      go_wp2_with fail
      refine (HF.out _).mono ?_
      rintro e w' ⟨rfl, rfl⟩
      go_wp2_with fail
      refine (HRW.out _ ((HJ.out.below hB4).more hB4.size)).mono ?_
      rintro e w5 ⟨rfl, hb5⟩
      have hB5 := hB4.trans (hb5.mono hB4.size)
      clear hb5
      go_wp2_with fail
      refine (HC.out _).mono ?_
      rintro e w' ⟨rfl, rfl⟩
      go_wp2_with fail
      refine (HU.out _ (hS.below (hB5.mono hn₀)) (Nat.le_trans hn₀ hB5.size)).mono ?_
      rintro e w6 ⟨g6, rfl, hI6, hb6⟩
      have hB6 := hB5.trans (hb6.mono hB5.size)
      go_wp2_with fail
      refine (HC.out _).mono ?_
      rintro e w' ⟨rfl, rfl⟩
      go_wp2_with fail
      refine (HRU.out _).mono ?_
      rintro e w7 ⟨x7, cap7, rfl, hI7, hb7⟩
      have hB7 := hB6.trans (hb7.mono hB6.size)
      go_wp2_with fail
      refine (HC.out _).mono ?_
      rintro e w' ⟨rfl, rfl⟩
      go_wp2_with fail
      refine (HAt.out _ (hS.below (hB7.mono hn₀)) (Nat.le_trans hn₀ hB7.size)).mono ?_
      rintro e w8 ⟨rfl, hb8⟩
      have hB8 := hB7.trans (hb8.mono hB7.size)
      have hb68 := hb7.trans (hb8.mono hb7.size)
      have hI6' := (hI6.below hb68).more hb68.size
      have hI7' := (hI7.below hb8).more hb8.size
      obtain ⟨g8, o8, rfl, hg8, hcj⟩ := hI7'.at_ hjn
      generalize hzj : zc[j]?.getD 0 = z at *
      clear hzj
      go_wp2_with fail
      refine (same_any _ _ nc _ _ zc (by omega) _ hI6' hI7').mono ?_
      rintro e w9 ⟨rfl, hb9⟩
      have hB9 := hB8.trans (hb9.mono hB8.size)
      go_wp2
      go_ret
      exact ⟨rfl, hB9⟩
    · obtain ⟨ea, ev⟩ := han hin
      rw [ea, ev] at HAt
      have hpc : p < 0 ∨ (¬ p < 0 ∧ (nc : Int) ≤ p) := by omega
      clear hai han ea ev hin
      rcases hpc with hp1 | ⟨hp1, hp2⟩
      all_goals
        go_enter Tryd.func3, Tryd.ntmps3
        go_wp2_with fail
        refine (shown_any a b _ hS hn₀).mono ?_
        rintro e w1 ⟨rfl, hB1⟩
        go_wp2_with fail
        refine (HF.out _).mono ?_
        rintro e w' ⟨rfl, rfl⟩
        go_wp2_with fail
        refine (HPk.out _ ((HJ.out.below hB1).more hB1.size)).mono ?_
        rintro e w2 ⟨rfl, hb2⟩
        have hB2 := hB1.trans (hb2.mono hB1.size)
        clear hb2
        go_wp2_with fail
        refine (HF.out _).mono ?_
        rintro e w' ⟨rfl, rfl⟩
        go_wp2_with fail
        refine (HRP.out _ ((HJ.out.below hB2).more hB2.size)).mono ?_
        rintro e w3 ⟨rfl, hb3⟩
        have hB3 := hB2.trans (hb3.mono hB2.size)
        clear hb3
        go_wp2_with fail
        refine (HF.out _).mono ?_
        rintro e w' ⟨rfl, rfl⟩
        go_wp2_with fail
        refine (HWd.out _ ((HJ.out.below hB3).more hB3.size)).mono ?_
        rintro e w4 ⟨rfl, hb4⟩
        have hB4 := hB3.trans (hb4.mono hB3.size)
        clear hb4
        go_wp2_with fail
        refine (HF.out _).mono ?_
        rintro e w' ⟨rfl, rfl⟩
        go_wp2_with fail
        refine (HRW.out _ ((HJ.out.below hB4).more hB4.size)).mono ?_
        rintro e w5 ⟨rfl, hb5⟩
        have hB5 := hB4.trans (hb5.mono hB4.size)
        clear hb5
        go_wp2_with fail
        refine (HC.out _).mono ?_
        rintro e w' ⟨rfl, rfl⟩
        go_wp2_with fail
        refine (HU.out _ (hS.below (hB5.mono hn₀)) (Nat.le_trans hn₀ hB5.size)).mono ?_
        rintro e w6 ⟨g6, rfl, hI6, hb6⟩
        have hB6 := hB5.trans (hb6.mono hB5.size)
        go_wp2_with fail
        refine (HC.out _).mono ?_
        rintro e w' ⟨rfl, rfl⟩
        go_wp2_with fail
        refine (HRU.out _).mono ?_
        rintro e w7 ⟨x7, cap7, rfl, hI7, hb7⟩
        have hB7 := hB6.trans (hb7.mono hB6.size)
        go_wp2_with fail
        refine (HC.out _).mono ?_
        rintro e w' ⟨rfl, rfl⟩
        go_wp2_with fail
        refine (HAt.out _ (hS.below (hB7.mono hn₀)) (Nat.le_trans hn₀ hB7.size)).mono ?_
        rintro e w8 ⟨rfl, hb8⟩
        have hB8 := hB7.trans (hb8.mono hB7.size)
        have hb68 := hb7.trans (hb8.mono hb7.size)
        have hI6' := (hI6.below hb68).more hb68.size
        have hI7' := (hI7.below hb8).more hb8.size
        go_wp2_with fail
        refine (same_any _ _ nc _ _ zc (by omega) _ hI6' hI7').mono ?_
        rintro e w9 ⟨rfl, hb9⟩
        have hB9 := hB8.trans (hb9.mono hB8.size)
        go_wp2
        go_ret
        exact ⟨rfl, hB9⟩
  · have HU := Lib.hid (fun w' hs hn => unpack_bad a b c (by omega) hc0 w' (n₀ := n₀) hs hn)
    have HRU := Lib.hid (fun w' => ref_bad c (by omega) hc0 w')
    obtain ⟨ea, ev⟩ := acode_err (p := p) hc0
    rw [ea, ev] at HAt
    have hne : (pcode c == 0) = false := by simpa using hc0
    have hne2 : (pcode c != 0) = true := by simpa using hc0
    clear hc0 ea ev
    generalize pcode c = uc at *
    go_enter Tryd.func3, Tryd.ntmps3
    go_wp2_with fail
    refine (shown_any a b _ hS hn₀).mono ?_
    rintro e w1 ⟨rfl, hB1⟩
    go_wp2_with fail
    refine (HF.out _).mono ?_
    rintro e w' ⟨rfl, rfl⟩
    go_wp2_with fail
    refine (HPk.out _ ((HJ.out.below hB1).more hB1.size)).mono ?_
    rintro e w2 ⟨rfl, hb2⟩
    have hB2 := hB1.trans (hb2.mono hB1.size)
    clear hb2
    go_wp2_with fail
    refine (HF.out _).mono ?_
    rintro e w' ⟨rfl, rfl⟩
    go_wp2_with fail
    refine (HRP.out _ ((HJ.out.below hB2).more hB2.size)).mono ?_
    rintro e w3 ⟨rfl, hb3⟩
    have hB3 := hB2.trans (hb3.mono hB2.size)
    clear hb3
    go_wp2_with fail
    refine (HF.out _).mono ?_
    rintro e w' ⟨rfl, rfl⟩
    go_wp2_with fail
    refine (HWd.out _ ((HJ.out.below hB3).more hB3.size)).mono ?_
    rintro e w4 ⟨rfl, hb4⟩
    have hB4 := hB3.trans (hb4.mono hB3.size)
    clear hb4
    go_wp2_with fail
    refine (HF.out _).mono ?_
    rintro e w' ⟨rfl, rfl⟩
    go_wp2_with fail
    refine (HRW.out _ ((HJ.out.below hB4).more hB4.size)).mono ?_
    rintro e w5 ⟨rfl, hb5⟩
    have hB5 := hB4.trans (hb5.mono hB4.size)
    clear hb5
    go_wp2_with fail
    refine (HC.out _).mono ?_
    rintro e w' ⟨rfl, rfl⟩
    go_wp2_with fail
    refine (HU.out _ (hS.below (hB5.mono hn₀)) (Nat.le_trans hn₀ hB5.size)).mono ?_
    rintro e w6 ⟨rfl, hb6⟩
    have hB6 := hB5.trans (hb6.mono hB5.size)
    go_wp2_with fail
    refine (HC.out _).mono ?_
    rintro e w' ⟨rfl, rfl⟩
    go_wp2_with fail
    refine (HRU.out _).mono ?_
    rintro e w7 ⟨rfl, hb7⟩
    have hB7 := hB6.trans (hb7.mono hB6.size)
    go_wp2_with fail
    refine (HC.out _).mono ?_
    rintro e w' ⟨rfl, rfl⟩
    go_wp2_with fail
    refine (HAt.out _ (hS.below (hB7.mono hn₀)) (Nat.le_trans hn₀ hB7.size)).mono ?_
    rintro e w8 ⟨rfl, hb8⟩
    have hB8 := hB7.trans (hb8.mono hB7.size)
    go_wp2_with fail
    refine (same_any none none 0 0 0 [] (by decide) _ (.inl ⟨⟨none, 0, rfl⟩, rfl⟩) (.inl ⟨⟨none, 0, rfl⟩, rfl⟩)).mono ?_
    rintro e w9 ⟨rfl, hb9⟩
    have hB9 := hB8.trans (hb9.mono hB8.size)
    go_wp2
    go_ret
    exact ⟨rfl, hB9⟩

set_option maxRecDepth 100000 in
set_option maxHeartbeats 1000000 in
theorem lifted (os : Os) (started : os.Started) (H : Type) (enc : TypeId × Value → H) :
    ReturnsInHanded {} Tryd.checked os 3 .any (fun w args => (Rows.packedMakesSpec.pre enc Tryd.prog Tryd.f3 [] false w args ∧ laidMetH Tryd.prog laid2 w) ∧ sizedMet enc Tryd.prog Tryd.f3 (OpenSpec.ofChange Rows.packedMakesSpec) false w args)
      (Rows.packedMakesSpec.post enc Tryd.prog Tryd.f3 false true false false) := by
  refine returnsInHanded_of_change_and (C := Tryd.checked) (X := fun w _ => laidMetH Tryd.prog laid2 w) (fun _ _ _ hh h => h.of_heap hh) own started (by kernel_rfl) Tryd.func3
    (ChangeSpec.witness_shaped (enc := enc) (C := Tryd.checked) (os := os) (X := fun w _ => laidMetH Tryd.prog laid2 w) false (World.doorLaid Tryd.prog 47 os) #[.slice none 0 0, .string ⟨#[]⟩, .int .i64 0] 8 rfl (World.shaped_of_RefB (by kernel_rfl) (by kernel_rfl)) (by kernel_rfl) (by kernel_rfl) (by kernel_rfl) (door_met os _)) ?_
  intro W base args ds gs before hval0 hW _ _ hL _
  rw [laid_plain] at hL
  obtain ⟨a, b, hS⟩ := sent_of_laid hL
  have hval : ∀ (j : Nat) t v, Tryd.f3.params[j]? = some t → args[j]? = some v → Value.okWide Tryd.prog W .any base t v := hval0
  have hW' := hW
  obtain ⟨p, q, hA0, hV, rfl, hfz, hnd⟩ := hW
  have hA : DataW.TrodAll enc Tryd.prog W 0 (fun _ => true) true Tryd.f3.params.toList args.toList ds p := hA0
  rw [Tryd.params3] at hA hval
  obtain ⟨v0, vs0, d0, ds0, p0, q0, hargs, rfl, rfl, h0, r0⟩ := trodAll_cons hA
  obtain ⟨v1, vs1, d1, ds1, p1, q1, rfl, rfl, rfl, h1, r1⟩ := trodAll_cons r0
  obtain ⟨v2, vs2, d2, ds2, p2, q2, rfl, rfl, rfl, h2, r2⟩ := trodAll_cons r1
  obtain ⟨rfl, rfl, rfl⟩ := trodAll_nil r2
  obtain rfl : args = #[v0, v1, v2] := by cases args; simp_all
  obtain ⟨rfl, rfl⟩ := trodVars_none hV
  obtain ⟨x0, len0, cap0, zs0, rfl, hlc0, hcm0, hln0, hz0, hI0, hr0⟩ := open_numbers (hval 0 22 v0 rfl rfl) h0 (fun q hq => hW'.lt q (by simp [hq]))
  obtain ⟨z1, rfl, l1, rfl, hr1⟩ := open_text (hval 1 9 v1 rfl rfl) h1
  obtain ⟨a2, rfl, rfl, rfl, w2⟩ := open_int Tryd.underlying3 (hval 2 3 v2 rfl rfl) h2
  obtain ⟨l2, u2⟩ := i64_of_wf w2
  clear hA0 hval0
  simp only [List.append_nil] at hW'
  refine (walk a b x0 len0 cap0 zs0 hlc0 hcm0 hln0 hz0 z1 l1 a2 l2 u2 W hI0 hS (Nat.le_refl _)).mono fun e W' ⟨he, hg⟩ => ?_
  subst he
  exact ⟨_, rfl, post_below (pa := _) (pv := []) hW' (fun _ _ _ => (trodAll_cons_mk (shut_bool Tryd.underlying4 _) trodAll_mk0)) (fun sp hsp => (trodAll_cons_mk (hr0 _ hg sp (fun p hp => hsp p (by simp [hp]))) (trodAll_cons_mk (hr1 _ _ _ _) (trodAll_cons_mk (shut_int Tryd.underlying3 w2) trodAll_mk0)))) (fun _ _ => rfl) (by simp)
    hg (ok_one (by kernel_rfl) rfl (okWide_bool_mk Tryd.underlying4 _))⟩

theorem over : Rows.PackedMakesSaid :=
  OpenClaim.holds_of_wide 3 Tryd.f3 rfl rfl rfl rfl rfl rfl rfl ⟨rfl, rfl, rfl, rfl, rfl⟩ rfl rfl rfl rfl rfl (by kernel_rfl) Tryd.func3 (by kernel_rfl)
    (of_decide_eq_true (by kernel_rfl)) (by unfold Func.isWrapper; first | (rw [if_pos (by decide +kernel)]; kernel_rfl) | (rw [if_neg (by decide +kernel)]; exact ⟨rfl, rfl⟩))
    (fun os started H enc _ => lifted os started H enc)

/-- The statement: the tied card. -/
theorem proved : Rows.PackedMakesCardSaid :=
  Claim7.holds_tied_plain_at .later [] [.sentinel, .sentinel] true _ true
    over (fun _ h => by cases h) (by kernel_rfl) (fun _ h => by cases h) packedMakes_row_tie rfl ⟨rfl, rfl⟩ (by kernel_rfl) rfl
    (fun f fn hf hfn => by
      obtain rfl : f = 3 := Option.some.inj ((show Tryd.prog.funcNamed "tesserae/tesseraelaw04.PackedMakes" = some 3 by kernel_rfl).symm.trans hf) |>.symm
      obtain rfl : fn = Tryd.f3 := (Option.some.inj (Tryd.func3.symm.trans hfn)).symm
      exact ⟨by kernel_rfl, fun j t ht => by
        rw [Tryd.params3] at ht
        have hm : t ∈ [22, 9, 3] := by simpa using Array.mem_of_getElem? ht
        have hall : ([22, 9, 3].all fun u => !Tryd.prog.wantsStandIn u) = true := by kernel_rfl
        exact (show Tryd.prog.wantsStandIn t = false by simpa using List.all_eq_true.1 hall t hm)⟩)
    (by kernel_rfl)
#print axioms proved
end Go.Proofs.YtmimepjokkcbeaaDoor.packedMakes
