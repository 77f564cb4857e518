/- DictRanges: Between's stretch holds just the words that lie between, for every list (its first hundred words, each cut at 110 bytes) and every two words (each cut at 100 bytes). No condition beyond the row's: the handle of error's type and package varint's two errors lie as start-up laid them (tied to the program's text). -/
import Derived.Test.YthoegicchjadaaaDoorDRow
import Derived.Test.YthoegicchjadaaaDoorDTold
namespace Go.Proofs.YthoegicchjadaaaDoor.dictRanges
open Go.ChangeShapes Go.WideShapes Go.ChangeAt Go.RowKit Go.Joins

theorem take_min (t : List UInt8) (m : Nat) (hm : m = min t.length 100) : (ByteArray.mk t.toArray).extract 0 m = ⟨(t.take 100).toArray⟩ := (ext_mk t 0 m).trans (mk_str (by
  rw [List.drop_zero, hm]
  rcases Nat.le_total t.length 100 with h | h
  · rw [Nat.min_eq_left h, List.take_length, List.take_of_length_le h]
  · rw [Nat.min_eq_right h]))
/-- A place lies within the stretch just if its word lies between. -/
theorem stretch_iff {m : List (List UInt8)} (hr : RightL m) (f t : List UInt8) {i : Nat} (hi : i < m.length) :
    (i < stA m f ↔ m[i]?.getD [] < f) ∧ (stA m f ≤ i → (i < stB (behind t) m f ↔ ¬ t < m[i]?.getD [])) := by
  unfold stA stB
  rw [if_pos hr, if_pos hr]
  refine ⟨⟨below_place, fun h => Nat.lt_of_not_le fun k => place_below (right_asc hr) k hi h⟩, fun h => ?_⟩
  obtain ⟨j, rfl⟩ : ∃ j, i = placeL m f + j := ⟨i - placeL m f, by omega⟩
  constructor
  · intro hlt
    have := firstAt_lt (q := behind t) (l := m.drop (placeL m f)) (j := j) (by omega)
    rw [drop_at] at this
    simpa [behind] using this
  · intro hn
    refine Nat.lt_of_not_le fun k => hn ?_
    have := firstAt_ge (behind_mono (right_asc hr) f t) (j := j) (by omega) (by rw [List.length_drop]; omega)
    rw [drop_at] at this
    simpa [behind] using this
theorem stB_le (q : List UInt8 → Bool) (m : List (List UInt8)) (f : List UInt8) : stA m f ≤ stB q m f ∧ stB q m f ≤ m.length := by
  unfold stA stB
  split
  · have h1 := placeL_le m f
    have h2 := firstAt_le q (m.drop (placeL m f))
    rw [List.length_drop] at h2
    omega
  · omega

set_option maxRecDepth 100000 in
set_option maxHeartbeats 8000000 in
theorem walk {n₀ : Nat} (a b : Addr) (x : Option Addr) (len cap : Nat) (ls : List (List UInt8)) (hlc : len ≤ cap) (hcm : cap ≤ 9223372036854775807) (hln : ls.length = len) (hz : ∀ j : Nat, (ls[j]?.getD []).length ≤ 9223372036854775807)
    (fr : List UInt8) (hfr : fr.length ≤ 9223372036854775807) (tz : List UInt8) (htz : tz.length ≤ 9223372036854775807) (w : World)
    (hI : Strs w.heap.size w (.slice x len cap) ls) (hS : Sent n₀ w a b) (hE : Ety n₀ w) (hn₀ : n₀ ≤ w.heap.size) :
    Calls Tryd.prog 9 #[.slice x len cap, .string ⟨fr.toArray⟩, .string ⟨tz.toArray⟩] w fun e w' => e = .returned (.bool true) ∧ Below w.heap.size w w' := by
  have HS := Lib.hid (shown_any a b w hS hE hn₀)
  have HF := Lib.hid (fun W (h : Below w.heap.size w W) => few_told x len cap ls hz W ((Wrds.mk hln hlc hcm hI).next h))
  have hl1 := few_length ls
  obtain ⟨m1, hm1⟩ : ∃ m : Nat, m = min fr.length 100 := ⟨_, rfl⟩
  obtain ⟨m2, hm2⟩ : ∃ m : Nat, m = min tz.length 100 := ⟨_, rfl⟩
  have hx1 := take_min fr m1 hm1
  have hx2 := take_min tz m2 hm2
  have hmi1 : min (fr.length : Int) 100 = (m1 : Int) := by omega
  have hmi2 : min (tz.length : Int) 100 = (m2 : Int) := by omega
  have hle1 : (m1 : Int) ≤ fr.length := by omega
  have hle2 : (m2 : Int) ≤ tz.length := by omega
  have hfl : (fr.take 100).length ≤ 100 := List.length_take_le _ _
  have htl : (tz.take 100).length ≤ 100 := List.length_take_le _ _
  generalize fr.take 100 = f at *
  generalize tz.take 100 = t at *
  clear hI hS hE hn₀ hz hln hlc hcm hm1 hm2
  go_enter Tryd.func9, Tryd.ntmps9
  go_wp2_with fail
  refine HS.out.mono ?_
  rintro e w1 ⟨rfl, hB1⟩
  go_wp2_with fail
  refine (HF.out _ hB1).mono ?_
  rintro e w2 ⟨x2, n2, cap2, rfl, hL2, hb2⟩
  have hB2 := hB1.trans (hb2.mono hB1.size)
  generalize fewS ls = l at *
  have hn2 := hL2.len
  have HB := Lib.hid (build_any x2 n2 cap2 l hn2 (by omega) w2 hL2.strs)
  have hbl := blist_length l
  have HRI := Lib.hid (right_blist l)
  have HSH := Lib.hid (blist_short l)
  go_wp2_with fail
  refine HB.out.mono ?_
  intro e w3 h
  obtain ⟨x3, n3, cap3, rfl, hL3, hb3⟩ := build_told h
  have hB3 := hB2.trans (hb3.mono hB2.size)
  have hn3 := hL3.len
  by_cases hr : RightL (uniq l)
  · have hc : bcode l = 0 := by unfold bcode; rw [if_pos hr]
    rw [hc]
    generalize blist l = m at *
    have HBt := Lib.hid (between_any x3 n3 cap3 m f hL3.len hL3.lc hL3.cm w3 hL3.strs t)
    have HST := Lib.hid (fun i (hi : i < m.length) => stretch_iff HRI.out f t hi)
    have hsb := stB_le (behind t) m f
    have HL := Lib.hid hL3
    clear h hc hr hL3 hL2 hb2 hb3 hB1 hB2 HB HF HS
    generalize stA m f = s1 at *
    generalize stB (behind t) m f = s2 at *
    have hsb1 : (s1 : Int) ≤ s2 := by omega
    have hsb2 : (s2 : Int) ≤ n3 := by omega
    go_wp2_with fail
    refine HBt.out.mono ?_
    rintro e w4 ⟨rfl, hb4⟩
    have hB4 := hB3.trans (hb4.mono hB3.size)
    have HL4 := Lib.hid (HL.out.next hb4)
    clear HBt HL hb4 hB3
    go_wp2
    go_loopw [12] (fun i wr => ∃ k : Nat, k ≤ n3 ∧ i = .int .i64 k ∧ Below w4.heap.size w4 wr) (fun i _ => n3 - (intOf i).toNat)
    case atStart => exact ⟨0, Nat.zero_le _, rfl, Below.refl _ _⟩
    case round =>
      obtain ⟨k, hk, rfl, hBr⟩ := hrel
      by_cases hlt : k < n3
      · have hlt' : (k : Int) < n3 := by omega
        obtain ⟨bb, off, rfl, hb, hcell⟩ := HL4.out.strs.at_ hlt
        have hc1 : wr.cell? ⟨bb, off + k, none⟩ = some (.string ⟨(m[k]?.getD []).toArray⟩) := (hBr.cell (p := ⟨bb, off + k, none⟩) hb).trans hcell
        have hst := HST.out k (by omega)
        have hsl := HSH.out k
        have HA : Hid (∀ p r : List UInt8, p.length ≤ 100 → r.length ≤ 100 → ∀ W, Calls Tryd.prog 28 #[.string ⟨p.toArray⟩, .string ⟨r.toArray⟩] W fun e w' => e = .returned (.bool (decide (p < r))) ∧ ∃ q, w' = W.drewN q) := Lib.hid (fun p r hp hr W => wahead_any p r (by omega) (by omega) W)
        clear hcell
        generalize m[k]?.getD [] = u at *
        by_cases ha : u < f
        · have hk1 : ¬ (s1 : Int) ≤ k := by have := hst.1.2 ha; omega
          have hd1 : decide (u < f) = true := decide_eq_true ha
          clear ha hst
          go_wp2_with (go_at_call 28; refine (HA.out _ _ (by assumption) (by assumption) _).mono ?_; rintro e w' ⟨rfl, q2, rfl⟩)
          go_roundw
          case rel => exact ⟨k + 1, by omega, by simp, below_drewN hBr _⟩
          case measure => simp [intOf]; omega
        · have hk0 : s1 ≤ k := by
            rcases Nat.lt_or_ge k s1 with h | h
            · exact absurd (hst.1.1 h) ha
            · exact h
          have hk1 : (s1 : Int) ≤ k := by omega
          have hd1 : decide (u < f) = false := decide_eq_false ha
          by_cases hb2 : t < u
          · have hk2 : ¬ (k : Int) < s2 := by
              rcases Nat.lt_or_ge k s2 with h | h
              · exact absurd hb2 ((hst.2 hk0).1 h)
              · omega
            have hd2 : decide (t < u) = true := decide_eq_true hb2
            clear ha hst hb2 hk0
            go_wp2_with (go_at_call 28; refine (HA.out _ _ (by assumption) (by assumption) _).mono ?_; rintro e w' ⟨rfl, q2, rfl⟩)
            go_roundw
            case rel => exact ⟨k + 1, by omega, by simp, below_drewN hBr _⟩
            case measure => simp [intOf]; omega
          · have hk2 : (k : Int) < s2 := by have := (hst.2 hk0).2 hb2; omega
            have hd2 : decide (t < u) = false := decide_eq_false hb2
            clear ha hst hb2 hk0
            go_wp2_with (go_at_call 28; refine (HA.out _ _ (by assumption) (by assumption) _).mono ?_; rintro e w' ⟨rfl, q2, rfl⟩)
            go_roundw
            case rel => exact ⟨k + 1, by omega, by simp, below_drewN hBr _⟩
            case measure => simp [intOf]; omega
      · obtain rfl : k = n3 := by omega
        have hge : ¬ (k : Int) < k := by omega
        have hs0 : (0 : Int) ≤ s1 := by omega
        go_wp2
        go_ret
        exact ⟨rfl, hB4.trans (hBr.mono hB4.size)⟩
  · have hc : bcode l = 50 := by unfold bcode; rw [if_neg hr]
    rw [hc]
    clear h
    go_wp2
    go_ret
    exact ⟨rfl, hB3⟩

set_option maxRecDepth 100000 in
set_option maxHeartbeats 1000000 in
theorem lifted (os : Os) (started : os.Started) (H : Type) (enc : TypeId × Value → H) :
    ReturnsInHanded {} Tryd.checked os 9 .any (fun w args => (Rows.dictRangesSpec.pre enc Tryd.prog Tryd.f9 [] false w args ∧ laidMetH Tryd.prog laid3 w) ∧ sizedMet enc Tryd.prog Tryd.f9 (OpenSpec.ofChange Rows.dictRangesSpec) false w args)
      (Rows.dictRangesSpec.post enc Tryd.prog Tryd.f9 false true false false) := by
  refine returnsInHanded_of_change_and (C := Tryd.checked) (X := fun w _ => laidMetH Tryd.prog laid3 w) (fun _ _ _ hh h => h.of_heap hh) own started (by kernel_rfl) Tryd.func9
    (ChangeSpec.witness_shaped (enc := enc) (C := Tryd.checked) (os := os) (X := fun w _ => laidMetH Tryd.prog laid3 w) false (World.doorLaid Tryd.prog 54 os) #[.slice none 0 0, .string ⟨#[]⟩, .string ⟨#[]⟩] 8 rfl (World.shaped_of_RefB (by kernel_rfl) (by kernel_rfl)) (by kernel_rfl) (by kernel_rfl) (by kernel_rfl) (door_met os _)) ?_
  intro W base args ds gs before hval0 hW _ _ hL _
  obtain ⟨⟨a, b, hS⟩, hE⟩ := both_of_laid hL
  have hval : ∀ (j : Nat) t v, Tryd.f9.params[j]? = some t → args[j]? = some v → Value.okWide Tryd.prog W .any base t v := hval0
  have hW' := hW
  obtain ⟨p, q, hA0, hV, rfl, hfz, hnd⟩ := hW
  have hA : DataW.TrodAll enc Tryd.prog W 0 (fun _ => true) true Tryd.f9.params.toList args.toList ds p := hA0
  rw [Tryd.params9] at hA hval
  obtain ⟨v0, vs0, d0, ds0, p0, q0, hargs, rfl, rfl, h0, r0⟩ := trodAll_cons hA
  obtain ⟨v1, vs1, d1, ds1, p1, q1, rfl, rfl, rfl, h1, r1⟩ := trodAll_cons r0
  obtain ⟨v2, vs2, d2, ds2, p2, q2, rfl, rfl, rfl, h2, r2⟩ := trodAll_cons r1
  obtain ⟨rfl, rfl, rfl⟩ := trodAll_nil r2
  obtain rfl : args = #[v0, v1, v2] := by cases args; simp_all
  obtain ⟨rfl, rfl⟩ := trodVars_none hV
  obtain ⟨x0, len0, cap0, ls0, rfl, hlc0, hcm0, hln0, hz0, hI0, hr0⟩ := open_strings (hval 0 22 v0 rfl rfl) h0 (fun q hq => hW'.lt q (by simp [hq]))
  obtain ⟨z1, rfl, l1, rfl, hr1⟩ := open_text (hval 1 9 v1 rfl rfl) h1
  obtain ⟨z2, rfl, l2, rfl, hr2⟩ := open_text (hval 2 9 v2 rfl rfl) h2
  clear hA0 hval0
  simp only [List.append_nil] at hW'
  refine (walk a b x0 len0 cap0 ls0 hlc0 hcm0 hln0 hz0 z1 l1 z2 l2 W hI0 hS hE (Nat.le_refl _)).mono fun e W' ⟨he, hg⟩ => ?_
  subst he
  exact ⟨_, rfl, post_below (pa := _) (pv := []) hW' (fun _ _ _ => (trodAll_cons_mk (shut_bool Tryd.underlying4 _) trodAll_mk0)) (fun sp hsp => (trodAll_cons_mk (hr0 _ hg sp (fun p hp => hsp p (by simp [hp]))) (trodAll_cons_mk (hr1 _ _ _ _) (trodAll_cons_mk (hr2 _ _ _ _) trodAll_mk0)))) (fun _ _ => rfl) (by simp)
    hg (ok_one (by kernel_rfl) rfl (okWide_bool_mk Tryd.underlying4 _))⟩

theorem over : Rows.DictRangesSaid :=
  OpenClaim.holds_of_wide 9 Tryd.f9 rfl rfl rfl rfl rfl rfl rfl ⟨rfl, rfl, rfl, rfl, rfl⟩ rfl rfl rfl rfl rfl (by kernel_rfl) Tryd.func9 (by kernel_rfl)
    (of_decide_eq_true (by kernel_rfl)) (by unfold Func.isWrapper; first | (rw [if_pos (by decide +kernel)]; kernel_rfl) | (rw [if_neg (by decide +kernel)]; exact ⟨rfl, rfl⟩))
    (fun os started H enc _ => lifted os started H enc)

/-- The statement: the tied card. -/
theorem proved : Rows.DictRangesCardSaid :=
  Claim7.holds_tied_plain_at .later [] [.handle, .sentinel, .sentinel] true _ true
    over (fun _ h => by cases h) (by kernel_rfl) (fun _ h => by cases h) dictRanges_row_tie rfl ⟨rfl, rfl⟩ (by kernel_rfl) rfl
    (fun f fn hf hfn => by
      obtain rfl : f = 9 := Option.some.inj ((show Tryd.prog.funcNamed "tesserae/tesseraelaw05.DictRanges" = some 9 by kernel_rfl).symm.trans hf) |>.symm
      obtain rfl : fn = Tryd.f9 := (Option.some.inj (Tryd.func9.symm.trans hfn)).symm
      exact ⟨by kernel_rfl, fun j t ht => by
        rw [Tryd.params9] at ht
        have hm : t ∈ [22, 9, 9] := by simpa using Array.mem_of_getElem? ht
        have hall : ([22, 9, 9].all fun u => !Tryd.prog.wantsStandIn u) = true := by kernel_rfl
        exact (show Tryd.prog.wantsStandIn t = false by simpa using List.all_eq_true.1 hall t hm)⟩)
    (by kernel_rfl)
#print axioms proved
end Go.Proofs.YthoegicchjadaaaDoor.dictRanges
