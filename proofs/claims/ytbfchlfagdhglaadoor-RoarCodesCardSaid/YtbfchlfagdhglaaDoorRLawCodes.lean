import Derived.Test.YtbfchlfagdhglaaDoorMG15
import Derived.Test.YtbfchlfagdhglaaDoorMG16
import Derived.Test.YtbfchlfagdhglaaDoorMG19
import Derived.BigQuiet
import Derived.StillTailTactics
import Derived.Sort.AtCall
/- RoarCodes: a bitmap's bytes, and bitmaps of bytes, are the document's. No condition beyond the row's. -/
namespace Go.Proofs.YtbfchlfagdhglaaDoor.roarCodes
open Go.ChangeShapes Go.WideShapes Go.ChangeAt Go.RowKit Go.Joins

theorem okCh_few {r : List Ch} (h : ∀ c ∈ r, OkCh c) : ∀ c ∈ fewR r, OkCh c := fun c hc => by
  obtain ⟨x, hx, rfl⟩ := List.mem_map.1 hc
  have := h x (List.mem_of_mem_take hx)
  refine ⟨this.1, this.2.1, ?_⟩
  show (x.2.2.take 260).length ≤ _
  rw [List.length_take]; omega
set_option maxRecDepth 100000 in
set_option maxHeartbeats 8000000 in
theorem walk (a b m v r : Addr) (x0 : Option Addr) (len0 cap0 : Nat) (rl0 : List Ch) (hlc0 : len0 ≤ cap0) (hcm0 : cap0 ≤ 9223372036854775807) (_hln0 : rl0.length = len0) (hok0 : ∀ c ∈ rl0, OkCh c) (s : List UInt8) (_hs : s.length ≤ 9223372036854775807) (w : World) (hC0 : Chs w.heap.size w (.slice x0 len0 cap0) rl0) (hS : Sent w.heap.size w a b) (h3 : Sen3 w.heap.size w m v r) :
    Calls Tryd.prog 3 #[.agg #[.slice x0 len0 cap0], .string ⟨s.toArray⟩] w fun e w' => e = .returned (.bool true) ∧ Below w.heap.size w w' := by
  have hd0 : ∀ c ∈ rl0, c.2.2.length ≤ 9223372036854775807 := fun c hc => (hok0 c hc).2.2
  have HC0 := Lib.hid hC0
  have hOkA := okCh_few hok0
  have h3A := fewR_ok rl0
  have HF0 := Lib.hid (fun W h => fewr_any x0 len0 cap0 rl0 (by omega) hd0 W h)
  generalize fewR rl0 = RA at *
  have HCut := Lib.hid (cut07_any s)
  have hzl : (s.take 2000).length ≤ 9223372036854775807 := by rw [List.length_take]; omega
  generalize s.take 2000 = z at *
  have HDe := Lib.hid (fun W (hW : Below w.heap.size w W) => dec_roar a b m v r z hzl W (hS.below hW) hW.size (h3.below hW))
  have HDr := Lib.hid (fun W => ref_decz_any z hzl W)
  obtain ⟨RZ, qz, ez, eZ⟩ : ∃ r q f, decZ z = (r, q, f) := ⟨_, _, _, rfl⟩
  simp only [eZ] at HDe HDr
  obtain ⟨en, ec, eE⟩ : ∃ l f, encZ RA = (l, f) := ⟨_, _, rfl⟩
  have HEn := Lib.hid (fun y k (oA : OkR RA.length k RA) W h => enc_prog y RA.length k RA oA W h)
  have HEr := Lib.hid (fun y k (oA : RA.length ≤ 9223372036854775807) W h => ref_encz_any y RA.length k RA oA h3A W h)
  simp only [eE] at HEn HEr
  have bA := Blk.new w 24 #[.slice x0 len0 cap0]
  have hB : Below w.heap.size w (w.alloc (.cells #[.slice x0 len0 cap0] 24)) := (Below.refl _ w).alloc (Nat.le_refl _) _
  clear hC0 hok0 hd0 eZ eE hS h3 hzl
  go_enter Tryd.func3, Tryd.ntmps3
  go_wp2_with fail
  generalize (w.alloc (.cells #[.slice x0 len0 cap0] 24)) = w0 at *
  refine (shownz_any _).mono ?_
  rintro e w1 ⟨rfl, hb⟩
  have bA1 := bA.under hb
  have hB1 := hB.trans (hb.mono hB.size)
  clear bA hB hb
  have cA := bA1.cell 0
  dsimp at cA
  go_wp2_with fail
  refine (HF0.out _ ((HC0.out.below hB1).more hB1.size)).mono ?_
  rintro e w2 ⟨yA, kA, rfl, m1, m2, m3, hb, -⟩
  have oA : OkR RA.length kA RA := ⟨m1, by unfold maxLen at m2; omega, hOkA⟩
  have bA2 := bA1.under hb
  have hB2 := hB1.trans (hb.mono hB1.size)
  clear bA1 hB1 hb m1 m2 cA
  go_wp2_with fail
  refine (HEn.out _ _ oA _ m3).mono ?_
  rintro e w3 ⟨rfl, hb⟩
  have bA3 := bA2.under hb
  have hB3 := hB2.trans (hb.mono hB2.size)
  clear bA2 hB2 hb m3
  have cA := bA3.cell 0
  dsimp at cA
  go_wp2_with fail
  refine (HF0.out _ ((HC0.out.below hB3).more hB3.size)).mono ?_
  rintro e w4 ⟨yB, kB, rfl, m1, m2, m3, hb, -⟩
  have hB4 := hB3.trans (hb.mono hB3.size)
  clear bA3 hB3 hb cA
  go_wp2_with fail
  refine (HEr.out _ _ (by unfold maxLen at m2; omega) _ m3).mono ?_
  rintro e w5 ⟨rfl, hb⟩
  have hB5 := hB4.trans (hb.mono hB4.size)
  clear hB4 hb m1 m2 m3
  go_wp2_with fail
  refine (HCut.out _).mono ?_
  rintro e w' ⟨rfl, rfl⟩
  go_wp2_with fail
  refine (HDe.out _ hB5).mono ?_
  rintro e w6 ⟨yC, kC, rfl, m1, m2, m3, hb, -⟩
  dsimp only at m1 m3
  have oC : RZ.length ≤ 9223372036854775807 := by unfold maxLen at m2; omega
  have bC := BoxR.new m3
  have hB6 := (hB5.trans (hb.mono hB5.size)).alloc (by have := hb.size; have := hB5.size; omega) (.cells #[.slice yC RZ.length kC] 24)
  clear hB5 hb m1 m2 m3 HDe
  go_wp2_with fail
  generalize w6.alloc (.cells #[.slice yC RZ.length kC] 24) = v6 at *
  generalize w6.heap.size = gC at *
  refine (HCut.out _).mono ?_
  rintro e w' ⟨rfl, rfl⟩
  go_wp2_with fail
  refine (HDr.out _).mono ?_
  rintro e w7 ⟨yD, kD, rfl, m1, m2, m3, hb, -⟩
  dsimp only at m1 m3
  have bC7 := (bC.under hb).alloc (.cells #[.slice yD RZ.length kD] 24)
  have bD := BoxR.new m3
  have hB7 := (hB6.trans (hb.mono hB6.size)).alloc (by have := hb.size; have := hB6.size; omega) (.cells #[.slice yD RZ.length kD] 24)
  clear hB6 hb m1 m2 m3 bC HDr
  have cC := bC7.1.cell 0; have cD := bD.1.cell 0
  dsimp at cC cD
  have HSm := Lib.hid (ref_same_any yC RZ.length kC RZ yD RZ.length kD RZ oC oC _ bC7.2 bD.2)
  rw [decide_eq_true (rfl : RZ = RZ)] at HSm
  have HB7 := Lib.hid hB7
  clear bC7 bD hB7
  go_wp2_with fail
  refine HSm.out.mono ?_
  rintro e w8 ⟨rfl, hb⟩
  have HB := Lib.hid (HB7.out.trans (hb.mono HB7.out.size))
  clear hb
  go_wp2
  go_ret
  exact ⟨rfl, HB.out⟩

set_option maxRecDepth 100000 in
set_option maxHeartbeats 1000000 in
theorem lifted (os : Os) (started : os.Started) (H : Type) (enc : TypeId × Value → H) :
    ReturnsInHanded {} Tryd.checked os 3 .any (fun w args => (Rows.roarCodesSpec.pre enc Tryd.prog Tryd.f3 [] false w args ∧ laidMetH Tryd.prog laid5 w) ∧ sizedMet enc Tryd.prog Tryd.f3 (OpenSpec.ofChange Rows.roarCodesSpec) false w args)
      (Rows.roarCodesSpec.post enc Tryd.prog Tryd.f3 false true false false) := by
  refine returnsInHanded_of_change_and (C := Tryd.checked) (X := fun w _ => laidMetH Tryd.prog laid5 w) (fun _ _ _ hh h => h.of_heap hh) own started (by kernel_rfl) Tryd.func3
    (ChangeSpec.witness_shaped (enc := enc) (C := Tryd.checked) (os := os) (X := fun w _ => laidMetH Tryd.prog laid5 w) false (World.doorLaid Tryd.prog 104 os) #[.agg #[.slice none 0 0], .string ⟨#[]⟩] 8 rfl (World.shaped_of_RefB (by kernel_rfl) (by kernel_rfl)) (by kernel_rfl) (by kernel_rfl) (by kernel_rfl) (door_met os _)) ?_
  intro W base args ds gs before hval0 hW _ _ hL _
  rw [laid_plain] at hL
  obtain ⟨a, b, m, v, r, hS, h3⟩ := five_of_laid hL
  have hval : ∀ (j : Nat) t v, Tryd.f3.params[j]? = some t → args[j]? = some v → Value.okWide Tryd.prog W .any base t v := hval0
  have hW' := hW
  obtain ⟨p, q, hA0, hV, rfl, hfz, hnd⟩ := hW
  have hA : DataW.TrodAll enc Tryd.prog W 0 (fun _ => true) true Tryd.f3.params.toList args.toList ds p := hA0
  rw [Tryd.params3] at hA hval
  obtain ⟨v0, vs0, d0, ds0, p0, q0, hargs, rfl, rfl, h0, r0⟩ := trodAll_cons hA
  obtain ⟨v1, vs1, d1, ds1, p1, q1, rfl, rfl, rfl, h1, r1⟩ := trodAll_cons r0
  obtain ⟨rfl, rfl, rfl⟩ := trodAll_nil r1
  obtain rfl : args = #[v0, v1] := by cases args; simp_all
  obtain ⟨rfl, rfl⟩ := trodVars_none hV
  obtain ⟨x0, len0, cap0, rl0, rfl, hlc0, hcm0, hln0, hok0, hC0, hr0⟩ := open_roar (hval 0 24 v0 rfl rfl) h0 (fun q hq => hW'.lt q (by simp [hq]))
  obtain ⟨z1, rfl, l1, rfl, hr1⟩ := open_text (hval 1 9 v1 rfl rfl) h1
  clear hA0 hval0
  simp only [List.append_nil] at hW'
  refine (walk a b m v r x0 len0 cap0 rl0 hlc0 hcm0 hln0 hok0 z1 l1 W hC0 hS h3).mono fun e W' ⟨he, hg⟩ => ?_
  subst he
  exact ⟨_, rfl, post_below (pa := _) (pv := []) hW' (fun _ _ _ => (trodAll_cons_mk (shut_bool Tryd.underlying4 _) trodAll_mk0)) (fun sp hsp => (trodAll_cons_mk (hr0 _ hg sp (fun p hp => hsp p (by simp [hp]))) (trodAll_cons_mk (hr1 _ _ _ _) trodAll_mk0))) (fun _ _ => rfl) (by simp)
    hg (ok_one (by kernel_rfl) rfl (okWide_bool_mk Tryd.underlying4 _))⟩

theorem over : Rows.RoarCodesSaid :=
  OpenClaim.holds_of_wide 3 Tryd.f3 rfl rfl rfl rfl rfl rfl rfl ⟨rfl, rfl, rfl, rfl, rfl⟩ rfl rfl rfl rfl rfl (by kernel_rfl) Tryd.func3 (by kernel_rfl)
    (of_decide_eq_true (by kernel_rfl)) (by unfold Func.isWrapper; first | (rw [if_pos (by decide +kernel)]; kernel_rfl) | (rw [if_neg (by decide +kernel)]; exact ⟨rfl, rfl⟩))
    (fun os started H enc _ => lifted os started H enc)

/-- The statement: the tied card. -/
theorem proved : Rows.RoarCodesCardSaid :=
  Claim7.holds_tied_plain_at .later [] [.sentinel, .sentinel, .sentinel, .sentinel, .sentinel] true _ true
    over (fun _ h => by cases h) (by kernel_rfl) (fun _ h => by cases h) roarCodes_row_tie rfl ⟨rfl, rfl⟩ (by kernel_rfl) rfl
    (fun f fn hf hfn => by
      obtain rfl : f = 3 := Option.some.inj ((show Tryd.prog.funcNamed "tesserae/tesseraelaw07.RoarCodes" = some 3 by kernel_rfl).symm.trans hf) |>.symm
      obtain rfl : fn = Tryd.f3 := (Option.some.inj (Tryd.func3.symm.trans hfn)).symm
      exact ⟨by kernel_rfl, fun j t ht => by
        rw [Tryd.params3] at ht
        have hm : t ∈ [24, 9] := by simpa using Array.mem_of_getElem? ht
        have hall : ([24, 9].all fun u => !Tryd.prog.wantsStandIn u) = true := by kernel_rfl
        exact (show Tryd.prog.wantsStandIn t = false by simpa using List.all_eq_true.1 hall t hm)⟩)
    (by kernel_rfl)
#print axioms proved
end Go.Proofs.YtbfchlfagdhglaaDoor.roarCodes
