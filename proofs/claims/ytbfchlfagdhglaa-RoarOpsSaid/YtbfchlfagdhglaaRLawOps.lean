import Derived.Test.YtbfchlfagdhglaaMG24
import Derived.Sort.AtCall
/- RoarOps: what is made of two bitmaps, flipped, spanned, is the document's. No condition beyond the row's. -/
namespace Go.Proofs.Ytbfchlfagdhglaa.roarOps
open Go.ChangeShapes Go.WideShapes Go.ChangeAt Go.RowKit Go.Joins

theorem okCh_few {r : List Ch} (h : ∀ c ∈ r, OkCh c) : ∀ c ∈ fewR r, OkCh c := fun c hc => by
  obtain ⟨x, hx, rfl⟩ := List.mem_map.1 hc
  have := h x (List.mem_of_mem_take hx)
  refine ⟨this.1, this.2.1, ?_⟩
  show (x.2.2.take 260).length ≤ _
  rw [List.length_take]; omega
set_option maxRecDepth 100000 in
set_option maxHeartbeats 8000000 in
theorem walk (x0 : Option Addr) (len0 cap0 : Nat) (rl0 : List Ch) (hlc0 : len0 ≤ cap0) (hcm0 : cap0 ≤ 9223372036854775807) (hln0 : rl0.length = len0) (hok0 : ∀ c ∈ rl0, OkCh c) (x1 : Option Addr) (len1 cap1 : Nat) (rl1 : List Ch) (hlc1 : len1 ≤ cap1) (hcm1 : cap1 ≤ 9223372036854775807) (hln1 : rl1.length = len1) (hok1 : ∀ c ∈ rl1, OkCh c) (a2 : Int) (a3 : Int) (l3 : -9223372036854775808 ≤ a3) (u3 : a3 ≤ 9223372036854775807) (a4 : Int) (l4 : -9223372036854775808 ≤ a4) (u4 : a4 ≤ 9223372036854775807) (w : World) (hC0 : Chs w.heap.size w (.slice x0 len0 cap0) rl0) (hC1 : Chs w.heap.size w (.slice x1 len1 cap1) rl1) :
    Calls Try.prog 4 #[.agg #[.slice x0 len0 cap0], .agg #[.slice x1 len1 cap1], .int .i64 a2, .int .i64 a3, .int .i64 a4] w fun e w' => e = .returned (.bool true) ∧ Below w.heap.size w w' := by
  have hd0 : ∀ c ∈ rl0, c.2.2.length ≤ 9223372036854775807 := fun c hc => (hok0 c hc).2.2
  have hd1 : ∀ c ∈ rl1, c.2.2.length ≤ 9223372036854775807 := fun c hc => (hok1 c hc).2.2
  have HC0 := Lib.hid hC0
  have HC1 := Lib.hid hC1
  have hOkA := okCh_few hok0
  have hOkB := okCh_few hok1
  have h3A := fewR_ok rl0
  have h3B := fewR_ok rl1
  have HF0 := Lib.hid (fun W h => fewr_any x0 len0 cap0 rl0 (by omega) hd0 W h)
  have HF1 := Lib.hid (fun W h => fewr_any x1 len1 cap1 rl1 (by omega) hd1 W h)
  generalize fewR rl0 = RA at *
  generalize fewR rl1 = RB at *
  obtain ⟨RC, ec, eC⟩ : ∃ r f, opZ a2 RA RB = (r, f) := ⟨_, _, rfl⟩
  obtain ⟨RG, eg, eG⟩ : ∃ r f, flipZ RA a3 a4 = (r, f) := ⟨_, _, rfl⟩
  obtain ⟨RK, ek, eK⟩ : ∃ r f, flipZ [] a3 a4 = (r, f) := ⟨_, _, rfl⟩
  have bA := (Blk.new w 24 #[.slice x0 len0 cap0]).alloc (.cells #[.slice x1 len1 cap1] 24)
  have bB := Blk.new (w.alloc (.cells #[.slice x0 len0 cap0] 24)) 24 #[.slice x1 len1 cap1]
  have hB : Below w.heap.size w ((w.alloc (.cells #[.slice x0 len0 cap0] 24)).alloc (.cells #[.slice x1 len1 cap1] 24)) := ((Below.refl _ w).alloc (Nat.le_refl _) _).alloc (by simp) _
  rw [World.size_alloc] at bB
  clear hC0 hC1 hok0 hok1 hd0 hd1
  go_enter Try.func4, Try.ntmps4
  go_wp2_with fail
  generalize ((w.alloc (.cells #[.slice x0 len0 cap0] 24)).alloc (.cells #[.slice x1 len1 cap1] 24)) = w0 at *
  refine (shownz_any _).mono ?_
  rintro e w1 ⟨rfl, hb⟩
  have bA1 := bA.under hb
  have bB1 := bB.under hb
  have hB1 := hB.trans (hb.mono hB.size)
  clear bA bB hB hb
  have cA := bA1.cell 0
  dsimp at cA
  go_wp2_with fail
  refine (HF0.out _ ((HC0.out.below hB1).more hB1.size)).mono ?_
  rintro e w2 ⟨yA, kA, rfl, m1, m2, m3, hb, hfA⟩
  have oA : OkR RA.length kA RA := ⟨m1, by unfold maxLen at m2; omega, hOkA⟩
  have hgl := bB1.lt
  have fA : ∀ b o, yA = some ⟨b, o, none⟩ → w.heap.size + 1 < b := fun b o e => by have := hfA b o e; omega
  have bA2 := (bA1.under hb).set_ 0 (.slice yA RA.length kA)
  have bB2 := (bB1.under hb).far (p := ⟨w.heap.size, 0, none⟩) (by simp) (.slice yA RA.length kA)
  have hB2 := (hB1.trans (hb.mono hB1.size)).setCell (p := ⟨w.heap.size, 0, none⟩) (Nat.le_refl _) (.slice yA RA.length kA)
  have hA2 := chs_set (g := w.heap.size) (u := .slice yA RA.length kA) m3 (fun b o l c e => by cases e; have := fA b o rfl; omega)
  have cA2 := (bA1.under hb).cell 0
  have fA2 := (bA1.under hb).frozen 0
  have cB := bB2.cell 0
  dsimp at cB cA2
  clear bA1 bB1 hB1 hb m1 m2 m3 hfA cA hgl HC0 HF0
  go_wp2_with fail
  generalize w2.setCell ⟨w.heap.size, 0, none⟩ (.slice yA RA.length kA) = w2' at *
  refine (HF1.out _ ((HC1.out.below hB2).more hB2.size)).mono ?_
  rintro e w3 ⟨yB, kB, rfl, m1, m2, m3, hb, hfB⟩
  have oB : OkR RB.length kB RB := ⟨m1, by unfold maxLen at m2; omega, hOkB⟩
  have hgl := bB2.lt
  have bA_ := (bA2.under hb).far (p := ⟨w.heap.size + 1, 0, none⟩) (by simp) (.slice yB RB.length kB)
  have bB_ := (bB2.under hb).set_ 0 (.slice yB RB.length kB)
  have hB := (hB2.trans (hb.mono hB2.size)).setCell (p := ⟨w.heap.size + 1, 0, none⟩) (by simp) (.slice yB RB.length kB)
  have hA3 := chs_set (g := w.heap.size + 1) (u := .slice yB RB.length kB) (hA2.under hb) (fun b o l c e => by cases e; have := fA b o rfl; omega)
  have hB3 := chs_set (g := w.heap.size + 1) (u := .slice yB RB.length kB) m3 (fun b o l c e => by cases e; have := hfB b o rfl; omega)
  have bA : BoxR w.heap.size (.slice yA RA.length kA) RA (w3.setCell ⟨w.heap.size + 1, 0, none⟩ (.slice yB RB.length kB)) := ⟨bA_, hA3⟩
  have bB : BoxR (w.heap.size + 1) (.slice yB RB.length kB) RB (w3.setCell ⟨w.heap.size + 1, 0, none⟩ (.slice yB RB.length kB)) := ⟨bB_, hB3⟩
  have cB2 := (bB2.under hb).cell 0
  have fB2 := (bB2.under hb).frozen 0
  dsimp at cB2
  clear bA2 bB2 hB2 hA2 hb m1 m2 m3 hfB cA2 fA2 cB hgl bA_ bB_ hA3 hB3 HC1 HF1 fA
  have cA := bA.1.cell 0
  have cB := bB.1.cell 0
  dsimp at cA cB
  go_wp2_with fail
  generalize w3.setCell ⟨w.heap.size + 1, 0, none⟩ (.slice yB RB.length kB) = v3 at *
  clear cB2 fB2
  have H := op_prog a2 yA RA.length kA RA oA yB RB.length kB RB oB _ bA.2 bB.2
  rw [eC] at H
  refine H.mono ?_
  clear H cA cB
  rintro e wC ⟨yC, kC, rfl, m1, m2, m3, hb, -⟩
  dsimp only at m1 m3
  have oC : RC.length ≤ 9223372036854775807 := by unfold maxLen at m2; omega
  have bA_ := (bA.under hb).alloc (.cells #[.slice yC RC.length kC] 24)
  clear bA
  have bA := bA_
  clear bA_
  have bB_ := (bB.under hb).alloc (.cells #[.slice yC RC.length kC] 24)
  clear bB
  have bB := bB_
  clear bB_
  have bC := BoxR.new m3
  have hB_ := (hB.trans (hb.mono hB.size)).alloc (by have := hb.size; have := hB.size; omega) (.cells #[.slice yC RC.length kC] 24)
  clear hB
  have hB := hB_
  clear hB_ m1 m2 m3 hb
  have cA := bA.1.cell 0
  have cB := bB.1.cell 0
  dsimp at cA cB
  go_wp2_with fail
  generalize wC.alloc (.cells #[.slice yC RC.length kC] 24) = vC at *
  generalize wC.heap.size = gC at *
  have H := ref_opz_any a2 yA RA.length kA RA (Nat.le_trans oA.1 oA.2.1) h3A yB RB.length kB RB (Nat.le_trans oB.1 oB.2.1) h3B _ bA.2 bB.2
  rw [eC] at H
  refine H.mono ?_
  clear H cA cB
  rintro e wD ⟨yD, kD, rfl, m1, m2, m3, hb, -⟩
  dsimp only at m1 m3
  have oD : RC.length ≤ 9223372036854775807 := by unfold maxLen at m2; omega
  have bA_ := (bA.under hb).alloc (.cells #[.slice yD RC.length kD] 24)
  clear bA
  have bA := bA_
  clear bA_
  have bB_ := (bB.under hb).alloc (.cells #[.slice yD RC.length kD] 24)
  clear bB
  have bB := bB_
  clear bB_
  have bC_ := (bC.under hb).alloc (.cells #[.slice yD RC.length kD] 24)
  clear bC
  have bC := bC_
  clear bC_
  have bD := BoxR.new m3
  have hB_ := (hB.trans (hb.mono hB.size)).alloc (by have := hb.size; have := hB.size; omega) (.cells #[.slice yD RC.length kD] 24)
  clear hB
  have hB := hB_
  clear hB_ m1 m2 m3 hb
  clear bB oB
  have cA := bA.1.cell 0
  dsimp at cA
  go_wp2_with fail
  generalize wD.alloc (.cells #[.slice yD RC.length kD] 24) = vD at *
  generalize wD.heap.size = gD at *
  have H := flip_prog yA RA.length kA RA oA _ bA.2 a3 a4 l3 u3 l4 u4
  rw [eG] at H
  refine H.mono ?_
  clear H cA
  rintro e wG ⟨yG, kG, rfl, m1, m2, m3, hb, -⟩
  dsimp only at m1 m3
  have oG : RG.length ≤ 9223372036854775807 := by unfold maxLen at m2; omega
  have bA_ := (bA.under hb).alloc (.cells #[.slice yG RG.length kG] 24)
  clear bA
  have bA := bA_
  clear bA_
  have bC_ := (bC.under hb).alloc (.cells #[.slice yG RG.length kG] 24)
  clear bC
  have bC := bC_
  clear bC_
  have bD_ := (bD.under hb).alloc (.cells #[.slice yG RG.length kG] 24)
  clear bD
  have bD := bD_
  clear bD_
  have bG := BoxR.new m3
  have hB_ := (hB.trans (hb.mono hB.size)).alloc (by have := hb.size; have := hB.size; omega) (.cells #[.slice yG RG.length kG] 24)
  clear hB
  have hB := hB_
  clear hB_ m1 m2 m3 hb
  have cA := bA.1.cell 0
  dsimp at cA
  go_wp2_with fail
  generalize wG.alloc (.cells #[.slice yG RG.length kG] 24) = vG at *
  generalize wG.heap.size = gG at *
  have H := ref_flipz_any yA RA.length kA RA (Nat.le_trans oA.1 oA.2.1) h3A a3 a4 _ bA.2
  rw [eG] at H
  refine H.mono ?_
  clear H cA
  rintro e wI ⟨yI, kI, rfl, m1, m2, m3, hb, -⟩
  dsimp only at m1 m3
  have oI : RG.length ≤ 9223372036854775807 := by unfold maxLen at m2; omega
  have bA_ := (bA.under hb).alloc (.cells #[.slice yI RG.length kI] 24)
  clear bA
  have bA := bA_
  clear bA_
  have bC_ := (bC.under hb).alloc (.cells #[.slice yI RG.length kI] 24)
  clear bC
  have bC := bC_
  clear bC_
  have bD_ := (bD.under hb).alloc (.cells #[.slice yI RG.length kI] 24)
  clear bD
  have bD := bD_
  clear bD_
  have bG_ := (bG.under hb).alloc (.cells #[.slice yI RG.length kI] 24)
  clear bG
  have bG := bG_
  clear bG_
  have bI := BoxR.new m3
  have hB_ := (hB.trans (hb.mono hB.size)).alloc (by have := hb.size; have := hB.size; omega) (.cells #[.slice yI RG.length kI] 24)
  clear hB
  have hB := hB_
  clear hB_ m1 m2 m3 hb
  clear bA oA
  go_wp2_with fail
  generalize wI.alloc (.cells #[.slice yI RG.length kI] 24) = vI at *
  generalize wI.heap.size = gI at *
  have H := span_prog a3 a4 l3 u3 l4 u4
  rw [eK] at H
  refine (H _).mono ?_
  clear H
  rintro e wK ⟨yK, kK, rfl, m1, m2, m3, hb, -⟩
  dsimp only at m1 m3
  have oK : RK.length ≤ 9223372036854775807 := by unfold maxLen at m2; omega
  have bC_ := (bC.under hb).alloc (.cells #[.slice yK RK.length kK] 24)
  clear bC
  have bC := bC_
  clear bC_
  have bD_ := (bD.under hb).alloc (.cells #[.slice yK RK.length kK] 24)
  clear bD
  have bD := bD_
  clear bD_
  have bG_ := (bG.under hb).alloc (.cells #[.slice yK RK.length kK] 24)
  clear bG
  have bG := bG_
  clear bG_
  have bI_ := (bI.under hb).alloc (.cells #[.slice yK RK.length kK] 24)
  clear bI
  have bI := bI_
  clear bI_
  have bK := BoxR.new m3
  have hB_ := (hB.trans (hb.mono hB.size)).alloc (by have := hb.size; have := hB.size; omega) (.cells #[.slice yK RK.length kK] 24)
  clear hB
  have hB := hB_
  clear hB_ m1 m2 m3 hb
  go_wp2_with fail
  generalize wK.alloc (.cells #[.slice yK RK.length kK] 24) = vK at *
  generalize wK.heap.size = gK at *
  have H := ref_spanz_any a3 a4
  simp only [eK] at H
  refine (H _).mono ?_
  clear H
  rintro e wM ⟨yM, kM, rfl, m1, m2, m3, hb, -⟩
  dsimp only at m1 m3
  have oM : RK.length ≤ 9223372036854775807 := by unfold maxLen at m2; omega
  have bC_ := (bC.under hb).alloc (.cells #[.slice yM RK.length kM] 24)
  clear bC
  have bC := bC_
  clear bC_
  have bD_ := (bD.under hb).alloc (.cells #[.slice yM RK.length kM] 24)
  clear bD
  have bD := bD_
  clear bD_
  have bG_ := (bG.under hb).alloc (.cells #[.slice yM RK.length kM] 24)
  clear bG
  have bG := bG_
  clear bG_
  have bI_ := (bI.under hb).alloc (.cells #[.slice yM RK.length kM] 24)
  clear bI
  have bI := bI_
  clear bI_
  have bK_ := (bK.under hb).alloc (.cells #[.slice yM RK.length kM] 24)
  clear bK
  have bK := bK_
  clear bK_
  have bM := BoxR.new m3
  have hB_ := (hB.trans (hb.mono hB.size)).alloc (by have := hb.size; have := hB.size; omega) (.cells #[.slice yM RK.length kM] 24)
  clear hB
  have hB := hB_
  clear hB_ m1 m2 m3 hb
  have cC := bC.1.cell 0
  have cD := bD.1.cell 0
  dsimp at cC cD
  go_wp2_with fail
  generalize wM.alloc (.cells #[.slice yM RK.length kM] 24) = vM at *
  generalize wM.heap.size = gM at *
  refine (ref_same_any yC RC.length kC RC yD RC.length kD RC oC oD _ bC.2 bD.2).mono ?_
  rintro e wCD ⟨rfl, hb⟩
  rw [decide_eq_true rfl]
  clear cC cD bC bD
  have bG_ := bG.under hb
  clear bG
  have bG := bG_
  clear bG_
  have bI_ := bI.under hb
  clear bI
  have bI := bI_
  clear bI_
  have bK_ := bK.under hb
  clear bK
  have bK := bK_
  clear bK_
  have bM_ := bM.under hb
  clear bM
  have bM := bM_
  clear bM_
  have hB_ := hB.trans (hb.mono hB.size)
  clear hB
  have hB := hB_
  clear hB_ hb
  have cG := bG.1.cell 0
  have cI := bI.1.cell 0
  dsimp at cG cI
  go_wp2_with fail
  refine (ref_same_any yG RG.length kG RG yI RG.length kI RG oG oI _ bG.2 bI.2).mono ?_
  rintro e wGI ⟨rfl, hb⟩
  rw [decide_eq_true rfl]
  clear cG cI bG bI
  have bK_ := bK.under hb
  clear bK
  have bK := bK_
  clear bK_
  have bM_ := bM.under hb
  clear bM
  have bM := bM_
  clear bM_
  have hB_ := hB.trans (hb.mono hB.size)
  clear hB
  have hB := hB_
  clear hB_ hb
  have cK := bK.1.cell 0
  have cM := bM.1.cell 0
  dsimp at cK cM
  go_wp2_with fail
  refine (ref_same_any yK RK.length kK RK yM RK.length kM RK oK oM _ bK.2 bM.2).mono ?_
  rintro e wKM ⟨rfl, hb⟩
  rw [decide_eq_true rfl]
  clear cK cM bK bM
  have hB_ := hB.trans (hb.mono hB.size)
  clear hB
  have hB := hB_
  clear hB_ hb
  have HB := Lib.hid hB
  clear hB
  go_wp2
  go_ret
  exact ⟨rfl, HB.out⟩
set_option maxRecDepth 100000 in
theorem lifted (os : Os) (started : os.Started) (H : Type) (enc : TypeId × Value → H) :
    ReturnsInHanded {} Try.checked os 4 .any (Rows.roarOpsSpec.pre6 enc Try.prog Try.f4 Rows.roarOpsRow.domain false) (Rows.roarOpsSpec.post enc Try.prog Try.f4 false true false false) := by
  refine returnsInHanded_of_change (C := Try.checked) own started (by kernel_rfl) Try.func4
    (ChangeSpec.witness6 (enc := enc) (C := Try.checked) false ⟨#[], #[.agg #[.slice none 0 0], .agg #[.slice none 0 0], .int .i64 0, .int .i64 0, .int .i64 0], []⟩ 8 (by kernel_rfl) (by kernel_rfl) (by kernel_rfl) (by kernel_rfl)) ?_
  intro W base args ds gs before hval0 hW hcnd _
  have hval : ∀ (j : Nat) t v, Try.f4.params[j]? = some t → args[j]? = some v → Value.okWide Try.prog W .any base t v := hval0
  have hW' := hW
  obtain ⟨p, q, hA0, hV, rfl, hfz, hnd⟩ := hW
  have hA : DataW.TrodAll enc Try.prog W 0 (fun _ => true) true Try.f4.params.toList args.toList ds p := hA0
  rw [Try.params4] at hA hval
  obtain ⟨v0, vs0, d0, ds0, p0, q0, hargs, rfl, rfl, h0, r0⟩ := trodAll_cons hA
  obtain ⟨v1, vs1, d1, ds1, p1, q1, rfl, rfl, rfl, h1, r1⟩ := trodAll_cons r0
  obtain ⟨v2, vs2, d2, ds2, p2, q2, rfl, rfl, rfl, h2, r2⟩ := trodAll_cons r1
  obtain ⟨v3, vs3, d3, ds3, p3, q3, rfl, rfl, rfl, h3, r3⟩ := trodAll_cons r2
  obtain ⟨v4, vs4, d4, ds4, p4, q4, rfl, rfl, rfl, h4, r4⟩ := trodAll_cons r3
  obtain ⟨rfl, rfl, rfl⟩ := trodAll_nil r4
  obtain rfl : args = #[v0, v1, v2, v3, v4] := by cases args; simp_all
  obtain ⟨rfl, rfl⟩ := trodVars_none hV
  obtain ⟨x0, len0, cap0, rl0, rfl, hlc0, hcm0, hln0, hok0, hC0, hr0⟩ := open_roar (hval 0 24 v0 rfl rfl) h0 (fun q hq => hW'.lt q (by simp [hq]))
  obtain ⟨x1, len1, cap1, rl1, rfl, hlc1, hcm1, hln1, hok1, hC1, hr1⟩ := open_roar (hval 1 24 v1 rfl rfl) h1 (fun q hq => hW'.lt q (by simp [hq]))
  obtain ⟨a2, rfl, rfl, rfl, w2⟩ := open_int Try.underlying3 (hval 2 3 v2 rfl rfl) h2
  obtain ⟨a3, rfl, rfl, rfl, w3⟩ := open_int Try.underlying3 (hval 3 3 v3 rfl rfl) h3
  obtain ⟨l3, u3⟩ := i64_of_wf w3
  obtain ⟨a4, rfl, rfl, rfl, w4⟩ := open_int Try.underlying3 (hval 4 3 v4 rfl rfl) h4
  obtain ⟨l4, u4⟩ := i64_of_wf w4
  clear hA0 hval0
  simp only [List.append_nil] at hW'
  refine (walk x0 len0 cap0 rl0 hlc0 hcm0 hln0 hok0 x1 len1 cap1 rl1 hlc1 hcm1 hln1 hok1 a2 a3 l3 u3 a4 l4 u4 W hC0 hC1).mono fun e W' ⟨he, hg⟩ => ?_
  subst he
  exact ⟨_, rfl, post_below (pa := _) (pv := []) hW' (fun _ _ _ => (trodAll_cons_mk (shut_bool Try.underlying4 _) trodAll_mk0)) (fun sp hsp => (trodAll_cons_mk (hr0 _ hg sp (fun p hp => hsp p (by simp [hp]))) (trodAll_cons_mk (hr1 _ hg sp (fun p hp => hsp p (by simp [hp]))) (trodAll_cons_mk (shut_int Try.underlying3 w2) (trodAll_cons_mk (shut_int Try.underlying3 w3) (trodAll_cons_mk (shut_int Try.underlying3 w4) trodAll_mk0)))))) (fun _ _ => rfl) (by simp)
    hg (ok_one (by kernel_rfl) rfl (okWide_bool_mk Try.underlying4 _))⟩

theorem over : Rows.roarOpsRow.holds Try.pinned (OpenSpec.ofChange Rows.roarOpsSpec) :=
  OpenClaim.holds_of_wide 4 Try.f4 rfl rfl rfl rfl rfl rfl rfl ⟨rfl, rfl, rfl, rfl, rfl⟩ rfl rfl rfl rfl rfl (by kernel_rfl) Try.func4 (by kernel_rfl)
    (of_decide_eq_true (by kernel_rfl)) (by unfold Func.isWrapper; first | (rw [if_pos (by decide +kernel)]; kernel_rfl) | (rw [if_neg (by decide +kernel)]; exact ⟨rfl, rfl⟩))
    (fun os started H enc _ => lifted os started H enc)

/-- The statement. -/
theorem proved : Rows.RoarOpsSaid :=
  over
#print axioms proved
end Go.Proofs.Ytbfchlfagdhglaa.roarOps
