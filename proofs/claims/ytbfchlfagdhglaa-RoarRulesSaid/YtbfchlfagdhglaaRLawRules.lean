import Derived.Test.YtbfchlfagdhglaaMG24
import Derived.Sort.AtCall
/- RoarRules: union, and what is common, follow the rules of sets. No condition beyond the row's. -/
namespace Go.Proofs.Ytbfchlfagdhglaa.roarRules
open Go.ChangeShapes Go.WideShapes Go.ChangeAt Go.RowKit Go.Joins

/-- The bitmaps that the law makes, and what holds of them. -/
def Rules (A B C : List Ch) : Prop := ∃ O X P Q L U : List Ch, opZ 2 B C = (O, 0) ∧ opZ 1 A O = (X, 0) ∧ opZ 1 A B = (P, 0) ∧ opZ 1 A C = (Q, 0) ∧ opZ 2 P Q = (X, 0) ∧ opZ 2 C B = (O, 0) ∧ flipZ [] 0 65536 = (L, 0) ∧ flipZ O 0 65536 = (U, 0) ∧ opZ 4 L O = (U, 0) ∧ opZ 3 L O = (U, 0) ∧
  (∀ c ∈ O, OkCh c) ∧ (∀ c ∈ X, OkCh c) ∧ (∀ c ∈ P, OkCh c) ∧ (∀ c ∈ Q, OkCh c) ∧ (∀ c ∈ L, OkCh c) ∧ (∀ c ∈ U, OkCh c) ∧ (valsZ U).length + (valsZ O).length = 65536
theorem rules_of (a b c : Bs) : Rules (ofS a) (ofS b) (ofS c) := by
  have hk : okQ 0 65536 := by unfold okQ; omega
  refine ⟨ofS (opS 2 b c), ofS (opS 1 a (opS 2 b c)), ofS (opS 1 a b), ofS (opS 1 a c), ofS (spanZ 0 65536), ofS (flipS (opS 2 b c) 0 65536), opZ_of 2 (by decide) (by decide) b c, opZ_of 1 (by decide) (by decide) _ _, opZ_of 1 (by decide) (by decide) _ _, opZ_of 1 (by decide) (by decide) _ _, ?_, ?_, flipZ_nil hk, flipZ_of hk _, ?_, ?_, okCh_of _, okCh_of _, okCh_of _, okCh_of _, okCh_of _, okCh_of _, ?_⟩
  · rw [rule_dist]; exact opZ_of 2 (by decide) (by decide) _ _
  · rw [← rule_comm b c]; exact opZ_of 2 (by decide) (by decide) _ _
  · rw [← ofS_congr (rule_not (opS 2 b c))]; exact opZ_of 4 (by decide) (by decide) _ _
  · rw [← ofS_congr (rule_xor (opS 2 b c))]; exact opZ_of 3 (by decide) (by decide) _ _
  · rw [valsZ_of, valsZ_of]; exact count_flip _
set_option maxRecDepth 100000 in
set_option maxHeartbeats 8000000 in
theorem walk (x0 : Option Addr) (len0 cap0 : Nat) (zs0 : List Int) (hlc0 : len0 ≤ cap0) (hcm0 : cap0 ≤ 9223372036854775807) (hln0 : zs0.length = len0) (hz0 : In64 zs0) (x1 : Option Addr) (len1 cap1 : Nat) (zs1 : List Int) (hlc1 : len1 ≤ cap1) (hcm1 : cap1 ≤ 9223372036854775807) (hln1 : zs1.length = len1) (hz1 : In64 zs1) (x2 : Option Addr) (len2 cap2 : Nat) (zs2 : List Int) (hlc2 : len2 ≤ cap2) (hcm2 : cap2 ≤ 9223372036854775807) (hln2 : zs2.length = len2) (hz2 : In64 zs2) (w : World) (hI0 : Ints w.heap.size w (.slice x0 len0 cap0) zs0) (hI1 : Ints w.heap.size w (.slice x1 len1 cap1) zs1) (hI2 : Ints w.heap.size w (.slice x2 len2 cap2) zs2) :
    Calls Try.prog 5 #[.slice x0 len0 cap0, .slice x1 len1 cap1, .slice x2 len2 cap2] w fun e w' => e = .returned (.bool true) ∧ Below w.heap.size w w' := by
  have HI0 := Lib.hid (ints_cut hI0 300 hln0)
  have HI1 := Lib.hid (ints_cut hI1 300 hln1)
  have HI2 := Lib.hid (ints_cut hI2 300 hln2)
  have hlz0 : (zs0.take 300).length = min len0 300 := by rw [List.length_take, hln0, Nat.min_comm]
  have hlz1 : (zs1.take 300).length = min len1 300 := by rw [List.length_take, hln1, Nat.min_comm]
  have hlz2 : (zs2.take 300).length = min len2 300 := by rw [List.length_take, hln2, Nat.min_comm]
  have hz30 := in64_take hz0 300
  have hz31 := in64_take hz1 300
  have hz32 := in64_take hz2 300
  clear hI0 hI1 hI2
  generalize zs0.take 300 = zt0 at *
  generalize zs1.take 300 = zt1 at *
  generalize zs2.take 300 = zt2 at *
  have HM0 := Lib.hid (fun W h => make_prog x0 (min len0 300) cap0 zt0 hlz0 (by omega) hcm0 hz30 W h)
  have HM1 := Lib.hid (fun W h => make_prog x1 (min len1 300) cap1 zt1 hlz1 (by omega) hcm1 hz31 W h)
  have HM2 := Lib.hid (fun W h => make_prog x2 (min len2 300) cap2 zt2 hlz2 (by omega) hcm2 hz32 W h)
  have hOkRA := okCh_make zt0
  have hOkRB := okCh_make zt1
  have hOkRC := okCh_make zt2
  have hcase : ((makeZ zt0).2 = 70 ∨ ((makeZ zt0).2 = 0 ∧ (makeZ zt1).2 = 70) ∨ ((makeZ zt0).2 = 0 ∧ (makeZ zt1).2 = 0 ∧ (makeZ zt2).2 = 70)) ∨ ((makeZ zt0).2 = 0 ∧ (makeZ zt1).2 = 0 ∧ (makeZ zt2).2 = 0 ∧ Rules (makeZ zt0).1 (makeZ zt1).1 (makeZ zt2).1) := by
    by_cases q0 : AllQ zt0
    · by_cases q1 : AllQ zt1
      · by_cases q2 : AllQ zt2
        · right
          rw [makeZ_good q0, makeZ_good q1, makeZ_good q2]
          exact ⟨rfl, rfl, rfl, rules_of _ _ _⟩
        · left; right; right; rw [makeZ_good q0, makeZ_good q1, makeZ_bad q2]; exact ⟨rfl, rfl, rfl⟩
      · left; right; left; rw [makeZ_good q0, makeZ_bad q1]; exact ⟨rfl, rfl⟩
    · left; left; rw [makeZ_bad q0]
  obtain ⟨RA, fa, hA⟩ : ∃ R f, makeZ zt0 = (R, f) := ⟨_, _, rfl⟩
  obtain ⟨RB, fb, hBq⟩ : ∃ R f, makeZ zt1 = (R, f) := ⟨_, _, rfl⟩
  obtain ⟨RC, fc, hCq⟩ : ∃ R f, makeZ zt2 = (R, f) := ⟨_, _, rfl⟩
  rw [hA, hBq, hCq] at hcase
  rw [hA] at HM0 hOkRA
  rw [hBq] at HM1 hOkRB
  rw [hCq] at HM2 hOkRC
  dsimp only at hcase hOkRA hOkRB hOkRC
  clear hA hBq hCq
  go_enter Try.func5, Try.ntmps5
  go_wp2_with fail
  refine (shownz_any _).mono ?_
  rintro e w1 ⟨rfl, hB⟩
  have HIn := (HI0.out.below hB).more hB.size
  go_wp2_with fail
  refine (fewz_any x0 len0 cap0 hlc0 hcm0 _).mono ?_
  rintro e w' ⟨rfl, rfl⟩
  go_wp2_with fail
  refine (HM0.out _ HIn).mono ?_
  clear HIn
  rintro e wA ⟨yA, kA, rfl, m1, m2, m3, hb, -⟩
  dsimp only at m1 m3
  have oA : OkR RA.length kA RA := ⟨m1, by unfold maxLen at m2; omega, hOkRA⟩
  have bA := BoxR.new m3
  have hB_ := (hB.trans (hb.mono hB.size)).alloc (by have := hb.size; have := hB.size; omega) (.cells #[.slice yA RA.length kA] 24)
  clear hB
  have hB := hB_
  clear hB_ m1 m2 m3 hb
  have HIn := (HI1.out.below hB).more hB.size
  go_wp2_with fail
  generalize wA.alloc (.cells #[.slice yA RA.length kA] 24) = vA at *
  generalize wA.heap.size = gA at *
  refine (fewz_any x1 len1 cap1 hlc1 hcm1 _).mono ?_
  rintro e w' ⟨rfl, rfl⟩
  go_wp2_with fail
  refine (HM1.out _ HIn).mono ?_
  clear HIn
  rintro e wB ⟨yB, kB, rfl, m1, m2, m3, hb, -⟩
  dsimp only at m1 m3
  have oB : OkR RB.length kB RB := ⟨m1, by unfold maxLen at m2; omega, hOkRB⟩
  have bA_ := (bA.under hb).alloc (.cells #[.slice yB RB.length kB] 24)
  clear bA
  have bA := bA_
  clear bA_
  have bB := BoxR.new m3
  have hB_ := (hB.trans (hb.mono hB.size)).alloc (by have := hb.size; have := hB.size; omega) (.cells #[.slice yB RB.length kB] 24)
  clear hB
  have hB := hB_
  clear hB_ m1 m2 m3 hb
  have HIn := (HI2.out.below hB).more hB.size
  go_wp2_with fail
  generalize wB.alloc (.cells #[.slice yB RB.length kB] 24) = vB at *
  generalize wB.heap.size = gB at *
  refine (fewz_any x2 len2 cap2 hlc2 hcm2 _).mono ?_
  rintro e w' ⟨rfl, rfl⟩
  go_wp2_with fail
  refine (HM2.out _ HIn).mono ?_
  clear HIn
  rintro e wC ⟨yC, kC, rfl, m1, m2, m3, hb, -⟩
  dsimp only at m1 m3
  have oC : OkR RC.length kC RC := ⟨m1, by unfold maxLen at m2; omega, hOkRC⟩
  have bA_ := (bA.under hb).alloc (.cells #[.slice yC RC.length kC] 24)
  clear bA
  have bA := bA_
  clear bA_
  have bB_ := (bB.under hb).alloc (.cells #[.slice yC RC.length kC] 24)
  clear bB
  have bB := bB_
  clear bB_
  have bC := BoxR.new m3
  have hB_ := (hB.trans (hb.mono hB.size)).alloc (by have := hb.size; have := hB.size; omega) (.cells #[.slice yC RC.length kC] 24)
  clear hB
  have hB := hB_
  clear hB_ m1 m2 m3 hb
  rcases hcase with hc | ⟨rfl, rfl, rfl, hru⟩
  · have HB := Lib.hid hB
    clear hB bA bB bC oA oB oC hOkRA hOkRB hOkRC HM0 HM1 HM2 HI0 HI1 HI2
    rcases hc with rfl | ⟨rfl, rfl⟩ | ⟨rfl, rfl, rfl⟩
    all_goals
      go_wp2
      go_ret
      exact ⟨rfl, HB.out⟩
  · clear HM0 HM1 HM2 HI0 HI1 HI2
    obtain ⟨RO, RX, RP, RQ, RL, RU, eO, eX, eP, eQ, eY, eZ, eL, eU, eV, eW, hOkRO, hOkRX, hOkRP, hOkRQ, hOkRL, hOkRU, hcnt⟩ := hru
    have cB := bB.1.cell 0
    have cC := bC.1.cell 0
    dsimp at cB cC
    go_wp2_with fail
    generalize wC.alloc (.cells #[.slice yC RC.length kC] 24) = vC at *
    generalize wC.heap.size = gC at *
    have H := op_prog 2 yB RB.length kB RB oB yC RC.length kC RC oC _ bB.2 bC.2
    rw [eO] at H
    refine H.mono ?_
    clear H cB cC
    rintro e wO ⟨yO, kO, rfl, m1, m2, m3, hb, -⟩
    dsimp only at m1 m3
    have oO : OkR RO.length kO RO := ⟨m1, by unfold maxLen at m2; omega, hOkRO⟩
    have bA_ := (bA.under hb).alloc (.cells #[.slice yO RO.length kO] 24)
    clear bA
    have bA := bA_
    clear bA_
    have bB_ := (bB.under hb).alloc (.cells #[.slice yO RO.length kO] 24)
    clear bB
    have bB := bB_
    clear bB_
    have bC_ := (bC.under hb).alloc (.cells #[.slice yO RO.length kO] 24)
    clear bC
    have bC := bC_
    clear bC_
    have bO := BoxR.new m3
    have hB_ := (hB.trans (hb.mono hB.size)).alloc (by have := hb.size; have := hB.size; omega) (.cells #[.slice yO RO.length kO] 24)
    clear hB
    have hB := hB_
    clear hB_ m1 m2 m3 hb
    have cA := bA.1.cell 0
    have cO := bO.1.cell 0
    dsimp at cA cO
    go_wp2_with fail
    generalize wO.alloc (.cells #[.slice yO RO.length kO] 24) = vO at *
    generalize wO.heap.size = gO at *
    have H := op_prog 1 yA RA.length kA RA oA yO RO.length kO RO oO _ bA.2 bO.2
    rw [eX] at H
    refine H.mono ?_
    clear H cA cO
    rintro e wX ⟨yX, kX, rfl, m1, m2, m3, hb, -⟩
    dsimp only at m1 m3
    have oX : OkR RX.length kX RX := ⟨m1, by unfold maxLen at m2; omega, hOkRX⟩
    have bA_ := (bA.under hb).alloc (.cells #[.slice yX RX.length kX] 24)
    clear bA
    have bA := bA_
    clear bA_
    have bB_ := (bB.under hb).alloc (.cells #[.slice yX RX.length kX] 24)
    clear bB
    have bB := bB_
    clear bB_
    have bC_ := (bC.under hb).alloc (.cells #[.slice yX RX.length kX] 24)
    clear bC
    have bC := bC_
    clear bC_
    have bO_ := (bO.under hb).alloc (.cells #[.slice yX RX.length kX] 24)
    clear bO
    have bO := bO_
    clear bO_
    have bX := BoxR.new m3
    have hB_ := (hB.trans (hb.mono hB.size)).alloc (by have := hb.size; have := hB.size; omega) (.cells #[.slice yX RX.length kX] 24)
    clear hB
    have hB := hB_
    clear hB_ m1 m2 m3 hb
    have cA := bA.1.cell 0
    have cB := bB.1.cell 0
    dsimp at cA cB
    go_wp2_with fail
    generalize wX.alloc (.cells #[.slice yX RX.length kX] 24) = vX at *
    generalize wX.heap.size = gX at *
    have H := op_prog 1 yA RA.length kA RA oA yB RB.length kB RB oB _ bA.2 bB.2
    rw [eP] at H
    refine H.mono ?_
    clear H cA cB
    rintro e wP ⟨yP, kP, rfl, m1, m2, m3, hb, -⟩
    dsimp only at m1 m3
    have oP : OkR RP.length kP RP := ⟨m1, by unfold maxLen at m2; omega, hOkRP⟩
    have bA_ := (bA.under hb).alloc (.cells #[.slice yP RP.length kP] 24)
    clear bA
    have bA := bA_
    clear bA_
    have bB_ := (bB.under hb).alloc (.cells #[.slice yP RP.length kP] 24)
    clear bB
    have bB := bB_
    clear bB_
    have bC_ := (bC.under hb).alloc (.cells #[.slice yP RP.length kP] 24)
    clear bC
    have bC := bC_
    clear bC_
    have bO_ := (bO.under hb).alloc (.cells #[.slice yP RP.length kP] 24)
    clear bO
    have bO := bO_
    clear bO_
    have bX_ := (bX.under hb).alloc (.cells #[.slice yP RP.length kP] 24)
    clear bX
    have bX := bX_
    clear bX_
    have bP := BoxR.new m3
    have hB_ := (hB.trans (hb.mono hB.size)).alloc (by have := hb.size; have := hB.size; omega) (.cells #[.slice yP RP.length kP] 24)
    clear hB
    have hB := hB_
    clear hB_ m1 m2 m3 hb
    have cA := bA.1.cell 0
    have cC := bC.1.cell 0
    dsimp at cA cC
    go_wp2_with fail
    generalize wP.alloc (.cells #[.slice yP RP.length kP] 24) = vP at *
    generalize wP.heap.size = gP at *
    have H := op_prog 1 yA RA.length kA RA oA yC RC.length kC RC oC _ bA.2 bC.2
    rw [eQ] at H
    refine H.mono ?_
    clear H cA cC
    rintro e wQ ⟨yQ, kQ, rfl, m1, m2, m3, hb, -⟩
    dsimp only at m1 m3
    have oQ : OkR RQ.length kQ RQ := ⟨m1, by unfold maxLen at m2; omega, hOkRQ⟩
    have bA_ := (bA.under hb).alloc (.cells #[.slice yQ RQ.length kQ] 24)
    clear bA
    have bA := bA_
    clear bA_
    have bB_ := (bB.under hb).alloc (.cells #[.slice yQ RQ.length kQ] 24)
    clear bB
    have bB := bB_
    clear bB_
    have bC_ := (bC.under hb).alloc (.cells #[.slice yQ RQ.length kQ] 24)
    clear bC
    have bC := bC_
    clear bC_
    have bO_ := (bO.under hb).alloc (.cells #[.slice yQ RQ.length kQ] 24)
    clear bO
    have bO := bO_
    clear bO_
    have bX_ := (bX.under hb).alloc (.cells #[.slice yQ RQ.length kQ] 24)
    clear bX
    have bX := bX_
    clear bX_
    have bP_ := (bP.under hb).alloc (.cells #[.slice yQ RQ.length kQ] 24)
    clear bP
    have bP := bP_
    clear bP_
    have bQ := BoxR.new m3
    have hB_ := (hB.trans (hb.mono hB.size)).alloc (by have := hb.size; have := hB.size; omega) (.cells #[.slice yQ RQ.length kQ] 24)
    clear hB
    have hB := hB_
    clear hB_ m1 m2 m3 hb
    have cP := bP.1.cell 0
    have cQ := bQ.1.cell 0
    dsimp at cP cQ
    go_wp2_with fail
    generalize wQ.alloc (.cells #[.slice yQ RQ.length kQ] 24) = vQ at *
    generalize wQ.heap.size = gQ at *
    have H := op_prog 2 yP RP.length kP RP oP yQ RQ.length kQ RQ oQ _ bP.2 bQ.2
    rw [eY] at H
    refine H.mono ?_
    clear H cP cQ
    rintro e wY ⟨yY, kY, rfl, m1, m2, m3, hb, -⟩
    dsimp only at m1 m3
    have oY : OkR RX.length kY RX := ⟨m1, by unfold maxLen at m2; omega, hOkRX⟩
    have bA_ := (bA.under hb).alloc (.cells #[.slice yY RX.length kY] 24)
    clear bA
    have bA := bA_
    clear bA_
    have bB_ := (bB.under hb).alloc (.cells #[.slice yY RX.length kY] 24)
    clear bB
    have bB := bB_
    clear bB_
    have bC_ := (bC.under hb).alloc (.cells #[.slice yY RX.length kY] 24)
    clear bC
    have bC := bC_
    clear bC_
    have bO_ := (bO.under hb).alloc (.cells #[.slice yY RX.length kY] 24)
    clear bO
    have bO := bO_
    clear bO_
    have bX_ := (bX.under hb).alloc (.cells #[.slice yY RX.length kY] 24)
    clear bX
    have bX := bX_
    clear bX_
    have bP_ := (bP.under hb).alloc (.cells #[.slice yY RX.length kY] 24)
    clear bP
    have bP := bP_
    clear bP_
    have bQ_ := (bQ.under hb).alloc (.cells #[.slice yY RX.length kY] 24)
    clear bQ
    have bQ := bQ_
    clear bQ_
    have bY := BoxR.new m3
    have hB_ := (hB.trans (hb.mono hB.size)).alloc (by have := hb.size; have := hB.size; omega) (.cells #[.slice yY RX.length kY] 24)
    clear hB
    have hB := hB_
    clear hB_ m1 m2 m3 hb
    have cC := bC.1.cell 0
    have cB := bB.1.cell 0
    dsimp at cC cB
    go_wp2_with fail
    generalize wY.alloc (.cells #[.slice yY RX.length kY] 24) = vY at *
    generalize wY.heap.size = gY at *
    have H := op_prog 2 yC RC.length kC RC oC yB RB.length kB RB oB _ bC.2 bB.2
    rw [eZ] at H
    refine H.mono ?_
    clear H cC cB
    rintro e wZ ⟨yZ, kZ, rfl, m1, m2, m3, hb, -⟩
    dsimp only at m1 m3
    have oZ : OkR RO.length kZ RO := ⟨m1, by unfold maxLen at m2; omega, hOkRO⟩
    have bA_ := (bA.under hb).alloc (.cells #[.slice yZ RO.length kZ] 24)
    clear bA
    have bA := bA_
    clear bA_
    have bB_ := (bB.under hb).alloc (.cells #[.slice yZ RO.length kZ] 24)
    clear bB
    have bB := bB_
    clear bB_
    have bC_ := (bC.under hb).alloc (.cells #[.slice yZ RO.length kZ] 24)
    clear bC
    have bC := bC_
    clear bC_
    have bO_ := (bO.under hb).alloc (.cells #[.slice yZ RO.length kZ] 24)
    clear bO
    have bO := bO_
    clear bO_
    have bX_ := (bX.under hb).alloc (.cells #[.slice yZ RO.length kZ] 24)
    clear bX
    have bX := bX_
    clear bX_
    have bP_ := (bP.under hb).alloc (.cells #[.slice yZ RO.length kZ] 24)
    clear bP
    have bP := bP_
    clear bP_
    have bQ_ := (bQ.under hb).alloc (.cells #[.slice yZ RO.length kZ] 24)
    clear bQ
    have bQ := bQ_
    clear bQ_
    have bY_ := (bY.under hb).alloc (.cells #[.slice yZ RO.length kZ] 24)
    clear bY
    have bY := bY_
    clear bY_
    have bZ := BoxR.new m3
    have hB_ := (hB.trans (hb.mono hB.size)).alloc (by have := hb.size; have := hB.size; omega) (.cells #[.slice yZ RO.length kZ] 24)
    clear hB
    have hB := hB_
    clear hB_ m1 m2 m3 hb
    clear bA bB bC bP bQ oA oB oC oP oQ
    go_wp2_with fail
    generalize wZ.alloc (.cells #[.slice yZ RO.length kZ] 24) = vZ at *
    generalize wZ.heap.size = gZ at *
    have H := span_prog 0 65536 (by decide) (by decide) (by decide) (by decide)
    rw [eL] at H
    refine (H _).mono ?_
    clear H
    rintro e wL ⟨yL, kL, rfl, m1, m2, m3, hb, -⟩
    dsimp only at m1 m3
    have oL : OkR RL.length kL RL := ⟨m1, by unfold maxLen at m2; omega, hOkRL⟩
    have bO_ := (bO.under hb).alloc (.cells #[.slice yL RL.length kL] 24)
    clear bO
    have bO := bO_
    clear bO_
    have bX_ := (bX.under hb).alloc (.cells #[.slice yL RL.length kL] 24)
    clear bX
    have bX := bX_
    clear bX_
    have bY_ := (bY.under hb).alloc (.cells #[.slice yL RL.length kL] 24)
    clear bY
    have bY := bY_
    clear bY_
    have bZ_ := (bZ.under hb).alloc (.cells #[.slice yL RL.length kL] 24)
    clear bZ
    have bZ := bZ_
    clear bZ_
    have bL := BoxR.new m3
    have hB_ := (hB.trans (hb.mono hB.size)).alloc (by have := hb.size; have := hB.size; omega) (.cells #[.slice yL RL.length kL] 24)
    clear hB
    have hB := hB_
    clear hB_ m1 m2 m3 hb
    have cO := bO.1.cell 0
    dsimp at cO
    go_wp2_with fail
    generalize wL.alloc (.cells #[.slice yL RL.length kL] 24) = vL at *
    generalize wL.heap.size = gL at *
    have H := flip_prog yO RO.length kO RO oO _ bO.2 0 65536 (by decide) (by decide) (by decide) (by decide)
    rw [eU] at H
    refine H.mono ?_
    clear H cO
    rintro e wU ⟨yU, kU, rfl, m1, m2, m3, hb, -⟩
    dsimp only at m1 m3
    have oU : OkR RU.length kU RU := ⟨m1, by unfold maxLen at m2; omega, hOkRU⟩
    have bO_ := (bO.under hb).alloc (.cells #[.slice yU RU.length kU] 24)
    clear bO
    have bO := bO_
    clear bO_
    have bX_ := (bX.under hb).alloc (.cells #[.slice yU RU.length kU] 24)
    clear bX
    have bX := bX_
    clear bX_
    have bY_ := (bY.under hb).alloc (.cells #[.slice yU RU.length kU] 24)
    clear bY
    have bY := bY_
    clear bY_
    have bZ_ := (bZ.under hb).alloc (.cells #[.slice yU RU.length kU] 24)
    clear bZ
    have bZ := bZ_
    clear bZ_
    have bL_ := (bL.under hb).alloc (.cells #[.slice yU RU.length kU] 24)
    clear bL
    have bL := bL_
    clear bL_
    have bU := BoxR.new m3
    have hB_ := (hB.trans (hb.mono hB.size)).alloc (by have := hb.size; have := hB.size; omega) (.cells #[.slice yU RU.length kU] 24)
    clear hB
    have hB := hB_
    clear hB_ m1 m2 m3 hb
    have cL := bL.1.cell 0
    have cO := bO.1.cell 0
    dsimp at cL cO
    go_wp2_with fail
    generalize wU.alloc (.cells #[.slice yU RU.length kU] 24) = vU at *
    generalize wU.heap.size = gU at *
    have H := op_prog 4 yL RL.length kL RL oL yO RO.length kO RO oO _ bL.2 bO.2
    rw [eV] at H
    refine H.mono ?_
    clear H cL cO
    rintro e wV ⟨yV, kV, rfl, m1, m2, m3, hb, -⟩
    dsimp only at m1 m3
    have oV : OkR RU.length kV RU := ⟨m1, by unfold maxLen at m2; omega, hOkRU⟩
    have bO_ := (bO.under hb).alloc (.cells #[.slice yV RU.length kV] 24)
    clear bO
    have bO := bO_
    clear bO_
    have bX_ := (bX.under hb).alloc (.cells #[.slice yV RU.length kV] 24)
    clear bX
    have bX := bX_
    clear bX_
    have bY_ := (bY.under hb).alloc (.cells #[.slice yV RU.length kV] 24)
    clear bY
    have bY := bY_
    clear bY_
    have bZ_ := (bZ.under hb).alloc (.cells #[.slice yV RU.length kV] 24)
    clear bZ
    have bZ := bZ_
    clear bZ_
    have bL_ := (bL.under hb).alloc (.cells #[.slice yV RU.length kV] 24)
    clear bL
    have bL := bL_
    clear bL_
    have bU_ := (bU.under hb).alloc (.cells #[.slice yV RU.length kV] 24)
    clear bU
    have bU := bU_
    clear bU_
    have bV := BoxR.new m3
    have hB_ := (hB.trans (hb.mono hB.size)).alloc (by have := hb.size; have := hB.size; omega) (.cells #[.slice yV RU.length kV] 24)
    clear hB
    have hB := hB_
    clear hB_ m1 m2 m3 hb
    have cL := bL.1.cell 0
    have cO := bO.1.cell 0
    dsimp at cL cO
    go_wp2_with fail
    generalize wV.alloc (.cells #[.slice yV RU.length kV] 24) = vV at *
    generalize wV.heap.size = gV at *
    have H := op_prog 3 yL RL.length kL RL oL yO RO.length kO RO oO _ bL.2 bO.2
    rw [eW] at H
    refine H.mono ?_
    clear H cL cO
    rintro e wW ⟨yW, kW, rfl, m1, m2, m3, hb, -⟩
    dsimp only at m1 m3
    have oW : OkR RU.length kW RU := ⟨m1, by unfold maxLen at m2; omega, hOkRU⟩
    have bO_ := (bO.under hb).alloc (.cells #[.slice yW RU.length kW] 24)
    clear bO
    have bO := bO_
    clear bO_
    have bX_ := (bX.under hb).alloc (.cells #[.slice yW RU.length kW] 24)
    clear bX
    have bX := bX_
    clear bX_
    have bY_ := (bY.under hb).alloc (.cells #[.slice yW RU.length kW] 24)
    clear bY
    have bY := bY_
    clear bY_
    have bZ_ := (bZ.under hb).alloc (.cells #[.slice yW RU.length kW] 24)
    clear bZ
    have bZ := bZ_
    clear bZ_
    have bL_ := (bL.under hb).alloc (.cells #[.slice yW RU.length kW] 24)
    clear bL
    have bL := bL_
    clear bL_
    have bU_ := (bU.under hb).alloc (.cells #[.slice yW RU.length kW] 24)
    clear bU
    have bU := bU_
    clear bU_
    have bV_ := (bV.under hb).alloc (.cells #[.slice yW RU.length kW] 24)
    clear bV
    have bV := bV_
    clear bV_
    have bW := BoxR.new m3
    have hB_ := (hB.trans (hb.mono hB.size)).alloc (by have := hb.size; have := hB.size; omega) (.cells #[.slice yW RU.length kW] 24)
    clear hB
    have hB := hB_
    clear hB_ m1 m2 m3 hb
    clear bL oL
    go_wp2
    generalize wW.alloc (.cells #[.slice yW RU.length kW] 24) = vW at *
    generalize wW.heap.size = gW at *
    try simp only [List.append_eq, List.cons_append, List.nil_append]
    obtain ⟨K, hK⟩ : ∃ K : World → Prop, ∀ W, K W ↔ (BoxR gX (.slice yX RX.length kX) RX W ∧ BoxR gY (.slice yY RX.length kY) RX W ∧ BoxR gO (.slice yO RO.length kO) RO W ∧ BoxR gZ (.slice yZ RO.length kZ) RO W ∧ BoxR gU (.slice yU RU.length kU) RU W ∧ BoxR gV (.slice yV RU.length kV) RU W ∧ BoxR gW (.slice yW RU.length kW) RU W ∧ Below w.heap.size w W) := ⟨_, fun _ => Iff.rfl⟩
    have HKeep : Hid (∀ A B, K A → Below A.heap.size A B → (fun W => W.cell? ⟨gX, 0, none⟩ = some (.slice yX RX.length kX) ∧ W.cell? ⟨gY, 0, none⟩ = some (.slice yY RX.length kY) ∧ W.cell? ⟨gO, 0, none⟩ = some (.slice yO RO.length kO) ∧ W.cell? ⟨gZ, 0, none⟩ = some (.slice yZ RO.length kZ) ∧ W.cell? ⟨gU, 0, none⟩ = some (.slice yU RU.length kU) ∧ W.cell? ⟨gV, 0, none⟩ = some (.slice yV RU.length kV) ∧ W.cell? ⟨gW, 0, none⟩ = some (.slice yW RU.length kW) ∧ K W) B) := Lib.hid fun A B hA hb => by
      have h := (hK A).1 hA
      obtain ⟨h1, h2, h3, h4, h5, h6, h7, h8⟩ := h
      exact ⟨(h1.under hb).1.cell 0, (h2.under hb).1.cell 0, (h3.under hb).1.cell 0, (h4.under hb).1.cell 0, (h5.under hb).1.cell 0, (h6.under hb).1.cell 0, (h7.under hb).1.cell 0, (hK B).2 ⟨h1.under hb, h2.under hb, h3.under hb, h4.under hb, h5.under hb, h6.under hb, h7.under hb, h8.trans (hb.mono h8.size)⟩⟩
    have hK0 := (hK _).2 ⟨bX, bY, bO, bZ, bU, bV, bW, hB⟩
    have HXY := Lib.hid (fun W (h : W.cell? ⟨gX, 0, none⟩ = some (.slice yX RX.length kX) ∧ W.cell? ⟨gY, 0, none⟩ = some (.slice yY RX.length kY) ∧ W.cell? ⟨gO, 0, none⟩ = some (.slice yO RO.length kO) ∧ W.cell? ⟨gZ, 0, none⟩ = some (.slice yZ RO.length kZ) ∧ W.cell? ⟨gU, 0, none⟩ = some (.slice yU RU.length kU) ∧ W.cell? ⟨gV, 0, none⟩ = some (.slice yV RU.length kV) ∧ W.cell? ⟨gW, 0, none⟩ = some (.slice yW RU.length kW) ∧ K W) => ref_same_any yX RX.length kX RX yY RX.length kY RX (Nat.le_trans oX.1 oX.2.1) (Nat.le_trans oY.1 oY.2.1) W ((hK W).1 h.2.2.2.2.2.2.2).1.2 ((hK W).1 h.2.2.2.2.2.2.2).2.1.2)
    rw [decide_eq_true rfl] at HXY
    have HOZ := Lib.hid (fun W (h : W.cell? ⟨gX, 0, none⟩ = some (.slice yX RX.length kX) ∧ W.cell? ⟨gY, 0, none⟩ = some (.slice yY RX.length kY) ∧ W.cell? ⟨gO, 0, none⟩ = some (.slice yO RO.length kO) ∧ W.cell? ⟨gZ, 0, none⟩ = some (.slice yZ RO.length kZ) ∧ W.cell? ⟨gU, 0, none⟩ = some (.slice yU RU.length kU) ∧ W.cell? ⟨gV, 0, none⟩ = some (.slice yV RU.length kV) ∧ W.cell? ⟨gW, 0, none⟩ = some (.slice yW RU.length kW) ∧ K W) => ref_same_any yO RO.length kO RO yZ RO.length kZ RO (Nat.le_trans oO.1 oO.2.1) (Nat.le_trans oZ.1 oZ.2.1) W ((hK W).1 h.2.2.2.2.2.2.2).2.2.1.2 ((hK W).1 h.2.2.2.2.2.2.2).2.2.2.1.2)
    rw [decide_eq_true rfl] at HOZ
    have HUV := Lib.hid (fun W (h : W.cell? ⟨gX, 0, none⟩ = some (.slice yX RX.length kX) ∧ W.cell? ⟨gY, 0, none⟩ = some (.slice yY RX.length kY) ∧ W.cell? ⟨gO, 0, none⟩ = some (.slice yO RO.length kO) ∧ W.cell? ⟨gZ, 0, none⟩ = some (.slice yZ RO.length kZ) ∧ W.cell? ⟨gU, 0, none⟩ = some (.slice yU RU.length kU) ∧ W.cell? ⟨gV, 0, none⟩ = some (.slice yV RU.length kV) ∧ W.cell? ⟨gW, 0, none⟩ = some (.slice yW RU.length kW) ∧ K W) => ref_same_any yU RU.length kU RU yV RU.length kV RU (Nat.le_trans oU.1 oU.2.1) (Nat.le_trans oV.1 oV.2.1) W ((hK W).1 h.2.2.2.2.2.2.2).2.2.2.2.1.2 ((hK W).1 h.2.2.2.2.2.2.2).2.2.2.2.2.1.2)
    rw [decide_eq_true rfl] at HUV
    have HUW := Lib.hid (fun W (h : W.cell? ⟨gX, 0, none⟩ = some (.slice yX RX.length kX) ∧ W.cell? ⟨gY, 0, none⟩ = some (.slice yY RX.length kY) ∧ W.cell? ⟨gO, 0, none⟩ = some (.slice yO RO.length kO) ∧ W.cell? ⟨gZ, 0, none⟩ = some (.slice yZ RO.length kZ) ∧ W.cell? ⟨gU, 0, none⟩ = some (.slice yU RU.length kU) ∧ W.cell? ⟨gV, 0, none⟩ = some (.slice yV RU.length kV) ∧ W.cell? ⟨gW, 0, none⟩ = some (.slice yW RU.length kW) ∧ K W) => ref_same_any yU RU.length kU RU yW RU.length kW RU (Nat.le_trans oU.1 oU.2.1) (Nat.le_trans oW.1 oW.2.1) W ((hK W).1 h.2.2.2.2.2.2.2).2.2.2.2.1.2 ((hK W).1 h.2.2.2.2.2.2.2).2.2.2.2.2.2.1.2)
    rw [decide_eq_true rfl] at HUW
    have HCU := Lib.hid (fun W (h : W.cell? ⟨gX, 0, none⟩ = some (.slice yX RX.length kX) ∧ W.cell? ⟨gY, 0, none⟩ = some (.slice yY RX.length kY) ∧ W.cell? ⟨gO, 0, none⟩ = some (.slice yO RO.length kO) ∧ W.cell? ⟨gZ, 0, none⟩ = some (.slice yZ RO.length kZ) ∧ W.cell? ⟨gU, 0, none⟩ = some (.slice yU RU.length kU) ∧ W.cell? ⟨gV, 0, none⟩ = some (.slice yV RU.length kV) ∧ W.cell? ⟨gW, 0, none⟩ = some (.slice yW RU.length kW) ∧ K W) => count_prog yU RU.length kU RU oU W ((hK W).1 h.2.2.2.2.2.2.2).2.2.2.2.1.2)
    have HCO := Lib.hid (fun W (h : W.cell? ⟨gX, 0, none⟩ = some (.slice yX RX.length kX) ∧ W.cell? ⟨gY, 0, none⟩ = some (.slice yY RX.length kY) ∧ W.cell? ⟨gO, 0, none⟩ = some (.slice yO RO.length kO) ∧ W.cell? ⟨gZ, 0, none⟩ = some (.slice yZ RO.length kZ) ∧ W.cell? ⟨gU, 0, none⟩ = some (.slice yU RU.length kU) ∧ W.cell? ⟨gV, 0, none⟩ = some (.slice yV RU.length kV) ∧ W.cell? ⟨gW, 0, none⟩ = some (.slice yW RU.length kW) ∧ K W) => count_prog yO RO.length kO RO oO W ((hK W).1 h.2.2.2.2.2.2.2).2.2.1.2)
    have HEnd := Lib.hid (fun W (h : K W) => ((hK W).1 h).2.2.2.2.2.2.2)
    have hsum : IntKind.i64.wrap ((((valsZ RU).length : Nat) : Int) + (((valsZ RO).length : Nat) : Int)) = 65536 := by rw [IntKind.wrap_i64]; omega
    clear hcnt hK bX bY bO bZ bU bV bW hB oX oY oO oZ oU oV oW eO eX eP eQ eY eZ eL eU eV eW hOkRA hOkRB hOkRC hOkRO hOkRX hOkRP hOkRQ hOkRL hOkRU
    generalize (valsZ RU).length = cU at *
    generalize (valsZ RO).length = cO at *
    have hS0 := HKeep.out _ _ hK0 (Below.refl _ _)
    have hd0 := HKeep.out _ _ hK0 ((Below.refl _ _).drew)
    dsimp only at hS0 hd0
    clear hK0
    have HKp : Hid (∀ A B, (fun W => W.cell? ⟨gX, 0, none⟩ = some (.slice yX RX.length kX) ∧ W.cell? ⟨gY, 0, none⟩ = some (.slice yY RX.length kY) ∧ W.cell? ⟨gO, 0, none⟩ = some (.slice yO RO.length kO) ∧ W.cell? ⟨gZ, 0, none⟩ = some (.slice yZ RO.length kZ) ∧ W.cell? ⟨gU, 0, none⟩ = some (.slice yU RU.length kU) ∧ W.cell? ⟨gV, 0, none⟩ = some (.slice yV RU.length kV) ∧ W.cell? ⟨gW, 0, none⟩ = some (.slice yW RU.length kW) ∧ K W) A → Below A.heap.size A B → (fun W => W.cell? ⟨gX, 0, none⟩ = some (.slice yX RX.length kX) ∧ W.cell? ⟨gY, 0, none⟩ = some (.slice yY RX.length kY) ∧ W.cell? ⟨gO, 0, none⟩ = some (.slice yO RO.length kO) ∧ W.cell? ⟨gZ, 0, none⟩ = some (.slice yZ RO.length kZ) ∧ W.cell? ⟨gU, 0, none⟩ = some (.slice yU RU.length kU) ∧ W.cell? ⟨gV, 0, none⟩ = some (.slice yV RU.length kV) ∧ W.cell? ⟨gW, 0, none⟩ = some (.slice yW RU.length kW) ∧ K W) B) := Lib.hid fun A B hA hb => HKeep.out A B hA.2.2.2.2.2.2.2 hb
    clear HKeep
    go_region_held3 (fun W => W.cell? ⟨gX, 0, none⟩ = some (.slice yX RX.length kX) ∧ W.cell? ⟨gY, 0, none⟩ = some (.slice yY RX.length kY) ∧ W.cell? ⟨gO, 0, none⟩ = some (.slice yO RO.length kO) ∧ W.cell? ⟨gZ, 0, none⟩ = some (.slice yZ RO.length kZ) ∧ W.cell? ⟨gU, 0, none⟩ = some (.slice yU RU.length kU) ∧ W.cell? ⟨gV, 0, none⟩ = some (.slice yV RU.length kV) ∧ W.cell? ⟨gW, 0, none⟩ = some (.slice yW RU.length kW) ∧ K W) (first | assumption | exact HKp.out _ _ (by assumption) (by assumption) | exact hd0 | exact hS0) (first | (go_at_call_has 15 yY; refine (HXY.out _ (by assumption)).mono ?_; rintro e w5 ⟨rfl, hb5⟩) | (go_at_call_has 15 yZ; refine (HOZ.out _ (by assumption)).mono ?_; rintro e w5 ⟨rfl, hb5⟩) | (go_at_call_has 15 yV; refine (HUV.out _ (by assumption)).mono ?_; rintro e w5 ⟨rfl, hb5⟩) | (go_at_call_has 15 yW; refine (HUW.out _ (by assumption)).mono ?_; rintro e w5 ⟨rfl, hb5⟩) | (go_at_call_has 20 yU; refine (HCU.out _ (by assumption)).mono ?_; rintro e w5 ⟨rfl, hb5⟩) | (go_at_call_has 20 yO; refine (HCO.out _ (by assumption)).mono ?_; rintro e w5 ⟨rfl, hb5⟩))
    all_goals
      rename_i hS1
      have HB := Lib.hid (HEnd.out _ hS1.2.2.2.2.2.2.2)
      clear hS1
      go_wp2
      go_ret
      exact ⟨rfl, HB.out⟩
set_option maxRecDepth 100000 in
theorem lifted (os : Os) (started : os.Started) (H : Type) (enc : TypeId × Value → H) :
    ReturnsInHanded {} Try.checked os 5 .any (Rows.roarRulesSpec.pre6 enc Try.prog Try.f5 Rows.roarRulesRow.domain false) (Rows.roarRulesSpec.post enc Try.prog Try.f5 false true false false) := by
  refine returnsInHanded_of_change (C := Try.checked) own started (by kernel_rfl) Try.func5
    (ChangeSpec.witness6 (enc := enc) (C := Try.checked) false ⟨#[], #[.slice none 0 0, .slice none 0 0, .slice none 0 0], []⟩ 8 (by kernel_rfl) (by kernel_rfl) (by kernel_rfl) (by kernel_rfl)) ?_
  intro W base args ds gs before hval0 hW hcnd _
  have hval : ∀ (j : Nat) t v, Try.f5.params[j]? = some t → args[j]? = some v → Value.okWide Try.prog W .any base t v := hval0
  have hW' := hW
  obtain ⟨p, q, hA0, hV, rfl, hfz, hnd⟩ := hW
  have hA : DataW.TrodAll enc Try.prog W 0 (fun _ => true) true Try.f5.params.toList args.toList ds p := hA0
  rw [Try.params5] at hA hval
  obtain ⟨v0, vs0, d0, ds0, p0, q0, hargs, rfl, rfl, h0, r0⟩ := trodAll_cons hA
  obtain ⟨v1, vs1, d1, ds1, p1, q1, rfl, rfl, rfl, h1, r1⟩ := trodAll_cons r0
  obtain ⟨v2, vs2, d2, ds2, p2, q2, rfl, rfl, rfl, h2, r2⟩ := trodAll_cons r1
  obtain ⟨rfl, rfl, rfl⟩ := trodAll_nil r2
  obtain rfl : args = #[v0, v1, v2] := by cases args; simp_all
  obtain ⟨rfl, rfl⟩ := trodVars_none hV
  obtain ⟨x0, len0, cap0, zs0, rfl, hlc0, hcm0, hln0, hz0, hI0, hr0⟩ := open_numbers (hval 0 25 v0 rfl rfl) h0 (fun q hq => hW'.lt q (by simp [hq]))
  obtain ⟨x1, len1, cap1, zs1, rfl, hlc1, hcm1, hln1, hz1, hI1, hr1⟩ := open_numbers (hval 1 25 v1 rfl rfl) h1 (fun q hq => hW'.lt q (by simp [hq]))
  obtain ⟨x2, len2, cap2, zs2, rfl, hlc2, hcm2, hln2, hz2, hI2, hr2⟩ := open_numbers (hval 2 25 v2 rfl rfl) h2 (fun q hq => hW'.lt q (by simp [hq]))
  clear hA0 hval0
  simp only [List.append_nil] at hW'
  refine (walk x0 len0 cap0 zs0 hlc0 hcm0 hln0 hz0 x1 len1 cap1 zs1 hlc1 hcm1 hln1 hz1 x2 len2 cap2 zs2 hlc2 hcm2 hln2 hz2 W hI0 hI1 hI2).mono fun e W' ⟨he, hg⟩ => ?_
  subst he
  exact ⟨_, rfl, post_below (pa := _) (pv := []) hW' (fun _ _ _ => (trodAll_cons_mk (shut_bool Try.underlying4 _) trodAll_mk0)) (fun sp hsp => (trodAll_cons_mk (hr0 _ hg sp (fun p hp => hsp p (by simp [hp]))) (trodAll_cons_mk (hr1 _ hg sp (fun p hp => hsp p (by simp [hp]))) (trodAll_cons_mk (hr2 _ hg sp (fun p hp => hsp p (by simp [hp]))) trodAll_mk0)))) (fun _ _ => rfl) (by simp)
    hg (ok_one (by kernel_rfl) rfl (okWide_bool_mk Try.underlying4 _))⟩

theorem over : Rows.roarRulesRow.holds Try.pinned (OpenSpec.ofChange Rows.roarRulesSpec) :=
  OpenClaim.holds_of_wide 5 Try.f5 rfl rfl rfl rfl rfl rfl rfl ⟨rfl, rfl, rfl, rfl, rfl⟩ rfl rfl rfl rfl rfl (by kernel_rfl) Try.func5 (by kernel_rfl)
    (of_decide_eq_true (by kernel_rfl)) (by unfold Func.isWrapper; first | (rw [if_pos (by decide +kernel)]; kernel_rfl) | (rw [if_neg (by decide +kernel)]; exact ⟨rfl, rfl⟩))
    (fun os started H enc _ => lifted os started H enc)

/-- The statement. -/
theorem proved : Rows.RoarRulesSaid :=
  over
#print axioms proved
end Go.Proofs.Ytbfchlfagdhglaa.roarRules
