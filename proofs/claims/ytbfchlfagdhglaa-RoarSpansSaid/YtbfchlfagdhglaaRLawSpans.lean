import Derived.Test.YtbfchlfagdhglaaMG24
/- RoarSpans: a span has its numbers, and no others; what is flipped twice is as it was. No condition beyond the row's. -/
namespace Go.Proofs.Ytbfchlfagdhglaa.roarSpans
open Go.ChangeShapes Go.WideShapes Go.ChangeAt Go.RowKit Go.Joins

theorem flips_back (zs : List Int) {a b : Int} (h : okQ a b) : ((makeZ zs).2 = 0 ∧ (flipZ (makeZ zs).1 a b).2 = 0 ∧ (flipZ (flipZ (makeZ zs).1 a b).1 a b).2 = 0 ∧ (flipZ (flipZ (makeZ zs).1 a b).1 a b).1 = (makeZ zs).1) ∨ (makeZ zs).2 = 70 := by
  by_cases hq : AllQ zs
  · left
    rw [makeZ_good hq]
    have e := flip_twiceZ h (right_of (ofL zs))
    rw [e]
    exact ⟨rfl, by rw [flipZ_of h], rfl, rfl⟩
  · right; rw [makeZ_bad hq]
theorem span_has {a b n : Int} (h : okQ a b) : (decide (a ≤ n) = true ∧ decide (n < b) = true ∧ hasZ (ofS (spanZ a b)) n = true) ∨ (decide (a ≤ n) = true ∧ decide (n < b) = false ∧ hasZ (ofS (spanZ a b)) n = false) ∨ (decide (a ≤ n) = false ∧ hasZ (ofS (spanZ a b)) n = false) := by
  rw [has_span h]
  by_cases h1 : a ≤ n
  · by_cases h2 : n < b
    · exact .inl ⟨decide_eq_true h1, decide_eq_true h2, by rw [decide_eq_true h1, decide_eq_true h2]; rfl⟩
    · exact .inr (.inl ⟨decide_eq_true h1, decide_eq_false h2, by rw [decide_eq_true h1, decide_eq_false h2]; rfl⟩)
  · exact .inr (.inr ⟨decide_eq_false h1, by rw [decide_eq_false h1]; rfl⟩)
theorem span_count {a b : Int} (h : okQ a b) : ∀ (ts : Array TypeId) (t : TypeId) (W : World), (Builtin.max_ ts t #[.int .i64 0, .int .i64 (b - a)]).run Try.prog W = .ok (.int .i64 ((valsZ (ofS (spanZ a b))).length : Nat)) W := fun ts t W => by
  obtain ⟨h1, h2, h3, h4⟩ := h
  obtain ⟨x, rfl⟩ : ∃ x : Nat, a = x := ⟨a.toNat, by omega⟩
  obtain ⟨y, rfl⟩ : ∃ y : Nat, b = y := ⟨b.toNat, by omega⟩
  have hc := count_span x y 65536 (by omega)
  have e : (if ((y : Int) - x) > 0 then ((y : Int) - x) else 0) = ((y - x : Nat) : Int) := by split <;> omega
  rw [valsZ_of, hc, run_max_int2, e]
set_option maxRecDepth 100000 in
set_option maxHeartbeats 8000000 in
theorem walk (a : Int) (la : -9223372036854775808 ≤ a) (ua : a ≤ 9223372036854775807) (b : Int) (lb : -9223372036854775808 ≤ b) (ub : b ≤ 9223372036854775807) (n : Int) (ln : -9223372036854775808 ≤ n) (un : n ≤ 9223372036854775807) (x0 : Option Addr) (len cap : Nat) (zs : List Int) (hlc : len ≤ cap) (hcm : cap ≤ 9223372036854775807) (hln : zs.length = len) (hz : In64 zs) (w : World) (hI : Ints w.heap.size w (.slice x0 len cap) zs) :
    Calls Try.prog 7 #[.int .i64 a, .int .i64 b, .int .i64 n, .slice x0 len cap] w fun e w' => e = .returned (.bool true) ∧ Below w.heap.size w w' := by
  have HI := Lib.hid (ints_cut hI 300 hln)
  have hlz : (zs.take 300).length = min len 300 := by rw [List.length_take, hln, Nat.min_comm]
  have hz3 := in64_take hz 300
  clear hI
  generalize zs.take 300 = zt at *
  have HM := Lib.hid (fun W h => make_prog x0 (min len 300) cap zt hlz (by omega) hcm hz3 W h)
  have HSp := Lib.hid (span_prog a b la ua lb ub)
  have HFl := Lib.hid (fun (y : Option Addr) (c : Nat) (r : List Ch) (h1 : r.length ≤ c) (h2 : c ≤ 9223372036854775807) (h3 : ∀ x ∈ r, OkCh x) W h => flip_prog y r.length c r ⟨h1, h2, h3⟩ W h a b la ua lb ub)
  go_enter Try.func7, Try.ntmps7
  go_wp2_with fail
  refine (shownz_any _).mono ?_
  rintro e w1 ⟨rfl, hb1⟩
  go_wp2_with fail
  by_cases hok : okQ a b
  · rw [flipZ_nil hok] at HSp
    refine (HSp.out _).mono ?_
    rintro e w2 ⟨ya, ca, rfl, k1, k2, k3, hb2, -⟩
    have hB2 := hb1.trans (hb2.mono hb1.size)
    have hHas := span_has (n := n) hok
    have hCnt := span_count hok
    have hBk := flips_back zt hok
    have hOkA := okCh_of (spanZ a b)
    have hOkR := okCh_make zt
    have hOkP := okCh_flip (makeZ zt).1 a b
    have hsa : (ofS fun n => decide (a ≤ n) && decide ((n : Int) < b)) = ofS (spanZ a b) := rfl
    rw [hsa] at k1 k3 ⊢
    dsimp only at k1 k3
    generalize ofS (spanZ a b) = ra at *
    have HHas := Lib.hid (fun W h => has_prog ya ra.length ca ra ⟨k1, by unfold maxLen at k2; omega, hOkA⟩ W h n ln un)
    have HCnt := Lib.hid (fun W h => count_prog ya ra.length ca ra ⟨k1, by unfold maxLen at k2; omega, hOkA⟩ W h)
    generalize hasZ ra n = hv at *
    generalize (valsZ ra).length = cnt at *
    have hP2 : ∃ P2 gz, flipZ (makeZ zt).1 a b = (P2, gz) := ⟨_, _, rfl⟩
    obtain ⟨P2, gz, hP2⟩ := hP2
    have hP3 : ∃ P3 hz2, flipZ P2 a b = (P3, hz2) := ⟨_, _, rfl⟩
    obtain ⟨P3, hz2, hP3⟩ := hP3
    rw [hP2] at hBk hOkP
    dsimp only at hBk hOkP
    rw [hP3] at hBk
    dsimp only at hBk
    obtain ⟨R, fz, hR⟩ : ∃ R fz, makeZ zt = (R, fz) := ⟨_, _, rfl⟩
    rw [hR] at HM hBk hOkR hP2
    dsimp only at hBk hOkR hP2
    have HF1 := Lib.hid (fun (y : Option Addr) (c : Nat) (h1 : R.length ≤ c) (h2 : c ≤ 9223372036854775807) W h => HFl.out y c R h1 h2 hOkR W h)
    have HF2 := Lib.hid (fun (y : Option Addr) (c : Nat) (h1 : P2.length ≤ c) (h2 : c ≤ 9223372036854775807) W h => HFl.out y c P2 h1 h2 hOkP W h)
    rw [hP2] at HF1
    rw [hP3] at HF2
    obtain ⟨q1, q2, q3, q4⟩ := hok
    have q1' : ¬ a < 0 := by omega
    have q2' : ¬ a > 65536 := by omega
    have q3' : ¬ b < 0 := by omega
    have q4' : ¬ b > 65536 := by omega
    have hsub : IntKind.i64.wrap (b - a) = b - a := by rw [IntKind.wrap_i64]; omega
    clear hP2 hP3 hR hsa hOkA hOkR hOkP HFl HSp
    have bA := BoxR.new k3
    have hB3 := hB2.alloc hB2.size (.cells #[.slice ya ra.length ca] 24)
    have HI2 := (HI.out.below hB3).more hB3.size
    clear k3 hB2 hb1 hb2 HI
    go_wp2_with fail
    refine (fewz_any x0 len cap hlc hcm _).mono ?_
    rintro e w' ⟨rfl, rfl⟩
    go_wp2_with fail
    generalize w2.alloc (.cells #[.slice ya ra.length ca] 24) = w2' at *
    generalize w2.heap.size = ga at *
    refine (HM.out _ HI2).mono ?_
    rintro e w3 ⟨yr, cr, rfl, r1, r2, r3, hb3, -⟩
    dsimp only at r1 r3
    have bA3 := (bA.under hb3).alloc (.cells #[.slice yr R.length cr] 24)
    have bR := BoxR.new r3
    have hB4 := hB3.trans (hb3.mono hB3.size)
    have hB5 := hB4.alloc hB4.size (.cells #[.slice yr R.length cr] 24)
    clear bA HI2 hB3 hB4 hb3 r3 HM
    have c0 := bR.1.cell 0
    dsimp at c0
    go_wp2_with fail
    generalize w3.alloc (.cells #[.slice yr R.length cr] 24) = w3' at *
    generalize w3.heap.size = gr at *
    refine (HF1.out yr cr r1 (by unfold maxLen at r2; omega) _ bR.2).mono ?_
    rintro e w4 ⟨y4, c4, rfl, s1, s2, s3, hb4, -⟩
    dsimp only at s1 s3
    have bA4 := (bA3.under hb4).alloc (.cells #[.slice y4 P2.length c4] 24)
    have bR4 := (bR.under hb4).alloc (.cells #[.slice y4 P2.length c4] 24)
    have b4 := BoxR.new s3
    have hB6 := hB5.trans (hb4.mono hB5.size)
    have hB7 := hB6.alloc hB6.size (.cells #[.slice y4 P2.length c4] 24)
    clear bA3 bR hB5 hB6 hb4 s3 HF1 c0
    have c0 := b4.1.cell 0
    dsimp at c0
    go_wp2_with fail
    generalize w4.alloc (.cells #[.slice y4 P2.length c4] 24) = w4' at *
    generalize w4.heap.size = g4 at *
    refine (HF2.out y4 c4 s1 (by unfold maxLen at s2; omega) _ b4.2).mono ?_
    rintro e w5 ⟨y5, c5, rfl, t1, t2, t3, hb5, -⟩
    dsimp only at t1 t3
    have bA5 := (bA4.under hb5).alloc (.cells #[.slice y5 P3.length c5] 24)
    have bR5 := (bR4.under hb5).alloc (.cells #[.slice y5 P3.length c5] 24)
    have b5 := BoxR.new t3
    have hB8 := hB7.trans (hb5.mono hB7.size)
    have hB9 := hB8.alloc hB8.size (.cells #[.slice y5 P3.length c5] 24)
    clear bA4 bR4 b4 hB7 hB8 hb5 t3 HF2 c0
    have c5' := b5.1.cell 0
    have cr' := bR5.1.cell 0
    have ca' := bA5.1.cell 0
    dsimp at c5' cr' ca'
    rcases hBk with ⟨rfl, rfl, rfl, rfl⟩ | rfl
    · go_wp2_with fail
      generalize w5.alloc (.cells #[.slice y5 P3.length c5] 24) = w5' at *
      generalize w5.heap.size = g5 at *
      refine (ref_same_any y5 P3.length c5 P3 yr P3.length cr P3 (by unfold maxLen at t2; omega) (by unfold maxLen at t2; omega) _ b5.2 bR5.2).mono ?_
      rintro e w6 ⟨rfl, hb6⟩
      have hB10 := hB9.trans (hb6.mono hB9.size)
      have bA6 := bA5.under hb6
      rw [decide_eq_true rfl]
      clear hB9 hb6 bA5 bR5 b5 c5' cr' ca'
      have ca' := bA6.1.cell 0
      dsimp at ca'
      rcases hHas with ⟨n1, n2, rfl⟩ | ⟨n1, n2, rfl⟩ | ⟨n1, rfl⟩
      all_goals
        go_wp2_with fail
        refine (HHas.out _ bA6.2).mono ?_
        rintro e w7 ⟨rfl, hb7⟩
        have hB11 := hB10.trans (hb7.mono hB10.size)
        have bA7 := bA6.under hb7
        clear ca'
        have ca' := bA7.1.cell 0
        dsimp at ca'
        go_wp2_with fail
        refine (HCnt.out _ bA7.2).mono ?_
        rintro e w8 ⟨rfl, hb8⟩
        have HB12 := Lib.hid (hB11.trans (hb8.mono hB11.size))
        clear hB11 hb7 hb8 bA7 ca' bA6 hB10
        go_wp2
        go_ret
        exact ⟨rfl, HB12.out⟩
    · rcases hHas with ⟨n1, n2, rfl⟩ | ⟨n1, n2, rfl⟩ | ⟨n1, rfl⟩
      all_goals
        go_wp2_with fail
        clear b5 bR5 c5' cr'
        generalize w5.alloc (.cells #[.slice y5 P3.length c5] 24) = w5' at *
        refine (HHas.out _ bA5.2).mono ?_
        rintro e w7 ⟨rfl, hb7⟩
        have hB11 := hB9.trans (hb7.mono hB9.size)
        have bA7 := bA5.under hb7
        clear ca'
        have ca' := bA7.1.cell 0
        dsimp at ca'
        go_wp2_with fail
        refine (HCnt.out _ bA7.2).mono ?_
        rintro e w8 ⟨rfl, hb8⟩
        have HB12 := Lib.hid (hB11.trans (hb8.mono hB11.size))
        clear hB11 hb7 hb8 bA7 ca' bA5 hB9
        go_wp2
        go_ret
        exact ⟨rfl, HB12.out⟩
  · rw [flipZ_bad (fun h => hok h.2)] at HSp
    refine (HSp.out _).mono ?_
    rintro e w2 ⟨ya, ca, rfl, -, -, -, hb2, -⟩
    have hB2 := hb1.trans (hb2.mono hb1.size)
    have hB3 := hB2.alloc hB2.size (.cells #[.slice ya 0 ca] 24)
    have HI2 := (HI.out.below hB3).more hB3.size
    go_wp2_with fail
    refine (fewz_any x0 len cap hlc hcm _).mono ?_
    rintro e w' ⟨rfl, rfl⟩
    go_wp2_with fail
    refine (HM.out _ HI2).mono ?_
    rintro e w3 ⟨yr, cr, rfl, -, -, -, hb3, -⟩
    have hB4 := hB3.trans (hb3.mono hB3.size)
    have HB5 := Lib.hid (hB4.alloc hB4.size (.cells #[.slice yr (makeZ zt).1.length cr] 24))
    have hcs : a < 0 ∨ (¬ a < 0 ∧ b < 0) ∨ (¬ a < 0 ∧ ¬ b < 0 ∧ a > 65536) ∨ (¬ a < 0 ∧ ¬ b < 0 ∧ ¬ a > 65536 ∧ b > 65536) := by unfold okQ at hok; omega
    clear HI2 hb1 hb2 hb3 hB2 hB3 hB4 hok HM HSp HFl HI
    rcases hcs with h1 | ⟨h1, h2⟩ | ⟨h1, h2, h3⟩ | ⟨h1, h2, h3, h4⟩
    all_goals
      go_wp2
      go_ret
      exact ⟨rfl, HB5.out⟩
set_option maxRecDepth 100000 in
theorem lifted (os : Os) (started : os.Started) (H : Type) (enc : TypeId × Value → H) :
    ReturnsInHanded {} Try.checked os 7 .any (Rows.roarSpansSpec.pre6 enc Try.prog Try.f7 Rows.roarSpansRow.domain false) (Rows.roarSpansSpec.post enc Try.prog Try.f7 false true false false) := by
  refine returnsInHanded_of_change (C := Try.checked) own started (by kernel_rfl) Try.func7
    (ChangeSpec.witness6 (enc := enc) (C := Try.checked) false ⟨#[], #[.int .i64 0, .int .i64 0, .int .i64 0, .slice none 0 0], []⟩ 8 (by kernel_rfl) (by kernel_rfl) (by kernel_rfl) (by kernel_rfl)) ?_
  intro W base args ds gs before hval0 hW hcnd _
  have hval : ∀ (j : Nat) t v, Try.f7.params[j]? = some t → args[j]? = some v → Value.okWide Try.prog W .any base t v := hval0
  have hW' := hW
  obtain ⟨p, q, hA0, hV, rfl, hfz, hnd⟩ := hW
  have hA : DataW.TrodAll enc Try.prog W 0 (fun _ => true) true Try.f7.params.toList args.toList ds p := hA0
  rw [Try.params7] at hA hval
  obtain ⟨v0, vs0, d0, ds0, p0, q0, hargs, rfl, rfl, h0, r0⟩ := trodAll_cons hA
  obtain ⟨v1, vs1, d1, ds1, p1, q1, rfl, rfl, rfl, h1, r1⟩ := trodAll_cons r0
  obtain ⟨v2, vs2, d2, ds2, p2, q2, rfl, rfl, rfl, h2, r2⟩ := trodAll_cons r1
  obtain ⟨v3, vs3, d3, ds3, p3, q3, rfl, rfl, rfl, h3, r3⟩ := trodAll_cons r2
  obtain ⟨rfl, rfl, rfl⟩ := trodAll_nil r3
  obtain rfl : args = #[v0, v1, v2, v3] := by cases args; simp_all
  obtain ⟨rfl, rfl⟩ := trodVars_none hV
  obtain ⟨a0, rfl, rfl, rfl, w0⟩ := open_int Try.underlying3 (hval 0 3 v0 rfl rfl) h0
  obtain ⟨l0, u0⟩ := i64_of_wf w0
  obtain ⟨a1, rfl, rfl, rfl, w1⟩ := open_int Try.underlying3 (hval 1 3 v1 rfl rfl) h1
  obtain ⟨l1, u1⟩ := i64_of_wf w1
  obtain ⟨a2, rfl, rfl, rfl, w2⟩ := open_int Try.underlying3 (hval 2 3 v2 rfl rfl) h2
  obtain ⟨l2, u2⟩ := i64_of_wf w2
  obtain ⟨x3, len3, cap3, zs3, rfl, hlc3, hcm3, hln3, hz3, hI3, hr3⟩ := open_numbers (hval 3 25 v3 rfl rfl) h3 (fun q hq => hW'.lt q (by simp [hq]))
  clear hA0 hval0
  simp only [List.append_nil] at hW'
  refine (walk a0 l0 u0 a1 l1 u1 a2 l2 u2 x3 len3 cap3 zs3 hlc3 hcm3 hln3 hz3 W hI3).mono fun e W' ⟨he, hg⟩ => ?_
  subst he
  exact ⟨_, rfl, post_below (pa := _) (pv := []) hW' (fun _ _ _ => (trodAll_cons_mk (shut_bool Try.underlying4 _) trodAll_mk0)) (fun sp hsp => (trodAll_cons_mk (shut_int Try.underlying3 w0) (trodAll_cons_mk (shut_int Try.underlying3 w1) (trodAll_cons_mk (shut_int Try.underlying3 w2) (trodAll_cons_mk (hr3 _ hg sp (fun p hp => hsp p (by simp [hp]))) trodAll_mk0))))) (fun _ _ => rfl) (by simp)
    hg (ok_one (by kernel_rfl) rfl (okWide_bool_mk Try.underlying4 _))⟩

theorem over : Rows.roarSpansRow.holds Try.pinned (OpenSpec.ofChange Rows.roarSpansSpec) :=
  OpenClaim.holds_of_wide 7 Try.f7 rfl rfl rfl rfl rfl rfl rfl ⟨rfl, rfl, rfl, rfl, rfl⟩ rfl rfl rfl rfl rfl (by kernel_rfl) Try.func7 (by kernel_rfl)
    (of_decide_eq_true (by kernel_rfl)) (by unfold Func.isWrapper; first | (rw [if_pos (by decide +kernel)]; kernel_rfl) | (rw [if_neg (by decide +kernel)]; exact ⟨rfl, rfl⟩))
    (fun os started H enc _ => lifted os started H enc)

/-- The statement. -/
theorem proved : Rows.RoarSpansSaid :=
  over
#print axioms proved
end Go.Proofs.Ytbfchlfagdhglaa.roarSpans
