/- ContOps: what is made of two containers is as the document has it. No condition beyond the row's. -/
import Derived.Test.YtpjcndfamhehlaaCRow
import Derived.Test.YtpjcndfamhehlaaCOpen
import Derived.Test.YtpjcndfamhehlaaCRefO
import Derived.Test.YtpjcndfamhehlaaCLawM
import Derived.Test.YtpjcndfamhehlaaCCut
namespace Go.Proofs.Ytpjcndfamhehlaa.contOps
open Go.ChangeShapes Go.WideShapes Go.ChangeAt Go.RowKit Go.Joins

/-- The two boxed containers. -/
def TwB (w : World) (x y x' y' : Value) (W : World) : Prop := Blk W w.heap.size 23 #[x, y] ∧ Blk W (w.heap.size + 1) 23 #[x', y'] ∧ Below w.heap.size w W
theorem TwB.start (w : World) (x y x' y' : Value) : TwB w x y x' y' ((w.alloc (.cells #[x, y] 23)).alloc (.cells #[x', y'] 23)) :=
  ⟨(Blk.new w _ _).alloc _, by simpa using Blk.new (w.alloc (.cells #[x, y] 23)) 23 #[x', y'], ((Below.refl _ w).alloc (Nat.le_refl _) _).alloc (by simp) _⟩
theorem TwB.under {w wr w2 : World} {x y x' y' : Value} (h : TwB w x y x' y' wr) (hb : Below wr.heap.size wr w2) : TwB w x y x' y' w2 :=
  ⟨h.1.under hb, h.2.1.under hb, h.2.2.trans (hb.mono h.2.2.size)⟩
theorem TwB.left {w wr : World} {x y x' y' : Value} (h : TwB w x y x' y' wr) (a b : Value) : TwB w a b x' y' ((wr.setCell ⟨w.heap.size, 0, none⟩ a).setCell ⟨w.heap.size, 1, none⟩ b) :=
  ⟨h.1.set2 a b, (h.2.1.far (by simp) _).far (by simp) _, (h.2.2.setCell (by simp) _).setCell (by simp) _⟩
theorem TwB.right {w wr : World} {x y x' y' : Value} (h : TwB w x y x' y' wr) (a b : Value) : TwB w x y a b ((wr.setCell ⟨w.heap.size + 1, 0, none⟩ a).setCell ⟨w.heap.size + 1, 1, none⟩ b) :=
  ⟨(h.1.far (by simp) _).far (by simp) _, h.2.1.set2 a b, (h.2.2.setCell (by simp) _).setCell (by simp) _⟩
theorem flipV_form (f : Int) (d : List UInt8) (a b : Int) : ∃ (x : Int) (y : List UInt8) (z : Int), flipV f d a b = .tuple #[.agg #[.int .i64 x, .string ⟨y.toArray⟩], .int .i64 z] := by
  unfold flipV
  split
  · exact ⟨_, _, _, rfl⟩
  · exact ⟨_, _, _, rfl⟩
theorem asCV_form (f : Int) (d : List UInt8) (a : Int) : ∃ (x : Int) (y : List UInt8) (z : Int), asCV f d a = .tuple #[.agg #[.int .i64 x, .string ⟨y.toArray⟩], .int .i64 z] := by
  unfold asCV
  split
  · exact ⟨_, _, _, rfl⟩
  · exact ⟨_, _, _, rfl⟩
set_option maxRecDepth 100000 in
set_option maxHeartbeats 4000000 in
theorem walk (f : Int) (lf : -9223372036854775808 ≤ f) (uf : f ≤ 9223372036854775807) (d0 : List UInt8) (kd : d0.length ≤ 9223372036854775807) (g : Int) (lg : -9223372036854775808 ≤ g) (ug : g ≤ 9223372036854775807) (c0_ : List UInt8) (kc : c0_.length ≤ 9223372036854775807) (op : Int) (lo : -9223372036854775808 ≤ op) (uo : op ≤ 9223372036854775807) (fr : Int) (lr : -9223372036854775808 ≤ fr) (ur : fr ≤ 9223372036854775807) (tt : Int) (lt_ : -9223372036854775808 ≤ tt) (ut : tt ≤ 9223372036854775807) (w : World) :
    Calls Try.prog 4 #[.agg #[.int .i64 f, .string ⟨d0.toArray⟩], .agg #[.int .i64 g, .string ⟨c0_.toArray⟩], .int .i64 op, .int .i64 fr, .int .i64 tt] w fun e w' => e = .returned (.bool true) ∧ Below w.heap.size w w' := by
  obtain ⟨d, hd⟩ : ∃ d, d0.take 260 = d := ⟨_, rfl⟩
  obtain ⟨c, hc⟩ : ∃ c, c0_.take 260 = c := ⟨_, rfl⟩
  have hdl : d.length ≤ 260 := by rw [← hd, List.length_take]; omega
  have hcl : c.length ≤ 260 := by rw [← hc, List.length_take]; omega
  have okd : OkC f d := ⟨lf, uf, by omega⟩
  have okc : OkC g c := ⟨lg, ug, by omega⟩
  have HP := Lib.hid (fun W => op_all_any op f d okd g c okc W)
  have HPr := Lib.hid (fun W => ref_op_any f d (by omega) g c (by omega) W op)
  have HF := Lib.hid (fun W => flip_any f lf uf d okd.2.2 fr tt W)
  have HFr := Lib.hid (fun W => ref_flip_any f d (by omega) W fr tt)
  have HA := Lib.hid (fun W => asC_any g lg ug c okc.2.2 W op lo uo)
  have HAr := Lib.hid (fun W => ref_as_any g c (by omega) W op)
  obtain ⟨x1, y1, z1, h1⟩ := opCV_form op f g d c
  obtain ⟨x2, y2, z2, h2⟩ := flipV_form f d fr tt
  obtain ⟨x3, y3, z3, h3⟩ := asCV_form g c op
  simp only [h1] at HP HPr
  simp only [h2] at HF HFr
  simp only [h3] at HA HAr
  unfold contV at HF HA
  clear h1 h2 h3 okd okc
  have hS0 := TwB.start w (.int .i64 f) (.string ⟨d0.toArray⟩) (.int .i64 g) (.string ⟨c0_.toArray⟩)
  go_enter Try.func4, Try.ntmps4
  go_wp2_with fail
  refine (shown_any _).mono ?_
  rintro e w1 ⟨rfl, hb1⟩
  have hS1 := hS0.under hb1
  clear hS0 hb1
  have c0 := hS1.1.cell 0; have c1 := hS1.1.cell 1
  dsimp at c0 c1
  go_wp2_with fail
  refine (cut_any f d0 _).mono ?_
  rintro e w2 ⟨rfl, hb2⟩
  have hS2 := hS1.under hb2
  clear hS1 hb2 c0 c1
  unfold contV
  rw [hd]
  have hS3 := hS2.left (.int .i64 f) (.string ⟨d.toArray⟩)
  have c0 := hS2.1.cell 0; have c1 := hS2.1.cell 1
  have f0 := hS2.1.frozen 0; have f1 := hS2.1.frozen 1
  have e0 := hS3.2.1.cell 0; have e1 := hS3.2.1.cell 1
  dsimp at c0 c1 e0 e1
  clear hS2
  go_wp2_with fail
  generalize ((w2.setCell ⟨w.heap.size, 0, none⟩ (.int .i64 f)).setCell ⟨w.heap.size, 1, none⟩ (.string ⟨d.toArray⟩)) = w3 at *
  clear c0 c1 f0 f1
  refine (cut_any g c0_ _).mono ?_
  rintro e w4 ⟨rfl, hb4⟩
  have hS4 := hS3.under hb4
  clear hS3 hb4 e0 e1
  unfold contV
  rw [hc]
  have hS5 := hS4.right (.int .i64 g) (.string ⟨c.toArray⟩)
  have e0 := hS4.2.1.cell 0; have e1 := hS4.2.1.cell 1
  have f0 := hS4.2.1.frozen 0; have f1 := hS4.2.1.frozen 1
  have a0 := hS5.1.cell 0; have a1 := hS5.1.cell 1
  have b0 := hS5.2.1.cell 0; have b1 := hS5.2.1.cell 1
  dsimp at e0 e1 a0 a1 b0 b1
  clear hS4
  go_wp2_with fail
  generalize ((w4.setCell ⟨w.heap.size + 1, 0, none⟩ (.int .i64 g)).setCell ⟨w.heap.size + 1, 1, none⟩ (.string ⟨c.toArray⟩)) = u0 at *
  clear e0 e1 f0 f1
  refine (HP.out _).mono ?_
  rintro e v0 ⟨rfl, hb⟩
  have hc_ := hb.alloc hb.size (.cells #[.int .i64 x1, .string ⟨y1.toArray⟩] 23)
  have hT1 := hS5.under hc_
  clear hS5
  have hS5 := hT1
  clear hT1 a0 a1 b0 b1
  have p0 := Blk.new v0 23 #[.int .i64 x1, .string ⟨y1.toArray⟩]
  clear hb hc_
  have a0 := hS5.1.cell 0; have a1 := hS5.1.cell 1
  have b0 := hS5.2.1.cell 0; have b1 := hS5.2.1.cell 1
  dsimp at a0 a1 b0 b1
  go_wp2_with fail
  generalize hW : v0.alloc (.cells #[.int .i64 x1, .string ⟨y1.toArray⟩] 23) = u1 at *
  generalize v0.heap.size = g0 at *
  clear hW
  refine (HPr.out _).mono ?_
  rintro e v1 ⟨rfl, hb⟩
  have hc_ := hb.alloc hb.size (.cells #[.int .i64 x1, .string ⟨y1.toArray⟩] 23)
  have hT2 := hS5.under hc_
  clear hS5
  have hS5 := hT2
  clear hT2 a0 a1 b0 b1
  have p0_ := p0.under hc_
  clear p0
  have p0 := p0_
  clear p0_
  have p1 := Blk.new v1 23 #[.int .i64 x1, .string ⟨y1.toArray⟩]
  clear hb hc_
  have a0 := hS5.1.cell 0; have a1 := hS5.1.cell 1
  have b0 := hS5.2.1.cell 0; have b1 := hS5.2.1.cell 1
  dsimp at a0 a1 b0 b1
  go_wp2_with fail
  generalize hW : v1.alloc (.cells #[.int .i64 x1, .string ⟨y1.toArray⟩] 23) = u2 at *
  generalize v1.heap.size = g1 at *
  clear hW
  refine (HF.out _).mono ?_
  rintro e v2 ⟨rfl, hb⟩
  have hc_ := hb.alloc hb.size (.cells #[.int .i64 x2, .string ⟨y2.toArray⟩] 23)
  have hT3 := hS5.under hc_
  clear hS5
  have hS5 := hT3
  clear hT3 a0 a1 b0 b1
  have p0_ := p0.under hc_
  clear p0
  have p0 := p0_
  clear p0_
  have p1_ := p1.under hc_
  clear p1
  have p1 := p1_
  clear p1_
  have p2 := Blk.new v2 23 #[.int .i64 x2, .string ⟨y2.toArray⟩]
  clear hb hc_
  have a0 := hS5.1.cell 0; have a1 := hS5.1.cell 1
  have b0 := hS5.2.1.cell 0; have b1 := hS5.2.1.cell 1
  dsimp at a0 a1 b0 b1
  go_wp2_with fail
  generalize hW : v2.alloc (.cells #[.int .i64 x2, .string ⟨y2.toArray⟩] 23) = u3 at *
  generalize v2.heap.size = g2 at *
  clear hW
  refine (HFr.out _).mono ?_
  rintro e v3 ⟨rfl, hb⟩
  have hc_ := hb.alloc hb.size (.cells #[.int .i64 x2, .string ⟨y2.toArray⟩] 23)
  have hT4 := hS5.under hc_
  clear hS5
  have hS5 := hT4
  clear hT4 a0 a1 b0 b1
  have p0_ := p0.under hc_
  clear p0
  have p0 := p0_
  clear p0_
  have p1_ := p1.under hc_
  clear p1
  have p1 := p1_
  clear p1_
  have p2_ := p2.under hc_
  clear p2
  have p2 := p2_
  clear p2_
  have p3 := Blk.new v3 23 #[.int .i64 x2, .string ⟨y2.toArray⟩]
  clear hb hc_
  have a0 := hS5.1.cell 0; have a1 := hS5.1.cell 1
  have b0 := hS5.2.1.cell 0; have b1 := hS5.2.1.cell 1
  dsimp at a0 a1 b0 b1
  go_wp2_with fail
  generalize hW : v3.alloc (.cells #[.int .i64 x2, .string ⟨y2.toArray⟩] 23) = u4 at *
  generalize v3.heap.size = g3 at *
  clear hW
  refine (HA.out _).mono ?_
  rintro e v4 ⟨rfl, hb⟩
  have hc_ := hb.alloc hb.size (.cells #[.int .i64 x3, .string ⟨y3.toArray⟩] 23)
  have hT5 := hS5.under hc_
  clear hS5
  have hS5 := hT5
  clear hT5 a0 a1 b0 b1
  have p0_ := p0.under hc_
  clear p0
  have p0 := p0_
  clear p0_
  have p1_ := p1.under hc_
  clear p1
  have p1 := p1_
  clear p1_
  have p2_ := p2.under hc_
  clear p2
  have p2 := p2_
  clear p2_
  have p3_ := p3.under hc_
  clear p3
  have p3 := p3_
  clear p3_
  have p4 := Blk.new v4 23 #[.int .i64 x3, .string ⟨y3.toArray⟩]
  clear hb hc_
  have a0 := hS5.1.cell 0; have a1 := hS5.1.cell 1
  have b0 := hS5.2.1.cell 0; have b1 := hS5.2.1.cell 1
  dsimp at a0 a1 b0 b1
  go_wp2_with fail
  generalize hW : v4.alloc (.cells #[.int .i64 x3, .string ⟨y3.toArray⟩] 23) = u5 at *
  generalize v4.heap.size = g4 at *
  clear hW
  refine (HAr.out _).mono ?_
  rintro e v5 ⟨rfl, hb⟩
  have hc_ := hb.alloc hb.size (.cells #[.int .i64 x3, .string ⟨y3.toArray⟩] 23)
  have hT6 := hS5.under hc_
  clear hS5
  have hS5 := hT6
  clear hT6 a0 a1 b0 b1
  have p0_ := p0.under hc_
  clear p0
  have p0 := p0_
  clear p0_
  have p1_ := p1.under hc_
  clear p1
  have p1 := p1_
  clear p1_
  have p2_ := p2.under hc_
  clear p2
  have p2 := p2_
  clear p2_
  have p3_ := p3.under hc_
  clear p3
  have p3 := p3_
  clear p3_
  have p4_ := p4.under hc_
  clear p4
  have p4 := p4_
  clear p4_
  have p5 := Blk.new v5 23 #[.int .i64 x3, .string ⟨y3.toArray⟩]
  clear hb hc_
  have q0a := p0.cell 0; have q0b := p0.cell 1
  have q1a := p1.cell 0; have q1b := p1.cell 1
  have q2a := p2.cell 0; have q2b := p2.cell 1
  have q3a := p3.cell 0; have q3b := p3.cell 1
  have q4a := p4.cell 0; have q4b := p4.cell 1
  have q5a := p5.cell 0; have q5b := p5.cell 1
  dsimp at q0a q0b q1a q1b q2a q2b q3a q3b q4a q4b q5a q5b
  have hB := hS5.2.2
  clear hS5 p0 p1 p2 p3 p4 p5
  go_wp2
  go_ret
  exact ⟨rfl, hB⟩
set_option maxRecDepth 100000 in
theorem lifted (os : Os) (started : os.Started) (H : Type) (enc : TypeId × Value → H) :
    ReturnsInHanded {} Try.checked os 4 .any (Rows.contOpsSpec.pre6 enc Try.prog Try.f4 Rows.contOpsRow.domain false) (Rows.contOpsSpec.post enc Try.prog Try.f4 false true false false) := by
  refine returnsInHanded_of_change (C := Try.checked) own started (by kernel_rfl) Try.func4
    (ChangeSpec.witness6 (enc := enc) (C := Try.checked) false ⟨#[], #[.agg #[.int .i64 0, .string ⟨#[]⟩], .agg #[.int .i64 0, .string ⟨#[]⟩], .int .i64 0, .int .i64 0, .int .i64 0], []⟩ 8 (by kernel_rfl) (by kernel_rfl) (by kernel_rfl) (by kernel_rfl)) ?_
  intro W base args ds gs before hval0 hW hcnd _
  have hval : ∀ (j : Nat) t v, Try.f4.params[j]? = some t → args[j]? = some v → Value.okWide Try.prog W .any base t v := hval0
  have hW' := hW
  obtain ⟨p, q, hA0, hV, rfl, hfz, hnd⟩ := hW
  have hA : DataW.TrodAll enc Try.prog W 0 (fun _ => true) true Try.f4.params.toList args.toList ds p := hA0
  rw [Try.params4] at hA hval
  obtain ⟨v0, vs0, d0, ds0, p0, q0, hargs, rfl, rfl, h0, r0⟩ := trodAll_cons hA
  obtain ⟨v1, vs1, d1, ds1, p1, q1, rfl, rfl, rfl, h1, r1⟩ := trodAll_cons r0
  obtain ⟨v2, vs2, d2, ds2, p2, q2, rfl, rfl, rfl, h2, r2⟩ := trodAll_cons r1
  obtain ⟨v3, vs3, d3, ds3, p3, q3, rfl, rfl, rfl, h3, r3⟩ := trodAll_cons r2
  obtain ⟨v4, vs4, d4, ds4, p4, q4, rfl, rfl, rfl, h4, r4⟩ := trodAll_cons r3
  obtain ⟨rfl, rfl, rfl⟩ := trodAll_nil r4
  obtain rfl : args = #[v0, v1, v2, v3, v4] := by cases args; simp_all
  obtain ⟨rfl, rfl⟩ := trodVars_none hV
  obtain ⟨f0, e0, l0, u0, k0, rfl, rfl, hr0⟩ := open_cont (hval 0 23 v0 rfl rfl) h0
  obtain ⟨f1, e1, l1, u1, k1, rfl, rfl, hr1⟩ := open_cont (hval 1 23 v1 rfl rfl) h1
  obtain ⟨a2, rfl, rfl, rfl, w2⟩ := open_int Try.underlying3 (hval 2 3 v2 rfl rfl) h2
  obtain ⟨l2, u2⟩ := i64_of_wf w2
  obtain ⟨a3, rfl, rfl, rfl, w3⟩ := open_int Try.underlying3 (hval 3 3 v3 rfl rfl) h3
  obtain ⟨l3, u3⟩ := i64_of_wf w3
  obtain ⟨a4, rfl, rfl, rfl, w4⟩ := open_int Try.underlying3 (hval 4 3 v4 rfl rfl) h4
  obtain ⟨l4, u4⟩ := i64_of_wf w4
  clear hA0 hval0
  simp only [List.append_nil] at hW'
  refine (walk f0 l0 u0 e0 k0 f1 l1 u1 e1 k1 a2 l2 u2 a3 l3 u3 a4 l4 u4 W).mono fun e W' ⟨he, hg⟩ => ?_
  subst he
  exact ⟨_, rfl, post_below (pa := []) (pv := []) hW' (fun _ _ _ => (trodAll_cons_mk (shut_bool Try.underlying4 _) trodAll_mk0)) (fun sp hsp => (trodAll_cons_mk (hr0 _ _ _ _) (trodAll_cons_mk (hr1 _ _ _ _) (trodAll_cons_mk (shut_int Try.underlying3 w2) (trodAll_cons_mk (shut_int Try.underlying3 w3) (trodAll_cons_mk (shut_int Try.underlying3 w4) trodAll_mk0)))))) (fun _ _ => rfl) rfl
    hg (ok_one (by kernel_rfl) rfl (okWide_bool_mk Try.underlying4 _))⟩

theorem over : Rows.contOpsRow.holds Try.pinned (OpenSpec.ofChange Rows.contOpsSpec) :=
  OpenClaim.holds_of_wide 4 Try.f4 rfl rfl rfl rfl rfl rfl rfl ⟨rfl, rfl, rfl, rfl, rfl⟩ rfl rfl rfl rfl rfl (by kernel_rfl) Try.func4 (by kernel_rfl)
    (of_decide_eq_true (by kernel_rfl)) (by unfold Func.isWrapper; first | (rw [if_pos (by decide +kernel)]; kernel_rfl) | (rw [if_neg (by decide +kernel)]; exact ⟨rfl, rfl⟩))
    (fun os started H enc _ => lifted os started H enc)

/-- The statement. -/
theorem proved : Rows.ContOpsSaid :=
  over
#print axioms proved
end Go.Proofs.Ytpjcndfamhehlaa.contOps
