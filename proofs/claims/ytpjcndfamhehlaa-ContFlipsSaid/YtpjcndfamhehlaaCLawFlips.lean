/- ContFlips: what is flipped twice is as it was, in its best form. No condition beyond the row's. -/
import Derived.Test.YtpjcndfamhehlaaCRow
import Derived.Test.YtpjcndfamhehlaaCLawM
namespace Go.Proofs.Ytpjcndfamhehlaa.contFlips
open Go.ChangeShapes Go.WideShapes Go.ChangeAt Go.RowKit Go.Joins

set_option maxRecDepth 100000 in
set_option maxHeartbeats 4000000 in
theorem walk (x0 : Option Addr) (len cap : Nat) (zs : List Int) (hlc : len ≤ cap) (hcm : cap ≤ 9223372036854775807) (hln : zs.length = len) (hz : In64 zs) (a : Int) (la : -9223372036854775808 ≤ a) (ua : a ≤ 9223372036854775807) (b : Int) (lb : -9223372036854775808 ≤ b) (ub : b ≤ 9223372036854775807) (w : World) (hI : Ints w.heap.size w (.slice x0 len cap) zs) :
    Calls Try.prog 6 #[.slice x0 len cap, .int .i64 a, .int .i64 b] w fun e w' => e = .returned (.bool true) ∧ Below w.heap.size w w' := by
  have HM := Lib.hid (fun W h => make_any x0 (min len 300) cap (zs.take 300) (by rw [List.length_take, hln, Nat.min_comm]) (by omega) (in64_take hz 300) W h)
  have HI := Lib.hid (ints_cut hI 300 hln)
  have HF := Lib.hid flip_any
  unfold contV at HF
  clear hI
  generalize zs.take 300 = zt at *
  by_cases hg : AllGood zt
  · rw [make_good hg] at HM
    obtain ⟨k1, k2, k3⟩ := best_bnd (ofL zt)
    have HF1 := Lib.hid (fun W => HF.out (bestF (ofL zt) : Nat) k1 k2 (bestD (ofL zt)) k3 a b W)
    by_cases hr : okR a b
    · rw [flip_best hr] at HF1
      obtain ⟨j1, j2, j3⟩ := best_bnd (flipS (ofL zt) a b)
      have HF2 := Lib.hid (fun W => HF.out (bestF (flipS (ofL zt) a b) : Nat) j1 j2 (bestD (flipS (ofL zt) a b)) j3 a b W)
      rw [flip_best hr, flip_twice] at HF2
      unfold okR at hr
      obtain ⟨r1, r2, r3, r4⟩ := hr
      have n1 : ¬ a < 0 := by omega
      have n2 : ¬ b < 0 := by omega
      have n3 : ¬ 256 < a := by omega
      have n4 : ¬ 256 < b := by omega
      generalize bestF (ofL zt) = q at *
      generalize bestD (ofL zt) = dq at *
      generalize bestF (flipS (ofL zt) a b) = y at *
      generalize bestD (flipS (ofL zt) a b) = dy at *
      clear r1 r2 r3 r4 j1 j2 j3 hg
      clear k1 k2 k3
      go_enter Try.func6, Try.ntmps6
      go_wp2_with fail
      refine (shown_any _).mono ?_
      rintro e w1 ⟨rfl, hB1⟩
      go_wp2_with fail
      refine (few_any x0 len cap hlc hcm _).mono ?_
      rintro e w' ⟨rfl, rfl⟩
      go_wp2_with fail
      refine (HM.out _ ((HI.out.below hB1).more hB1.size)).mono ?_
      rintro e w2 ⟨rfl, hb2⟩
      have hB2 := hB1.trans (hb2.mono hB1.size)
      have b1 := Blk.new w2 23 #[.int .i64 q, .string ⟨dq.toArray⟩]
      have hB3 := hB2.alloc hB2.size (.cells #[.int .i64 q, .string ⟨dq.toArray⟩] 23)
      clear hB1 hb2 hB2
      go_wp2_with fail
      refine (HF1.out _).mono ?_
      rintro e w3 ⟨rfl, hb3⟩
      have hB4 := hB3.trans (hb3.mono hB3.size)
      have b2 := (b1.under hb3).alloc (.cells #[.int .i64 y, .string ⟨dy.toArray⟩] 23)
      have hB5 := hB4.alloc hB4.size (.cells #[.int .i64 y, .string ⟨dy.toArray⟩] 23)
      clear hb3 hB4 b1 hB3
      go_wp2_with fail
      refine (HF2.out _).mono ?_
      rintro e w4 ⟨rfl, hb4⟩
      have hB6 := hB5.trans (hb4.mono hB5.size)
      have b3 := b2.under hb4
      have c0 := b3.cell 0; have c1 := b3.cell 1
      have hl := b3.lt
      dsimp at c0 c1
      have hB7 := hB6.alloc hB6.size (.cells #[.int .i64 q, .string ⟨dq.toArray⟩] 23)
      clear b2 b3 hb4 hB5 hB6
      go_wp2
      go_ret
      exact ⟨rfl, hB7⟩
    · rw [flip_range hr] at HF1
      have HF2 := Lib.hid (fun W => HF.out 0 (by decide) (by decide) [] (by decide) a b W)
      rw [flip_none] at HF2
      generalize bestF (ofL zt) = q at *
      generalize bestD (ofL zt) = dq at *
      have hr2 : a < 0 ∨ (¬ a < 0 ∧ b < 0) ∨ (¬ a < 0 ∧ ¬ b < 0 ∧ 256 < a) ∨ (¬ a < 0 ∧ ¬ b < 0 ∧ ¬ 256 < a ∧ 256 < b) := by unfold okR at hr; omega
      clear k1 k2 k3 hg hr
      rcases hr2 with n1 | ⟨n1, n2⟩ | ⟨n1, n2, n3⟩ | ⟨n1, n2, n3, n4⟩
      · go_enter Try.func6, Try.ntmps6
        go_wp2_with fail
        refine (shown_any _).mono ?_
        rintro e w1 ⟨rfl, hB1⟩
        go_wp2_with fail
        refine (few_any x0 len cap hlc hcm _).mono ?_
        rintro e w' ⟨rfl, rfl⟩
        go_wp2_with fail
        refine (HM.out _ ((HI.out.below hB1).more hB1.size)).mono ?_
        rintro e w2 ⟨rfl, hb2⟩
        have hB2 := hB1.trans (hb2.mono hB1.size)
        have b1 := Blk.new w2 23 #[.int .i64 q, .string ⟨dq.toArray⟩]
        have hB3 := hB2.alloc hB2.size (.cells #[.int .i64 q, .string ⟨dq.toArray⟩] 23)
        clear hB1 hb2 hB2
        go_wp2_with fail
        refine (HF1.out _).mono ?_
        rintro e w3 ⟨rfl, hb3⟩
        have hB4 := hB3.trans (hb3.mono hB3.size)
        have b2 := (b1.under hb3).alloc (.cells #[.int .i64 0, .string ⟨#[]⟩] 23)
        have hB5 := hB4.alloc hB4.size (.cells #[.int .i64 0, .string ⟨#[]⟩] 23)
        clear hb3 hB4 b1 hB3
        go_wp2_with fail
        refine (HF2.out _).mono ?_
        rintro e w4 ⟨rfl, hb4⟩
        have hB6 := hB5.trans (hb4.mono hB5.size)
        have b3 := b2.under hb4
        have c0 := b3.cell 0; have c1 := b3.cell 1
        have hl := b3.lt
        dsimp at c0 c1
        have hB7 := hB6.alloc hB6.size (.cells #[.int .i64 0, .string ⟨#[]⟩] 23)
        clear b2 b3 hb4 hB5 hB6
        go_wp2
        go_ret
        exact ⟨rfl, hB7⟩
      · go_enter Try.func6, Try.ntmps6
        go_wp2_with fail
        refine (shown_any _).mono ?_
        rintro e w1 ⟨rfl, hB1⟩
        go_wp2_with fail
        refine (few_any x0 len cap hlc hcm _).mono ?_
        rintro e w' ⟨rfl, rfl⟩
        go_wp2_with fail
        refine (HM.out _ ((HI.out.below hB1).more hB1.size)).mono ?_
        rintro e w2 ⟨rfl, hb2⟩
        have hB2 := hB1.trans (hb2.mono hB1.size)
        have b1 := Blk.new w2 23 #[.int .i64 q, .string ⟨dq.toArray⟩]
        have hB3 := hB2.alloc hB2.size (.cells #[.int .i64 q, .string ⟨dq.toArray⟩] 23)
        clear hB1 hb2 hB2
        go_wp2_with fail
        refine (HF1.out _).mono ?_
        rintro e w3 ⟨rfl, hb3⟩
        have hB4 := hB3.trans (hb3.mono hB3.size)
        have b2 := (b1.under hb3).alloc (.cells #[.int .i64 0, .string ⟨#[]⟩] 23)
        have hB5 := hB4.alloc hB4.size (.cells #[.int .i64 0, .string ⟨#[]⟩] 23)
        clear hb3 hB4 b1 hB3
        go_wp2_with fail
        refine (HF2.out _).mono ?_
        rintro e w4 ⟨rfl, hb4⟩
        have hB6 := hB5.trans (hb4.mono hB5.size)
        have b3 := b2.under hb4
        have c0 := b3.cell 0; have c1 := b3.cell 1
        have hl := b3.lt
        dsimp at c0 c1
        have hB7 := hB6.alloc hB6.size (.cells #[.int .i64 0, .string ⟨#[]⟩] 23)
        clear b2 b3 hb4 hB5 hB6
        go_wp2
        go_ret
        exact ⟨rfl, hB7⟩
      · go_enter Try.func6, Try.ntmps6
        go_wp2_with fail
        refine (shown_any _).mono ?_
        rintro e w1 ⟨rfl, hB1⟩
        go_wp2_with fail
        refine (few_any x0 len cap hlc hcm _).mono ?_
        rintro e w' ⟨rfl, rfl⟩
        go_wp2_with fail
        refine (HM.out _ ((HI.out.below hB1).more hB1.size)).mono ?_
        rintro e w2 ⟨rfl, hb2⟩
        have hB2 := hB1.trans (hb2.mono hB1.size)
        have b1 := Blk.new w2 23 #[.int .i64 q, .string ⟨dq.toArray⟩]
        have hB3 := hB2.alloc hB2.size (.cells #[.int .i64 q, .string ⟨dq.toArray⟩] 23)
        clear hB1 hb2 hB2
        go_wp2_with fail
        refine (HF1.out _).mono ?_
        rintro e w3 ⟨rfl, hb3⟩
        have hB4 := hB3.trans (hb3.mono hB3.size)
        have b2 := (b1.under hb3).alloc (.cells #[.int .i64 0, .string ⟨#[]⟩] 23)
        have hB5 := hB4.alloc hB4.size (.cells #[.int .i64 0, .string ⟨#[]⟩] 23)
        clear hb3 hB4 b1 hB3
        go_wp2_with fail
        refine (HF2.out _).mono ?_
        rintro e w4 ⟨rfl, hb4⟩
        have hB6 := hB5.trans (hb4.mono hB5.size)
        have b3 := b2.under hb4
        have c0 := b3.cell 0; have c1 := b3.cell 1
        have hl := b3.lt
        dsimp at c0 c1
        have hB7 := hB6.alloc hB6.size (.cells #[.int .i64 0, .string ⟨#[]⟩] 23)
        clear b2 b3 hb4 hB5 hB6
        go_wp2
        go_ret
        exact ⟨rfl, hB7⟩
      · go_enter Try.func6, Try.ntmps6
        go_wp2_with fail
        refine (shown_any _).mono ?_
        rintro e w1 ⟨rfl, hB1⟩
        go_wp2_with fail
        refine (few_any x0 len cap hlc hcm _).mono ?_
        rintro e w' ⟨rfl, rfl⟩
        go_wp2_with fail
        refine (HM.out _ ((HI.out.below hB1).more hB1.size)).mono ?_
        rintro e w2 ⟨rfl, hb2⟩
        have hB2 := hB1.trans (hb2.mono hB1.size)
        have b1 := Blk.new w2 23 #[.int .i64 q, .string ⟨dq.toArray⟩]
        have hB3 := hB2.alloc hB2.size (.cells #[.int .i64 q, .string ⟨dq.toArray⟩] 23)
        clear hB1 hb2 hB2
        go_wp2_with fail
        refine (HF1.out _).mono ?_
        rintro e w3 ⟨rfl, hb3⟩
        have hB4 := hB3.trans (hb3.mono hB3.size)
        have b2 := (b1.under hb3).alloc (.cells #[.int .i64 0, .string ⟨#[]⟩] 23)
        have hB5 := hB4.alloc hB4.size (.cells #[.int .i64 0, .string ⟨#[]⟩] 23)
        clear hb3 hB4 b1 hB3
        go_wp2_with fail
        refine (HF2.out _).mono ?_
        rintro e w4 ⟨rfl, hb4⟩
        have hB6 := hB5.trans (hb4.mono hB5.size)
        have b3 := b2.under hb4
        have c0 := b3.cell 0; have c1 := b3.cell 1
        have hl := b3.lt
        dsimp at c0 c1
        have hB7 := hB6.alloc hB6.size (.cells #[.int .i64 0, .string ⟨#[]⟩] 23)
        clear b2 b3 hb4 hB5 hB6
        go_wp2
        go_ret
        exact ⟨rfl, hB7⟩
  · rw [make_bad hg] at HM
    have HF1 := Lib.hid (fun W => HF.out 0 (by decide) (by decide) [] (by decide) a b W)
    rw [flip_none] at HF1
    have HF2 := HF1
    clear hg
    go_enter Try.func6, Try.ntmps6
    go_wp2_with fail
    refine (shown_any _).mono ?_
    rintro e w1 ⟨rfl, hB1⟩
    go_wp2_with fail
    refine (few_any x0 len cap hlc hcm _).mono ?_
    rintro e w' ⟨rfl, rfl⟩
    go_wp2_with fail
    refine (HM.out _ ((HI.out.below hB1).more hB1.size)).mono ?_
    rintro e w2 ⟨rfl, hb2⟩
    have hB2 := hB1.trans (hb2.mono hB1.size)
    have b1 := Blk.new w2 23 #[.int .i64 0, .string ⟨#[]⟩]
    have hB3 := hB2.alloc hB2.size (.cells #[.int .i64 0, .string ⟨#[]⟩] 23)
    clear hB1 hb2 hB2
    go_wp2_with fail
    refine (HF1.out _).mono ?_
    rintro e w3 ⟨rfl, hb3⟩
    have hB4 := hB3.trans (hb3.mono hB3.size)
    have b2 := (b1.under hb3).alloc (.cells #[.int .i64 0, .string ⟨#[]⟩] 23)
    have hB5 := hB4.alloc hB4.size (.cells #[.int .i64 0, .string ⟨#[]⟩] 23)
    clear hb3 hB4 b1 hB3
    go_wp2_with fail
    refine (HF2.out _).mono ?_
    rintro e w4 ⟨rfl, hb4⟩
    have hB6 := hB5.trans (hb4.mono hB5.size)
    have b3 := b2.under hb4
    have c0 := b3.cell 0; have c1 := b3.cell 1
    have hl := b3.lt
    dsimp at c0 c1
    have hB7 := hB6.alloc hB6.size (.cells #[.int .i64 0, .string ⟨#[]⟩] 23)
    clear b2 b3 hb4 hB5 hB6
    go_wp2
    go_ret
    exact ⟨rfl, hB7⟩
set_option maxRecDepth 100000 in
theorem lifted (os : Os) (started : os.Started) (H : Type) (enc : TypeId × Value → H) :
    ReturnsInHanded {} Try.checked os 6 .any (Rows.contFlipsSpec.pre6 enc Try.prog Try.f6 Rows.contFlipsRow.domain false) (Rows.contFlipsSpec.post enc Try.prog Try.f6 false true false false) := by
  refine returnsInHanded_of_change (C := Try.checked) own started (by kernel_rfl) Try.func6
    (ChangeSpec.witness6 (enc := enc) (C := Try.checked) false ⟨#[], #[.slice none 0 0, .int .i64 0, .int .i64 0], []⟩ 8 (by kernel_rfl) (by kernel_rfl) (by kernel_rfl) (by kernel_rfl)) ?_
  intro W base args ds gs before hval0 hW hcnd _
  have hval : ∀ (j : Nat) t v, Try.f6.params[j]? = some t → args[j]? = some v → Value.okWide Try.prog W .any base t v := hval0
  have hW' := hW
  obtain ⟨p, q, hA0, hV, rfl, hfz, hnd⟩ := hW
  have hA : DataW.TrodAll enc Try.prog W 0 (fun _ => true) true Try.f6.params.toList args.toList ds p := hA0
  rw [Try.params6] at hA hval
  obtain ⟨v0, vs0, d0, ds0, p0, q0, hargs, rfl, rfl, h0, r0⟩ := trodAll_cons hA
  obtain ⟨v1, vs1, d1, ds1, p1, q1, rfl, rfl, rfl, h1, r1⟩ := trodAll_cons r0
  obtain ⟨v2, vs2, d2, ds2, p2, q2, rfl, rfl, rfl, h2, r2⟩ := trodAll_cons r1
  obtain ⟨rfl, rfl, rfl⟩ := trodAll_nil r2
  obtain rfl : args = #[v0, v1, v2] := by cases args; simp_all
  obtain ⟨rfl, rfl⟩ := trodVars_none hV
  obtain ⟨x0, len0, cap0, zs0, rfl, hlc0, hcm0, hln0, hz0, hI0, hr0⟩ := open_numbers (hval 0 24 v0 rfl rfl) h0 (fun q hq => hW'.lt q (by simp [hq]))
  obtain ⟨a1, rfl, rfl, rfl, w1⟩ := open_int Try.underlying3 (hval 1 3 v1 rfl rfl) h1
  obtain ⟨l1, u1⟩ := i64_of_wf w1
  obtain ⟨a2, rfl, rfl, rfl, w2⟩ := open_int Try.underlying3 (hval 2 3 v2 rfl rfl) h2
  obtain ⟨l2, u2⟩ := i64_of_wf w2
  clear hA0 hval0
  simp only [List.append_nil] at hW'
  refine (walk x0 len0 cap0 zs0 hlc0 hcm0 hln0 hz0 a1 l1 u1 a2 l2 u2 W hI0).mono fun e W' ⟨he, hg⟩ => ?_
  subst he
  exact ⟨_, rfl, post_below (pa := _) (pv := []) hW' (fun _ _ _ => (trodAll_cons_mk (shut_bool Try.underlying4 _) trodAll_mk0)) (fun sp hsp => (trodAll_cons_mk (hr0 _ hg sp (fun p hp => hsp p (by simp [hp]))) (trodAll_cons_mk (shut_int Try.underlying3 w1) (trodAll_cons_mk (shut_int Try.underlying3 w2) trodAll_mk0)))) (fun _ _ => rfl) (by simp)
    hg (ok_one (by kernel_rfl) rfl (okWide_bool_mk Try.underlying4 _))⟩

theorem over : Rows.contFlipsRow.holds Try.pinned (OpenSpec.ofChange Rows.contFlipsSpec) :=
  OpenClaim.holds_of_wide 6 Try.f6 rfl rfl rfl rfl rfl rfl rfl ⟨rfl, rfl, rfl, rfl, rfl⟩ rfl rfl rfl rfl rfl (by kernel_rfl) Try.func6 (by kernel_rfl)
    (of_decide_eq_true (by kernel_rfl)) (by unfold Func.isWrapper; first | (rw [if_pos (by decide +kernel)]; kernel_rfl) | (rw [if_neg (by decide +kernel)]; exact ⟨rfl, rfl⟩))
    (fun os started H enc _ => lifted os started H enc)

/-- The statement. -/
theorem proved : Rows.ContFlipsSaid :=
  over
#print axioms proved
end Go.Proofs.Ytpjcndfamhehlaa.contFlips
