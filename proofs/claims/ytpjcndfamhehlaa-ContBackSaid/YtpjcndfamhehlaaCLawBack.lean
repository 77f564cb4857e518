/- ContBack: numbers are there just if they were put in, and make the container again. No condition beyond the row's. -/
import Derived.Test.YtpjcndfamhehlaaCRow
import Derived.Test.YtpjcndfamhehlaaCLawB
namespace Go.Proofs.Ytpjcndfamhehlaa.contBack
open Go.ChangeShapes Go.WideShapes Go.ChangeAt Go.RowKit Go.Joins

set_option maxRecDepth 100000 in
set_option maxHeartbeats 4000000 in
theorem walk (x0 : Option Addr) (len cap : Nat) (zs : List Int) (hlc : len ≤ cap) (hcm : cap ≤ 9223372036854775807) (hln : zs.length = len) (hz : In64 zs) (form : Int) (lf : -9223372036854775808 ≤ form) (uf : form ≤ 9223372036854775807) (n : Int) (ln : -9223372036854775808 ≤ n) (un : n ≤ 9223372036854775807) (w : World) (hI : Ints w.heap.size w (.slice x0 len cap) zs) :
    Calls Try.prog 5 #[.slice x0 len cap, .int .i64 form, .int .i64 n] w fun e w' => e = .returned (.bool true) ∧ Below w.heap.size w w' := by
  have HM := Lib.hid (fun W h => make_any x0 (min len 300) cap (zs.take 300) (by rw [List.length_take, hln, Nat.min_comm]) (by omega) (in64_take hz 300) W h)
  have HI := Lib.hid (ints_cut hI 300 hln)
  have hlz : (zs.take 300).length = min len 300 := by rw [List.length_take, hln, Nat.min_comm]
  clear hI
  generalize zs.take 300 = zt at *
  by_cases hg : AllGood zt
  · rw [make_good hg] at HM
    have okc := okB_best (n := n) hg
    have HMV := Lib.hid (fun x c W h => make_any x (vals (ofL zt)).length c (zsOf (vals (ofL zt))) (zsOf_length _) (by have := valsTo_le (ofL zt) 256; unfold vals; omega) (in64_zsOf (vals_small _)) W h)
    rw [make_vals] at HMV
    have HA := Lib.hid (fun W => asC_any (bestF (ofL zt) : Nat) okc.ok.1 okc.ok.2.1 (bestD (ofL zt)) okc.ok.2.2 W form lf uf)
    have HX : Hid (¬ form < 1 → ¬ form > 3 → ∃ dx : List UInt8, asCV (bestF (ofL zt) : Nat) (bestD (ofL zt)) form = .tuple #[.agg #[.int .i64 form, .string ⟨dx.toArray⟩], .int .i64 0] ∧ OkB form dx (vals (ofL zt)) n (decide (n ∈ zt)) ∧ (bestD (ofL zt)).length ≤ dx.length) := Lib.hid (fun h1 h3 => by
      obtain ⟨g, rfl⟩ : ∃ g : Nat, form = g := ⟨form.toNat, by omega⟩
      exact ⟨_, as_best (by omega) (by omega), okB_form okc (by omega) (by omega), form_ge (by omega) (by omega)⟩)
    have hmv : (vals (ofL zt)).length ≤ 256 := valsTo_le _ 256
    unfold contV at HA
    generalize asCV (bestF (ofL zt) : Nat) (bestD (ofL zt)) form = ax at *
    generalize bestF (ofL zt) = q at *
    generalize bestD (ofL zt) = dq at *
    obtain ⟨m, hm⟩ : ∃ m, (vals (ofL zt)).length = m := ⟨_, rfl⟩
    rw [hm] at HMV hmv
    generalize vals (ofL zt) = lv at *
    clear hg
    go_enter Try.func5, Try.ntmps5
    go_wp2_with fail
    refine (shown_any _).mono ?_
    rintro e w1 ⟨rfl, hB1⟩
    go_wp2_with fail
    refine (few_any x0 len cap hlc hcm _).mono ?_
    rintro e w' ⟨rfl, rfl⟩
    go_wp2_with fail
    refine (HM.out _ ((HI.out.below hB1).more hB1.size)).mono ?_
    rintro e w2 ⟨rfl, hb2⟩
    have hB2 := hB1.trans (hb2.mono hB1.size)
    have b1 := Blk.new w2 23 #[.int .i64 q, .string ⟨dq.toArray⟩]
    have hB3 := hB2.alloc hB2.size (.cells #[.int .i64 q, .string ⟨dq.toArray⟩] 23)
    clear hB1 hb2 hB2
    have hS0 := show _ ∧ _ ∧ _ ∧ _ from ⟨b1.cell 0, b1.cell 1, b1.lt, hB3⟩
    dsimp at hS0
    clear b1 hB3
    go_wp2
    generalize hW : w2.alloc (.cells #[.int .i64 q, .string ⟨dq.toArray⟩] 23) = W0 at *
    generalize w2.heap.size = g1 at *
    have hBW : Below w.heap.size w W0 := hS0.2.2.2
    clear hW
    go_loopw [10, 11] (fun is i wr => ∃ k : Nat, k ≤ zt.length ∧ is = .bool (decide (n ∈ zt.take k)) ∧ i = .int .i64 k ∧ wr = W0) (fun _ i _ => zt.length - (intOf i).toNat)
    case atStart => exact ⟨0, Nat.zero_le _, by rw [mem_take_none], rfl, rfl⟩
    case round =>
      obtain ⟨k, hk, rfl, rfl, rfl⟩ := hrel
      by_cases hlt : k < zt.length
      · have hlt' : (k : Int) < (min len 300 : Nat) := by omega
        have hnx := mem_take_succ (n := n) hlt
        obtain ⟨b, o, hx, hb, hc⟩ := ((HI.out.below hBW).more hBW.size).at_ (j := k) (by omega)
        clear HMV HA HX hS0 hBW okc
        generalize zt[k]?.getD 0 = z at *
        cases x0 with
        | none => cases hx
        | some a =>
          cases hx
          generalize hd : decide (n ∈ zt.take k) = bk at *
          cases bk
          · rw [Bool.false_or] at hnx
            clear hd
            go_wp2
            go_roundw
            case rel => exact ⟨k + 1, by omega, by rw [hnx]; rfl, by simp, trivial⟩
            case measure => simp [intOf]; omega
          · rw [Bool.true_or] at hnx
            clear hd
            go_wp2
            go_roundw
            case rel => exact ⟨k + 1, by omega, by rw [hnx], by simp, trivial⟩
            case measure => simp [intOf]; omega
      · obtain rfl : k = zt.length := by omega
        have hge : ¬ ((zt.length : Nat) : Int) < (min len 300 : Nat) := by omega
        rw [List.take_length]
        obtain ⟨c0, c1, hl, -⟩ := hS0
        clear HI
        generalize decide (n ∈ zt) = is at *
        have H1 := Lib.hid (vals_b hm _ _ okc)
        have H2 := Lib.hid (count_b hm _ _ okc)
        have H3 := Lib.hid (has_b ln un _ _ okc)
        have H4 := Lib.hid (right_b _ _ okc)
        go_wp2_with fail
        refine (H1.out _).mono ?_
        rintro e w3 ⟨x3, c3, rfl, hI3, hb3⟩
        have hS1 := hold1 (w := w) ⟨c0, c1, hl, hBW⟩ hb3
        clear c0 c1 hl hBW hb3
        obtain ⟨c0, c1, hl, hB⟩ := hS1
        go_wp2_with fail
        refine (HMV.out _ _ _ hI3).mono ?_
        rintro e w4 ⟨rfl, hb4⟩
        have hB4 := hB.trans (hb4.mono hB.size)
        have e4 := Blk.new w4 23 #[.int .i64 q, .string ⟨dq.toArray⟩]
        have hB5 := hB4.alloc hB4.size (.cells #[.int .i64 q, .string ⟨dq.toArray⟩] 23)
        have a0 := cell_below _ (hb4.alloc hb4.size (.cells #[.int .i64 q, .string ⟨dq.toArray⟩] 23)) hl c0
        have a1 := cell_below _ (hb4.alloc hb4.size (.cells #[.int .i64 q, .string ⟨dq.toArray⟩] 23)) hl c1
        have hS2 := show _ ∧ _ ∧ _ ∧ _ ∧ _ ∧ _ ∧ _ from ⟨a0, a1, e4.cell 0, e4.cell 1, Nat.lt_of_lt_of_le hl (hb4.alloc hb4.size (.cells #[.int .i64 q, .string ⟨dq.toArray⟩] 23)).size, e4.lt, hB5⟩
        dsimp at hS2
        clear hB4 e4 hB5 a0 a1 c0 c1 hl hb4 hB hI3 HMV HM
        go_wp2_with fail
        generalize hW : w4.alloc (.cells #[.int .i64 q, .string ⟨dq.toArray⟩] 23) = W4 at *
        generalize w4.heap.size = g2 at *
        clear hW
        refine (H3.out _).mono ?_
        rintro e w5 ⟨rfl, hb5⟩
        have hS3 := hold2 (w := w) hS2 hb5
        clear hS2 hb5
        obtain ⟨c0, c1, d0, d1, hl, hl2, hB⟩ := hS3
        go_wp2_with fail
        refine (H4.out _).mono ?_
        rintro e w6 ⟨rfl, hb6⟩
        have hS4 := hold2 (w := w) ⟨c0, c1, d0, d1, hl, hl2, hB⟩ hb6
        clear hb6 c0 c1 d0 d1 hl hl2 hB
        obtain ⟨c0, c1, -, -, hl, -, hB⟩ := hS4
        by_cases hf1 : form < 1
        · clear HX HA
          go_wp2
          go_ret
          exact ⟨rfl, hB⟩
        by_cases hf3 : form > 3
        · clear HX HA
          go_wp2
          go_ret
          exact ⟨rfl, hB⟩
        obtain ⟨dx, rfl, okx, hlx⟩ := HX.out (by omega) (by omega)
        clear HX
        go_wp2_with fail
        refine (HA.out _).mono ?_
        rintro e w7 ⟨rfl, hb7⟩
        have hB7 := hB.trans (hb7.mono hB.size)
        have e7 := Blk.new w7 23 #[.int .i64 form, .string ⟨dx.toArray⟩]
        have hB8 := hB7.alloc hB7.size (.cells #[.int .i64 form, .string ⟨dx.toArray⟩] 23)
        have a0 := cell_below _ (hb7.alloc hb7.size (.cells #[.int .i64 form, .string ⟨dx.toArray⟩] 23)) hl c0
        have a1 := cell_below _ (hb7.alloc hb7.size (.cells #[.int .i64 form, .string ⟨dx.toArray⟩] 23)) hl c1
        have hS0 := show _ ∧ _ ∧ _ ∧ _ ∧ _ ∧ _ ∧ _ from ⟨a0, a1, e7.cell 0, e7.cell 1, Nat.lt_of_lt_of_le hl (hb7.alloc hb7.size (.cells #[.int .i64 form, .string ⟨dx.toArray⟩] 23)).size, e7.lt, hB8⟩
        dsimp at hS0
        clear hB7 e7 hB8 a0 a1 c0 c1 hl hb7 hB HA H1 H2 H3 H4
        have tlx : ((dx.length : Nat) : Int) ≥ (dq.length : Nat) := by omega
        have hm9 : m ≤ 9223372036854775807 := by omega
        go_wp2
        generalize hW : w7.alloc (.cells #[.int .i64 form, .string ⟨dx.toArray⟩] 23) = W7 at *
        generalize w7.heap.size = g3 at *
        clear hW
        go_region_held3 (fun wr => wr.cell? ⟨g1, 0, none⟩ = some (.int .i64 q) ∧ wr.cell? ⟨g1, 1, none⟩ = some (.string ⟨dq.toArray⟩) ∧ wr.cell? ⟨g3, 0, none⟩ = some (.int .i64 form) ∧ wr.cell? ⟨g3, 1, none⟩ = some (.string ⟨dx.toArray⟩) ∧ g1 < wr.heap.size ∧ g3 < wr.heap.size ∧ Below w.heap.size w wr)
          (first | exact hold2 (w := w) (by assumption) (by assumption) | exact hold2 (w := w) hS0 ((Below.refl _ _).drew) | exact hS0)
          (first | (go_at_call 19; refine (right_b _ _ (by first | exact okx | exact okc) _).mono ?_; rintro e w5 ⟨rfl, hb5⟩) | (go_at_call 22; refine (vals_b hm _ _ (by first | exact okx | exact okc) _).mono ?_; rintro e w5 ⟨x5, c5, rfl, hI5, hb5⟩) | (go_at_call 21; refine (same_any _ _ m _ _ (zsOf lv) hm9 _ (ints_on (by assumption) (by assumption)) (by assumption)).mono ?_; rintro e w5 ⟨rfl, hb5⟩) | (go_at_call 24; refine (has_b ln un _ _ (by first | exact okx | exact okc) _).mono ?_; rintro e w5 ⟨rfl, hb5⟩) | (go_at_call 23; refine (count_b hm _ _ (by first | exact okx | exact okc) _).mono ?_; rintro e w5 ⟨rfl, hb5⟩))
        all_goals
          go_wp2
          go_ret
          exact ⟨rfl, hold2_end (by assumption)⟩
  · rw [make_bad hg] at HM
    have HR := Lib.hid (fun W => right_all_any 0 [] ⟨by decide, by decide, by decide⟩ W)
    rw [decide_eq_false right_none] at HR
    clear hg
    go_enter Try.func5, Try.ntmps5
    go_wp2_with fail
    refine (shown_any _).mono ?_
    rintro e w1 ⟨rfl, hB1⟩
    go_wp2_with fail
    refine (few_any x0 len cap hlc hcm _).mono ?_
    rintro e w' ⟨rfl, rfl⟩
    go_wp2_with fail
    refine (HM.out _ ((HI.out.below hB1).more hB1.size)).mono ?_
    rintro e w2 ⟨rfl, hb2⟩
    have hB2 := hB1.trans (hb2.mono hB1.size)
    have b1 := Blk.new w2 23 #[.int .i64 0, .string ⟨#[]⟩]
    have hB3 := hB2.alloc hB2.size (.cells #[.int .i64 0, .string ⟨#[]⟩] 23)
    clear hB1 hb2 hB2
    have c0 := b1.cell 0; have c1 := b1.cell 1; have hl := b1.lt
    dsimp at c0 c1
    clear b1
    go_wp2_with fail
    refine (HR.out _).mono ?_
    rintro e w4 ⟨rfl, hb4⟩
    go_wp2
    go_ret
    exact ⟨rfl, hB3.trans (hb4.mono hB3.size)⟩
set_option maxRecDepth 100000 in
theorem lifted (os : Os) (started : os.Started) (H : Type) (enc : TypeId × Value → H) :
    ReturnsInHanded {} Try.checked os 5 .any (Rows.contBackSpec.pre6 enc Try.prog Try.f5 Rows.contBackRow.domain false) (Rows.contBackSpec.post enc Try.prog Try.f5 false true false false) := by
  refine returnsInHanded_of_change (C := Try.checked) own started (by kernel_rfl) Try.func5
    (ChangeSpec.witness6 (enc := enc) (C := Try.checked) false ⟨#[], #[.slice none 0 0, .int .i64 0, .int .i64 0], []⟩ 8 (by kernel_rfl) (by kernel_rfl) (by kernel_rfl) (by kernel_rfl)) ?_
  intro W base args ds gs before hval0 hW hcnd _
  have hval : ∀ (j : Nat) t v, Try.f5.params[j]? = some t → args[j]? = some v → Value.okWide Try.prog W .any base t v := hval0
  have hW' := hW
  obtain ⟨p, q, hA0, hV, rfl, hfz, hnd⟩ := hW
  have hA : DataW.TrodAll enc Try.prog W 0 (fun _ => true) true Try.f5.params.toList args.toList ds p := hA0
  rw [Try.params5] at hA hval
  obtain ⟨v0, vs0, d0, ds0, p0, q0, hargs, rfl, rfl, h0, r0⟩ := trodAll_cons hA
  obtain ⟨v1, vs1, d1, ds1, p1, q1, rfl, rfl, rfl, h1, r1⟩ := trodAll_cons r0
  obtain ⟨v2, vs2, d2, ds2, p2, q2, rfl, rfl, rfl, h2, r2⟩ := trodAll_cons r1
  obtain ⟨rfl, rfl, rfl⟩ := trodAll_nil r2
  obtain rfl : args = #[v0, v1, v2] := by cases args; simp_all
  obtain ⟨rfl, rfl⟩ := trodVars_none hV
  obtain ⟨x0, len0, cap0, zs0, rfl, hlc0, hcm0, hln0, hz0, hI0, hr0⟩ := open_numbers (hval 0 24 v0 rfl rfl) h0 (fun q hq => hW'.lt q (by simp [hq]))
  obtain ⟨a1, rfl, rfl, rfl, w1⟩ := open_int Try.underlying3 (hval 1 3 v1 rfl rfl) h1
  obtain ⟨l1, u1⟩ := i64_of_wf w1
  obtain ⟨a2, rfl, rfl, rfl, w2⟩ := open_int Try.underlying3 (hval 2 3 v2 rfl rfl) h2
  obtain ⟨l2, u2⟩ := i64_of_wf w2
  clear hA0 hval0
  simp only [List.append_nil] at hW'
  refine (walk x0 len0 cap0 zs0 hlc0 hcm0 hln0 hz0 a1 l1 u1 a2 l2 u2 W hI0).mono fun e W' ⟨he, hg⟩ => ?_
  subst he
  exact ⟨_, rfl, post_below (pa := _) (pv := []) hW' (fun _ _ _ => (trodAll_cons_mk (shut_bool Try.underlying4 _) trodAll_mk0)) (fun sp hsp => (trodAll_cons_mk (hr0 _ hg sp (fun p hp => hsp p (by simp [hp]))) (trodAll_cons_mk (shut_int Try.underlying3 w1) (trodAll_cons_mk (shut_int Try.underlying3 w2) trodAll_mk0)))) (fun _ _ => rfl) (by simp)
    hg (ok_one (by kernel_rfl) rfl (okWide_bool_mk Try.underlying4 _))⟩

theorem over : Rows.contBackRow.holds Try.pinned (OpenSpec.ofChange Rows.contBackSpec) :=
  OpenClaim.holds_of_wide 5 Try.f5 rfl rfl rfl rfl rfl rfl rfl ⟨rfl, rfl, rfl, rfl, rfl⟩ rfl rfl rfl rfl rfl (by kernel_rfl) Try.func5 (by kernel_rfl)
    (of_decide_eq_true (by kernel_rfl)) (by unfold Func.isWrapper; first | (rw [if_pos (by decide +kernel)]; kernel_rfl) | (rw [if_neg (by decide +kernel)]; exact ⟨rfl, rfl⟩))
    (fun os started H enc _ => lifted os started H enc)

/-- The statement. -/
theorem proved : Rows.ContBackSaid :=
  over
#print axioms proved
end Go.Proofs.Ytpjcndfamhehlaa.contBack
