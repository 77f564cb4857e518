/- ContSizes: a container in its best form has at most thirty-two bytes, and no more than numbers; all numbers have two, none has none. No condition beyond the row's. -/
import Derived.Test.YtpjcndfamhehlaaCRow
import Derived.Test.YtpjcndfamhehlaaCLawM
namespace Go.Proofs.Ytpjcndfamhehlaa.contSizes
open Go.ChangeShapes Go.WideShapes Go.ChangeAt Go.RowKit Go.Joins

theorem flip_all : flipV 1 [] 0 256 = .tuple #[contV 3 [0, 255], .int .i64 0] := by
  have hr : RightC 1 [] := by decide +kernel
  have hf : bestF (flipS (setOf (1 : Int).toNat []) 0 256) = 3 := by decide +kernel
  have hd : bestD (flipS (setOf (1 : Int).toNat []) 0 256) = [0, 255] := by decide +kernel
  unfold flipV
  rw [if_pos ⟨hr, by decide, by decide, by decide, by decide⟩, hf, hd]; rfl
theorem count_all : (vals (readS 3 [0, 255])).length = 256 := by
  have hr : RightC 3 [0, 255] := by decide +kernel
  unfold readS
  rw [if_pos hr]
  decide +kernel
theorem make_nil : makeV [] = .tuple #[contV 1 [], .int .i64 0] := by
  have h : ∀ z ∈ ([] : List Int), goodZ z = true := by decide
  have hf : bestF (ofL []) = 1 := by decide +kernel
  have hd : bestD (ofL []) = [] := by decide +kernel
  unfold makeV
  rw [if_pos h, hf, hd]; rfl
set_option maxRecDepth 100000 in
set_option maxHeartbeats 4000000 in
theorem walk (x0 : Option Addr) (len cap : Nat) (zs : List Int) (hlc : len ≤ cap) (hcm : cap ≤ 9223372036854775807) (hln : zs.length = len) (hz : In64 zs) (w : World) (hI : Ints w.heap.size w (.slice x0 len cap) zs) :
    Calls Try.prog 10 #[.slice x0 len cap] w fun e w' => e = .returned (.bool true) ∧ Below w.heap.size w w' := by
  have HM := Lib.hid (fun W h => make_any x0 (min len 300) cap (zs.take 300) (by rw [List.length_take, hln, Nat.min_comm]) (by omega) (in64_take hz 300) W h)
  have HI := Lib.hid (ints_cut hI 300 hln)
  have HF := Lib.hid (fun W => flip_any 1 (by decide) (by decide) [] (by decide) 0 256 W)
  rw [flip_all] at HF
  have HN := Lib.hid (fun W => make_any none 0 0 [] rfl (by decide) (fun j => by simp) W (.inl ⟨⟨none, 0, rfl⟩, rfl⟩))
  rw [make_nil] at HN
  unfold contV at HF HN
  clear hI
  generalize zs.take 300 = zt at *
  by_cases hg : AllGood zt
  · rw [make_good hg] at HM
    have ok1 := okC_best (ofL zt)
    have ok2 : OkC 3 [0, 255] := ⟨by decide, by decide, by decide⟩
    have hv1 := congrArg List.length (vals_congr (read_best (ofL zt)))
    have hv3 := count_all
    have h32 := best_32 (ofL zt)
    have hcn := best_count (ofL zt)
    have hv := valsTo_le (ofL zt) 256
    have hv2 : (vals (ofL zt)).length ≤ 256 := hv
    generalize (vals (ofL zt)).length = c at *
    generalize bestF (ofL zt) = q at *
    generalize bestD (ofL zt) = dq at *
    have t32 : (dq.length : Int) ≤ 32 := by omega
    have tcn : (dq.length : Int) ≤ c := by omega
    clear hv hg
    go_enter Try.func10, Try.ntmps10
    go_wp2_with fail
    refine (shown_any _).mono ?_
    rintro e w1 ⟨rfl, hB1⟩
    go_wp2_with fail
    refine (few_any x0 len cap hlc hcm _).mono ?_
    rintro e w' ⟨rfl, rfl⟩
    go_wp2_with fail
    refine (HM.out _ ((HI.out.below hB1).more hB1.size)).mono ?_
    rintro e w2 ⟨rfl, hb2⟩
    have hB2 := hB1.trans (hb2.mono hB1.size)
    have b1 := Blk.new w2 23 #[.int .i64 q, .string ⟨dq.toArray⟩]
    have hB3 := hB2.alloc hB2.size (.cells #[.int .i64 q, .string ⟨dq.toArray⟩] 23)
    clear hB1 hb2 hB2
    go_wp2_with fail
    refine (HF.out _).mono ?_
    rintro e w3 ⟨rfl, hb3⟩
    have hB4 := hB3.trans (hb3.mono hB3.size)
    have b2 := (b1.under hb3).alloc (.cells #[.int .i64 3, .string ⟨#[0, 255]⟩] 23)
    have d2 := Blk.new w3 23 #[.int .i64 3, .string ⟨#[0, 255]⟩]
    have hB5 := hB4.alloc hB4.size (.cells #[.int .i64 3, .string ⟨#[0, 255]⟩] 23)
    clear hb3 hB4 b1 hB3
    go_wp2_with fail
    refine (HN.out _).mono ?_
    rintro e w4 ⟨rfl, hb4⟩
    have hB6 := hB5.trans (hb4.mono hB5.size)
    have b3 := b2.under hb4
    have d3 := d2.under hb4
    have hB7 := hB6.alloc hB6.size (.cells #[.int .i64 1, .string ⟨#[]⟩] 23)
    have hl := b3.lt; have hl2 := d3.lt
    have B3 := Lib.hid b3; have D3 := Lib.hid d3; have HB7 := Lib.hid hB7
    have c0 := b3.cell 0; have c1 := b3.cell 1; have d0 := d3.cell 0; have d1 := d3.cell 1
    dsimp at c0 c1 d0 d1
    clear b2 d2 b3 d3 hb4 hB5 hB6 hB7
    have e3 := Blk.new w4 23 #[.int .i64 1, .string ⟨#[]⟩]
    have b4 := B3.out.alloc (.cells #[.int .i64 1, .string ⟨#[]⟩] 23)
    have d4 := D3.out.alloc (.cells #[.int .i64 1, .string ⟨#[]⟩] 23)
    have hS0 := show _ ∧ _ ∧ _ ∧ _ ∧ _ ∧ _ ∧ _ ∧ _ ∧ _ ∧ _ from ⟨b4.cell 0, b4.cell 1, d4.cell 0, d4.cell 1, e3.cell 0, e3.cell 1, b4.lt, d4.lt, e3.lt, HB7.out⟩
    clear c0 c1 d0 d1 e3 b4 d4
    dsimp at hS0
    go_wp2
    generalize w2.heap.size = g1 at *
    generalize w3.heap.size = g2 at *
    generalize hW : w4.alloc (.cells #[.int .i64 1, .string ⟨#[]⟩] 23) = W0 at *
    generalize w4.heap.size = g3 at *
    clear hW HB7 B3 D3 hl hl2
    go_region_held3 (fun W => W.cell? ⟨g1, 0, none⟩ = some (.int .i64 q) ∧ W.cell? ⟨g1, 1, none⟩ = some (.string ⟨dq.toArray⟩) ∧ W.cell? ⟨g2, 0, none⟩ = some (.int .i64 3) ∧ W.cell? ⟨g2, 1, none⟩ = some (.string ⟨#[0, 255]⟩) ∧ W.cell? ⟨g3, 0, none⟩ = some (.int .i64 1) ∧ W.cell? ⟨g3, 1, none⟩ = some (.string ⟨#[]⟩) ∧ g1 < W.heap.size ∧ g2 < W.heap.size ∧ g3 < W.heap.size ∧ Below w.heap.size w W)
      (first | exact hold6 (by assumption) (by assumption) | exact hold6 hS0 ((Below.refl _ W0).drew) | exact hS0)
      (first | (go_at_call 23; refine (count_all_any _ _ (by first | exact ok1 | exact ok2) _).mono ?_; rintro e w5 ⟨rfl, hb5⟩))
    all_goals
      go_wp2
      go_ret
      exact ⟨rfl, hold6_end (by assumption)⟩
  · rw [make_bad hg] at HM
    clear hg
    go_enter Try.func10, Try.ntmps10
    go_wp2_with fail
    refine (shown_any _).mono ?_
    rintro e w1 ⟨rfl, hB1⟩
    go_wp2_with fail
    refine (few_any x0 len cap hlc hcm _).mono ?_
    rintro e w' ⟨rfl, rfl⟩
    go_wp2_with fail
    refine (HM.out _ ((HI.out.below hB1).more hB1.size)).mono ?_
    rintro e w2 ⟨rfl, hb2⟩
    have hB2 := hB1.trans (hb2.mono hB1.size)
    have b1 := Blk.new w2 23 #[.int .i64 0, .string ⟨#[]⟩]
    have hB3 := hB2.alloc hB2.size (.cells #[.int .i64 0, .string ⟨#[]⟩] 23)
    clear hB1 hb2 hB2
    go_wp2_with fail
    refine (HF.out _).mono ?_
    rintro e w3 ⟨rfl, hb3⟩
    have hB4 := hB3.trans (hb3.mono hB3.size)
    have b2 := (b1.under hb3).alloc (.cells #[.int .i64 3, .string ⟨#[0, 255]⟩] 23)
    have d2 := Blk.new w3 23 #[.int .i64 3, .string ⟨#[0, 255]⟩]
    have hB5 := hB4.alloc hB4.size (.cells #[.int .i64 3, .string ⟨#[0, 255]⟩] 23)
    clear hb3 hB4 b1 hB3
    go_wp2_with fail
    refine (HN.out _).mono ?_
    rintro e w4 ⟨rfl, hb4⟩
    have hB6 := hB5.trans (hb4.mono hB5.size)
    have b3 := b2.under hb4
    have d3 := d2.under hb4
    have hB7 := hB6.alloc hB6.size (.cells #[.int .i64 1, .string ⟨#[]⟩] 23)
    have hl := b3.lt; have hl2 := d3.lt
    have B3 := Lib.hid b3; have D3 := Lib.hid d3; have HB7 := Lib.hid hB7
    have c0 := b3.cell 0; have c1 := b3.cell 1; have d0 := d3.cell 0; have d1 := d3.cell 1
    dsimp at c0 c1 d0 d1
    clear b2 d2 b3 d3 hb4 hB5 hB6 hB7
    go_wp2
    go_ret
    exact ⟨rfl, HB7.out⟩
set_option maxRecDepth 100000 in
theorem lifted (os : Os) (started : os.Started) (H : Type) (enc : TypeId × Value → H) :
    ReturnsInHanded {} Try.checked os 10 .any (Rows.contSizesSpec.pre6 enc Try.prog Try.f10 Rows.contSizesRow.domain false) (Rows.contSizesSpec.post enc Try.prog Try.f10 false true false false) := by
  refine returnsInHanded_of_change (C := Try.checked) own started (by kernel_rfl) Try.func10
    (ChangeSpec.witness6 (enc := enc) (C := Try.checked) false ⟨#[], #[.slice none 0 0], []⟩ 8 (by kernel_rfl) (by kernel_rfl) (by kernel_rfl) (by kernel_rfl)) ?_
  intro W base args ds gs before hval0 hW hcnd _
  have hval : ∀ (j : Nat) t v, Try.f10.params[j]? = some t → args[j]? = some v → Value.okWide Try.prog W .any base t v := hval0
  have hW' := hW
  obtain ⟨p, q, hA0, hV, rfl, hfz, hnd⟩ := hW
  have hA : DataW.TrodAll enc Try.prog W 0 (fun _ => true) true Try.f10.params.toList args.toList ds p := hA0
  rw [Try.params10] at hA hval
  obtain ⟨v0, vs0, d0, ds0, p0, q0, hargs, rfl, rfl, h0, r0⟩ := trodAll_cons hA
  obtain ⟨rfl, rfl, rfl⟩ := trodAll_nil r0
  obtain rfl : args = #[v0] := by cases args; simp_all
  obtain ⟨rfl, rfl⟩ := trodVars_none hV
  obtain ⟨x0, len0, cap0, zs0, rfl, hlc0, hcm0, hln0, hz0, hI0, hr0⟩ := open_numbers (hval 0 24 v0 rfl rfl) h0 (fun q hq => hW'.lt q (by simp [hq]))
  clear hA0 hval0
  simp only [List.append_nil] at hW'
  refine (walk x0 len0 cap0 zs0 hlc0 hcm0 hln0 hz0 W hI0).mono fun e W' ⟨he, hg⟩ => ?_
  subst he
  exact ⟨_, rfl, post_below (pa := _) (pv := []) hW' (fun _ _ _ => (trodAll_cons_mk (shut_bool Try.underlying4 _) trodAll_mk0)) (fun sp hsp => (trodAll_cons_mk (hr0 _ hg sp (fun p hp => hsp p (by simp [hp]))) trodAll_mk0)) (fun _ _ => rfl) (by simp)
    hg (ok_one (by kernel_rfl) rfl (okWide_bool_mk Try.underlying4 _))⟩

theorem over : Rows.contSizesRow.holds Try.pinned (OpenSpec.ofChange Rows.contSizesSpec) :=
  OpenClaim.holds_of_wide 10 Try.f10 rfl rfl rfl rfl rfl rfl rfl ⟨rfl, rfl, rfl, rfl, rfl⟩ rfl rfl rfl rfl rfl (by kernel_rfl) Try.func10 (by kernel_rfl)
    (of_decide_eq_true (by kernel_rfl)) (by unfold Func.isWrapper; first | (rw [if_pos (by decide +kernel)]; kernel_rfl) | (rw [if_neg (by decide +kernel)]; exact ⟨rfl, rfl⟩))
    (fun os started H enc _ => lifted os started H enc)

/-- The statement. -/
theorem proved : Rows.ContSizesSaid :=
  over
#print axioms proved
end Go.Proofs.Ytpjcndfamhehlaa.contSizes
