/- ContPlaces: the number of a place has that rank, and one. No condition beyond the row's. -/
import Derived.Test.YtpjcndfamhehlaaCRow
import Derived.Test.YtpjcndfamhehlaaCLawR
namespace Go.Proofs.Ytpjcndfamhehlaa.contPlaces
open Go.ChangeShapes Go.WideShapes Go.ChangeAt Go.RowKit Go.Joins

set_option maxRecDepth 100000 in
set_option maxHeartbeats 4000000 in
theorem walk (x0 : Option Addr) (len cap : Nat) (zs : List Int) (hlc : len ≤ cap) (hcm : cap ≤ 9223372036854775807) (hln : zs.length = len) (hz : In64 zs) (p : Int) (lp : -9223372036854775808 ≤ p) (up : p ≤ 9223372036854775807) (w : World) (hI : Ints w.heap.size w (.slice x0 len cap) zs) :
    Calls Try.prog 8 #[.slice x0 len cap, .int .i64 p] w fun e w' => e = .returned (.bool true) ∧ Below w.heap.size w w' := by
  have HM := Lib.hid (fun W h => make_any x0 (min len 300) cap (zs.take 300) (by rw [List.length_take, hln, Nat.min_comm]) (by omega) (in64_take hz 300) W h)
  have HI := Lib.hid (ints_cut hI 300 hln)
  clear hI
  generalize zs.take 300 = zt at *
  by_cases hg : AllGood zt
  · rw [make_good hg] at HM
    have ok := okC_best (ofL zt)
    have HS := Lib.hid (fun W => select_all_any _ _ ok p W)
    have HC := Lib.hid (fun W => count_all_any _ _ ok W)
    have HR := Lib.hid (fun n W => rank_all_any _ _ ok n W)
    have HH := Lib.hid (fun n h1 h2 W => has_all_any _ _ ok n h1 h2 W)
    have hv : (vals (readS (bestF (ofL zt) : Nat) (bestD (ofL zt)))).length ≤ 256 := valsTo_le _ 256
    generalize readS (bestF (ofL zt) : Nat) (bestD (ofL zt)) = s at *
    generalize bestF (ofL zt) = q at *
    generalize bestD (ofL zt) = dq at *
    clear hg ok
    by_cases h0 : p < 0
    · rw [sel_out (.inl h0)] at HS
      generalize (vals s).length = c at *
      go_enter Try.func8, Try.ntmps8
      go_wp2_with fail
      refine (shown_any _).mono ?_
      rintro e w1 ⟨rfl, hB1⟩
      go_wp2_with fail
      refine (few_any x0 len cap hlc hcm _).mono ?_
      rintro e w' ⟨rfl, rfl⟩
      go_wp2_with fail
      refine (HM.out _ ((HI.out.below hB1).more hB1.size)).mono ?_
      rintro e w2 ⟨rfl, hb2⟩
      have hB2 := hB1.trans (hb2.mono hB1.size)
      have b1 := Blk.new w2 23 #[.int .i64 q, .string ⟨dq.toArray⟩]
      have hB3 := hB2.alloc hB2.size (.cells #[.int .i64 q, .string ⟨dq.toArray⟩] 23)
      clear hB1 hb2 hB2
      go_wp2_with fail
      refine (HS.out _).mono ?_
      rintro e w3 ⟨rfl, hb3⟩
      have hB4 := hB3.trans (hb3.mono hB3.size)
      have b2 := b1.under hb3
      have c0 := b2.cell 0; have c1 := b2.cell 1
      have hl := b2.lt
      dsimp at c0 c1
      clear hb3 b1 hB3
      clear b2
      go_wp2
      go_ret
      exact ⟨rfl, hB4⟩
    by_cases h1 : ((vals s).length : Int) ≤ p
    · rw [sel_out (.inr h1)] at HS
      generalize (vals s).length = c at *
      go_enter Try.func8, Try.ntmps8
      go_wp2_with fail
      refine (shown_any _).mono ?_
      rintro e w1 ⟨rfl, hB1⟩
      go_wp2_with fail
      refine (few_any x0 len cap hlc hcm _).mono ?_
      rintro e w' ⟨rfl, rfl⟩
      go_wp2_with fail
      refine (HM.out _ ((HI.out.below hB1).more hB1.size)).mono ?_
      rintro e w2 ⟨rfl, hb2⟩
      have hB2 := hB1.trans (hb2.mono hB1.size)
      have b1 := Blk.new w2 23 #[.int .i64 q, .string ⟨dq.toArray⟩]
      have hB3 := hB2.alloc hB2.size (.cells #[.int .i64 q, .string ⟨dq.toArray⟩] 23)
      clear hB1 hb2 hB2
      go_wp2_with fail
      refine (HS.out _).mono ?_
      rintro e w3 ⟨rfl, hb3⟩
      have hB4 := hB3.trans (hb3.mono hB3.size)
      have b2 := b1.under hb3
      have c0 := b2.cell 0; have c1 := b2.cell 1
      have hl := b2.lt
      dsimp at c0 c1
      clear hb3 b1 hB3
      clear b2
      go_wp2_with (go_at_call 23; refine (HC.out _).mono ?_; rintro e w4 ⟨rfl, hb4⟩)
      go_ret
      exact ⟨rfl, hB4.trans (hb4.mono hB4.size)⟩
    obtain ⟨n, g1, g2, g3, g4, g5⟩ := sel_in (s := s) (p := p) (by omega) (by omega)
    rw [g3] at HS
    have HH1 := Lib.hid (HH.out n (by omega) (by omega))
    rw [good_nat g1, Int.toNat_natCast, g2] at HH1
    have HR1 := Lib.hid (HR.out n)
    have HR2 := Lib.hid (HR.out ((n : Int) - 1))
    rw [g4] at HR1
    rw [g5] at HR2
    generalize (vals s).length = c at *
    clear g2 g3 g4 g5 HH HR
    go_enter Try.func8, Try.ntmps8
    go_wp2_with fail
    refine (shown_any _).mono ?_
    rintro e w1 ⟨rfl, hB1⟩
    go_wp2_with fail
    refine (few_any x0 len cap hlc hcm _).mono ?_
    rintro e w' ⟨rfl, rfl⟩
    go_wp2_with fail
    refine (HM.out _ ((HI.out.below hB1).more hB1.size)).mono ?_
    rintro e w2 ⟨rfl, hb2⟩
    have hB2 := hB1.trans (hb2.mono hB1.size)
    have b1 := Blk.new w2 23 #[.int .i64 q, .string ⟨dq.toArray⟩]
    have hB3 := hB2.alloc hB2.size (.cells #[.int .i64 q, .string ⟨dq.toArray⟩] 23)
    clear hB1 hb2 hB2
    go_wp2_with fail
    refine (HS.out _).mono ?_
    rintro e w3 ⟨rfl, hb3⟩
    have hB4 := hB3.trans (hb3.mono hB3.size)
    have b2 := b1.under hb3
    have c0 := b2.cell 0; have c1 := b2.cell 1
    have hl := b2.lt
    dsimp at c0 c1
    clear hb3 b1 hB3
    go_wp2_with (go_at_call 23; refine (HC.out _).mono ?_; rintro e w4 ⟨rfl, hb4⟩; have hB5 := hB4.trans (hb4.mono hB4.size); have b3 := b2.under hb4; have c0 := b3.cell 0; have c1 := b3.cell 1; have hl := b3.lt; dsimp at c0 c1; clear hb4)
    refine (HH1.out _).mono ?_
    rintro e w5 ⟨rfl, hb5⟩
    have hB6 := hB5.trans (hb5.mono hB5.size)
    have b4 := b3.under hb5
    have c0 := b4.cell 0; have c1 := b4.cell 1
    have hl := b4.lt
    dsimp at c0 c1
    clear hb5 b3 hB5
    go_wp2_with fail
    refine (HR1.out _).mono ?_
    rintro e w6 ⟨rfl, hb6⟩
    have hB7 := hB6.trans (hb6.mono hB6.size)
    have b5 := b4.under hb6
    have c0 := b5.cell 0; have c1 := b5.cell 1
    have hl := b5.lt
    dsimp at c0 c1
    clear hb6 b4 hB6
    go_wp2_with fail
    refine (HR2.out _).mono ?_
    rintro e w7 ⟨rfl, hb7⟩
    have hB8 := hB7.trans (hb7.mono hB7.size)
    clear b5
    go_wp2
    go_ret
    exact ⟨rfl, hB8⟩
  · rw [make_bad hg] at HM
    have HS := Lib.hid (fun W => select_all_any _ _ okC_zero p W)
    rw [read_none, sel_out (by rw [vals_none]; simp; omega)] at HS
    clear hg
    go_enter Try.func8, Try.ntmps8
    go_wp2_with fail
    refine (shown_any _).mono ?_
    rintro e w1 ⟨rfl, hB1⟩
    go_wp2_with fail
    refine (few_any x0 len cap hlc hcm _).mono ?_
    rintro e w' ⟨rfl, rfl⟩
    go_wp2_with fail
    refine (HM.out _ ((HI.out.below hB1).more hB1.size)).mono ?_
    rintro e w2 ⟨rfl, hb2⟩
    have hB2 := hB1.trans (hb2.mono hB1.size)
    have b1 := Blk.new w2 23 #[.int .i64 0, .string ⟨#[]⟩]
    have hB3 := hB2.alloc hB2.size (.cells #[.int .i64 0, .string ⟨#[]⟩] 23)
    clear hB1 hb2 hB2
    go_wp2_with fail
    refine (HS.out _).mono ?_
    rintro e w3 ⟨rfl, hb3⟩
    have hB4 := hB3.trans (hb3.mono hB3.size)
    have b2 := b1.under hb3
    have c0 := b2.cell 0; have c1 := b2.cell 1
    have hl := b2.lt
    dsimp at c0 c1
    clear hb3 b1 hB3
    clear b2
    go_wp2
    go_ret
    exact ⟨rfl, hB4⟩
set_option maxRecDepth 100000 in
theorem lifted (os : Os) (started : os.Started) (H : Type) (enc : TypeId × Value → H) :
    ReturnsInHanded {} Try.checked os 8 .any (Rows.contPlacesSpec.pre6 enc Try.prog Try.f8 Rows.contPlacesRow.domain false) (Rows.contPlacesSpec.post enc Try.prog Try.f8 false true false false) := by
  refine returnsInHanded_of_change (C := Try.checked) own started (by kernel_rfl) Try.func8
    (ChangeSpec.witness6 (enc := enc) (C := Try.checked) false ⟨#[], #[.slice none 0 0, .int .i64 0], []⟩ 8 (by kernel_rfl) (by kernel_rfl) (by kernel_rfl) (by kernel_rfl)) ?_
  intro W base args ds gs before hval0 hW hcnd _
  have hval : ∀ (j : Nat) t v, Try.f8.params[j]? = some t → args[j]? = some v → Value.okWide Try.prog W .any base t v := hval0
  have hW' := hW
  obtain ⟨p, q, hA0, hV, rfl, hfz, hnd⟩ := hW
  have hA : DataW.TrodAll enc Try.prog W 0 (fun _ => true) true Try.f8.params.toList args.toList ds p := hA0
  rw [Try.params8] at hA hval
  obtain ⟨v0, vs0, d0, ds0, p0, q0, hargs, rfl, rfl, h0, r0⟩ := trodAll_cons hA
  obtain ⟨v1, vs1, d1, ds1, p1, q1, rfl, rfl, rfl, h1, r1⟩ := trodAll_cons r0
  obtain ⟨rfl, rfl, rfl⟩ := trodAll_nil r1
  obtain rfl : args = #[v0, v1] := by cases args; simp_all
  obtain ⟨rfl, rfl⟩ := trodVars_none hV
  obtain ⟨x0, len0, cap0, zs0, rfl, hlc0, hcm0, hln0, hz0, hI0, hr0⟩ := open_numbers (hval 0 24 v0 rfl rfl) h0 (fun q hq => hW'.lt q (by simp [hq]))
  obtain ⟨a1, rfl, rfl, rfl, w1⟩ := open_int Try.underlying3 (hval 1 3 v1 rfl rfl) h1
  obtain ⟨l1, u1⟩ := i64_of_wf w1
  clear hA0 hval0
  simp only [List.append_nil] at hW'
  refine (walk x0 len0 cap0 zs0 hlc0 hcm0 hln0 hz0 a1 l1 u1 W hI0).mono fun e W' ⟨he, hg⟩ => ?_
  subst he
  exact ⟨_, rfl, post_below (pa := _) (pv := []) hW' (fun _ _ _ => (trodAll_cons_mk (shut_bool Try.underlying4 _) trodAll_mk0)) (fun sp hsp => (trodAll_cons_mk (hr0 _ hg sp (fun p hp => hsp p (by simp [hp]))) (trodAll_cons_mk (shut_int Try.underlying3 w1) trodAll_mk0))) (fun _ _ => rfl) (by simp)
    hg (ok_one (by kernel_rfl) rfl (okWide_bool_mk Try.underlying4 _))⟩

theorem over : Rows.contPlacesRow.holds Try.pinned (OpenSpec.ofChange Rows.contPlacesSpec) :=
  OpenClaim.holds_of_wide 8 Try.f8 rfl rfl rfl rfl rfl rfl rfl ⟨rfl, rfl, rfl, rfl, rfl⟩ rfl rfl rfl rfl rfl (by kernel_rfl) Try.func8 (by kernel_rfl)
    (of_decide_eq_true (by kernel_rfl)) (by unfold Func.isWrapper; first | (rw [if_pos (by decide +kernel)]; kernel_rfl) | (rw [if_neg (by decide +kernel)]; exact ⟨rfl, rfl⟩))
    (fun os started H enc _ => lifted os started H enc)

/-- The statement. -/
theorem proved : Rows.ContPlacesSaid :=
  over
#print axioms proved
end Go.Proofs.Ytpjcndfamhehlaa.contPlaces
