/- WideCompares: wide numbers of numbers are in their order, and a sum is greater by what is above 0; for every input. No condition. -/
import Derived.Test.YtalhaceclfeohaaRows
import Derived.Test.YtalhaceclfeohaaWShown
import Derived.Test.YtalhaceclfeohaaWComp2
import Derived.Test.YtalhaceclfeohaaWRow
import Derived.Deep.DeepCutAuto
namespace Go.Proofs.Ytalhaceclfeohaa.wideCompares
open Go.ChangeShapes Go.WideShapes Go.ChangeAt Go.RowKit Go.Joins

/-- The order of two numbers, as a sign. -/
def ord (n m : Int) : Int := if n < m then -1 else if m < n then 1 else 0
theorem cmp_ord (y z : Int) (h1 : -170141183460469231731687303715884105728 ≤ y) (h2 : y ≤ 170141183460469231731687303715884105727) (k1 : -170141183460469231731687303715884105728 ≤ z) (k2 : z ≤ 170141183460469231731687303715884105727) : cmpW y z = ord y z := by
  unfold cmpW ord
  have ey : wHi y * 18446744073709551616 + wLo y = y := by rw [← wCut_of, wCut_in y h1 h2]
  have ez : wHi z * 18446744073709551616 + wLo z = z := by rw [← wCut_of, wCut_in z k1 k2]
  have := wLo_lo y; have := wLo_up y; have := wLo_lo z; have := wLo_up z
  (repeat' split) <;> omega

set_option maxHeartbeats 8000000 in
theorem walk (n : Int) (h1 : -9223372036854775808 ≤ n) (h2 : n ≤ 9223372036854775807) (m : Int) (k1 : -9223372036854775808 ≤ m) (k2 : m ≤ 9223372036854775807) (z : Int) (z1 : -170141183460469231731687303715884105728 ≤ z) (z2 : z ≤ 170141183460469231731687303715884105727) (w : World) :
    Calls Try.prog 10 #[.int .i64 n, .int .i64 m, (.agg #[.int .i64 (wHi (z)), .int .u64 (wLo (z))])] w fun e w' => e = .returned (.bool true) ∧ Below w.heap.size w w' := by
  have c0 := Blk.new w 24 #[.int .i64 (wHi z), .int .u64 (wLo z)]
  have hA : Below w.heap.size w (w.alloc (.cells #[.int .i64 (wHi z), .int .u64 (wLo z)] 24)) := (Below.refl _ _).alloc (Nat.le_refl _) _
  go_enter Try.func10, Try.ntmps10
  go_wp2_with fail
  refine (shown_any _).mono ?_
  rintro e w1 ⟨rfl, hb⟩
  have b1 := c0.under hb
  have hB1 := hA.trans (hb.mono hA.size)
  clear hb hA c0
  go_upto_if 15 with fail
  go_cut [8] (fun s8 wx => s8 = .int .i64 (ord n m) ∧ wx = w1)
  case first =>
    by_cases a1 : n < m
    · have H : Hid (ord n m = -1) := Lib.hid (if_pos a1)
      go_wp2
      go_meet
      exact ⟨by rw [H.out], rfl⟩
    · by_cases a2 : m < n
      · have H : Hid (ord n m = 1) := Lib.hid (by unfold ord; rw [if_neg a1, if_pos a2])
        go_wp2
        go_meet
        exact ⟨by rw [H.out], rfl⟩
      · have H : Hid (ord n m = 0) := Lib.hid (by unfold ord; rw [if_neg a1, if_neg a2])
        go_wp2
        go_meet
        exact ⟨by rw [H.out], rfl⟩
  case rest =>
    obtain ⟨rfl, rfl⟩ := hcut
    go_upto_region 7 with fail
    have l0 := b1.lt
    have d0 := b1.cell 0; have d1 := b1.cell 1
    go_cut [9] (fun s9 wx => ∃ B, s9 = .pointer (some ⟨B, 0, none⟩) ∧ Blk wx B 24 #[.int .i64 (wHi (z + n)), .int .u64 (wLo (z + n))] ∧ Blk wx w.heap.size 24 #[.int .i64 (wHi z), .int .u64 (wLo z)] ∧ Below w.heap.size w wx)
    case first =>
      have l1 : w.heap.size < wc.drew.heap.size := l0
      go_region_held3 (fun w' => w'.cell? ⟨w.heap.size, 0, none⟩ = some (.int .i64 (wHi z)) ∧ w'.cell? ⟨w.heap.size, 1, none⟩ = some (.int .u64 (wLo z)) ∧ Blk w' w.heap.size 24 #[.int .i64 (wHi z), .int .u64 (wLo z)] ∧ Below w.heap.size w w')
        (first | exact holdB (w := w) (by assumption) (by assumption) | exact holdB_start b1.drew hB1.drew | exact holdB (w := w) (by assumption) ((Below.refl _ _).alloc (Nat.le_refl _) _) | exact holdB_other (w := w) (by assumption) (by omega) (by omega) | exact holdB_set (w := w) (by assumption) (by omega) (by omega))
        (first | (go_at_call 14; refine (add_any _ _ _).mono ?_; rintro e w' ⟨rfl, hb⟩; (have hz := hb.size; (try simp only [World.size_alloc] at hz); first | (have bk := Blk.under (Blk.drew (Blk.new _ _ _)) hb; have bq0 := bk.cell 0; have bq1 := bk.cell 1; have bf0 := bk.frozen 0; have bf1 := bk.frozen 1; dsimp at bq0 bq1) | (have bk := Blk.under (Blk.new _ _ _) hb; have bq0 := bk.cell 0; have bq1 := bk.cell 1; have bf0 := bk.frozen 0; have bf1 := bk.frozen 1; dsimp at bq0 bq1) | (have bk := Blk.under (cs := #[.int .i64 0, .int .u64 0]) (by assumption) hb; have bq0 := bk.cell 0; have bq1 := bk.cell 1; have bf0 := bk.frozen 0; have bf1 := bk.frozen 1; dsimp at bq0 bq1) | skip)) | (go_at_call 24; refine (of_any _ h1 h2 _).mono ?_; rintro e w' ⟨rfl, hb⟩; (have hz := hb.size; (try simp only [World.size_alloc] at hz); first | (have bk := Blk.under (Blk.drew (Blk.new _ _ _)) hb; have bq0 := bk.cell 0; have bq1 := bk.cell 1; have bf0 := bk.frozen 0; have bf1 := bk.frozen 1; dsimp at bq0 bq1) | (have bk := Blk.under (Blk.new _ _ _) hb; have bq0 := bk.cell 0; have bq1 := bk.cell 1; have bf0 := bk.frozen 0; have bf1 := bk.frozen 1; dsimp at bq0 bq1) | (have bk := Blk.under (cs := #[.int .i64 0, .int .u64 0]) (by assumption) hb; have bq0 := bk.cell 0; have bq1 := bk.cell 1; have bf0 := bk.frozen 0; have bf1 := bk.frozen 1; dsimp at bq0 bq1) | skip)))
      all_goals
        go_wp2_with fail
        go_meet
        have hE := holdB_end (w := w) (by assumption)
        first | exact ⟨_, rfl, Blk.new _ _ _, hE.1, hE.2⟩ | exact ⟨_, rfl, (bk.set_ 0 _).set_ 1 _, hE.1, hE.2⟩
    case rest =>
      obtain ⟨B, rfl, b2, b3, hB2⟩ := hcut
      have p0 := b3.cell 0; have p1 := b3.cell 1
      have q0 := b2.cell 0; have q1 := b2.cell 1
      have l2 := b2.lt; have l3 := b3.lt
      dsimp at p0 p1 q0 q1
      by_cases o1 : 4611686018427387904 ≤ wHi z
      · go_upto_if 32 with fail
        go_cut [11] (fun s11 wx => s11 = .int .i64 (ord n 0) ∧ wx = wc)
        case first =>
          by_cases a1 : n < 0
          · have H : Hid (ord n 0 = -1) := Lib.hid (if_pos a1)
            go_wp2
            go_meet
            exact ⟨by rw [H.out], rfl⟩
          · by_cases a2 : 0 < n
            · have H : Hid (ord n 0 = 1) := Lib.hid (by unfold ord; rw [if_neg a1, if_pos a2])
              go_wp2
              go_meet
              exact ⟨by rw [H.out], rfl⟩
            · have H : Hid (ord n 0 = 0) := Lib.hid (by unfold ord; rw [if_neg a1, if_neg a2])
              go_wp2
              go_meet
              exact ⟨by rw [H.out], rfl⟩
        case rest =>
          obtain ⟨rfl, rfl⟩ := hcut
          have e1 : cmpW n m = ord n m := cmp_ord n m (by omega) (by omega) (by omega) (by omega)
          go_wp2_with fail
          refine (of_any n h1 h2 _).mono ?_
          rintro e w4 ⟨rfl, hb4⟩
          go_wp2_with fail
          refine (of_any m k1 k2 _).mono ?_
          rintro e w5 ⟨rfl, hb5⟩
          go_wp2_with fail
          refine (compare_any _ _ _).mono ?_
          rintro e w6 ⟨rfl, hb6⟩
          have b5 := ((b2.under hb4).under hb5).under hb6
          have b6 := ((b3.under hb4).under hb5).under hb6
          have hB4 := hB2.trans (hb4.mono hB2.size)
          have hB5 := hB4.trans (hb5.mono hB4.size)
          have hB6 := hB5.trans (hb6.mono hB5.size)
          go_wp2
          go_ret
          exact ⟨rfl, hB6⟩
      · by_cases o2 : wHi z < -4611686018427387904
        · go_upto_if 32 with fail
          go_cut [11] (fun s11 wx => s11 = .int .i64 (ord n 0) ∧ wx = wc)
          case first =>
            by_cases a1 : n < 0
            · have H : Hid (ord n 0 = -1) := Lib.hid (if_pos a1)
              go_wp2
              go_meet
              exact ⟨by rw [H.out], rfl⟩
            · by_cases a2 : 0 < n
              · have H : Hid (ord n 0 = 1) := Lib.hid (by unfold ord; rw [if_neg a1, if_pos a2])
                go_wp2
                go_meet
                exact ⟨by rw [H.out], rfl⟩
              · have H : Hid (ord n 0 = 0) := Lib.hid (by unfold ord; rw [if_neg a1, if_neg a2])
                go_wp2
                go_meet
                exact ⟨by rw [H.out], rfl⟩
          case rest =>
            obtain ⟨rfl, rfl⟩ := hcut
            have e1 : cmpW n m = ord n m := cmp_ord n m (by omega) (by omega) (by omega) (by omega)
            go_wp2_with fail
            refine (of_any n h1 h2 _).mono ?_
            rintro e w4 ⟨rfl, hb4⟩
            go_wp2_with fail
            refine (of_any m k1 k2 _).mono ?_
            rintro e w5 ⟨rfl, hb5⟩
            go_wp2_with fail
            refine (compare_any _ _ _).mono ?_
            rintro e w6 ⟨rfl, hb6⟩
            have b5 := ((b2.under hb4).under hb5).under hb6
            have b6 := ((b3.under hb4).under hb5).under hb6
            have hB4 := hB2.trans (hb4.mono hB2.size)
            have hB5 := hB4.trans (hb5.mono hB4.size)
            have hB6 := hB5.trans (hb6.mono hB5.size)
            go_wp2
            go_ret
            exact ⟨rfl, hB6⟩
        · go_upto_if 32 with fail
          go_cut [11] (fun s11 wx => s11 = .int .i64 (ord n 0) ∧ wx = wc)
          case first =>
            by_cases a1 : n < 0
            · have H : Hid (ord n 0 = -1) := Lib.hid (if_pos a1)
              go_wp2
              go_meet
              exact ⟨by rw [H.out], rfl⟩
            · by_cases a2 : 0 < n
              · have H : Hid (ord n 0 = 1) := Lib.hid (by unfold ord; rw [if_neg a1, if_pos a2])
                go_wp2
                go_meet
                exact ⟨by rw [H.out], rfl⟩
              · have H : Hid (ord n 0 = 0) := Lib.hid (by unfold ord; rw [if_neg a1, if_neg a2])
                go_wp2
                go_meet
                exact ⟨by rw [H.out], rfl⟩
          case rest =>
            obtain ⟨rfl, rfl⟩ := hcut
            have e2 : cmpW (z + n) z = ord n 0 := by
              have hz : wHi z * 18446744073709551616 + wLo z = z := by rw [← wCut_of, wCut_in z z1 z2]
              have g1 := wLo_lo z
              have g2 := wLo_up z
              rw [cmp_ord (z + n) z (by omega) (by omega) z1 z2]
              unfold ord
              (repeat' split) <;> omega
            have e1 : cmpW n m = ord n m := cmp_ord n m (by omega) (by omega) (by omega) (by omega)
            go_wp2_with fail
            refine (of_any n h1 h2 _).mono ?_
            rintro e w4 ⟨rfl, hb4⟩
            go_wp2_with fail
            refine (of_any m k1 k2 _).mono ?_
            rintro e w5 ⟨rfl, hb5⟩
            go_wp2_with fail
            refine (compare_any _ _ _).mono ?_
            rintro e w6 ⟨rfl, hb6⟩
            have b5 := ((b2.under hb4).under hb5).under hb6
            have b6 := ((b3.under hb4).under hb5).under hb6
            have hB4 := hB2.trans (hb4.mono hB2.size)
            have hB5 := hB4.trans (hb5.mono hB4.size)
            have hB6 := hB5.trans (hb6.mono hB5.size)
            have r0 := b5.cell 0; have r1 := b5.cell 1; have t0 := b6.cell 0; have t1 := b6.cell 1
            dsimp at r0 r1 t0 t1
            go_wp2_with fail
            refine (compare_any _ _ _).mono ?_
            rintro e w7 ⟨rfl, hb7⟩
            go_wp2
            go_ret
            exact ⟨rfl, hB6.trans (hb7.mono hB6.size)⟩

set_option maxRecDepth 100000 in
theorem lifted (os : Os) (started : os.Started) (H : Type) (enc : TypeId × Value → H) :
    ReturnsInHanded {} Try.checked os 10 .any (Rows.wideComparesSpec.pre6 enc Try.prog Try.f10 Rows.wideComparesRow.domain false) (Rows.wideComparesSpec.post enc Try.prog Try.f10 false true false false) := by
  refine returnsInHanded_of_change (C := Try.checked) own started (by kernel_rfl) Try.func10
    (ChangeSpec.witness6 (enc := enc) (C := Try.checked) false ⟨#[], #[.int .i64 0, .int .i64 0, .agg #[.int .i64 0, .int .u64 0]], []⟩ 8 (by kernel_rfl) (by kernel_rfl) (by kernel_rfl) (by kernel_rfl)) ?_
  intro W base args ds gs before hval0 hW hcnd _
  have hval : ∀ (j : Nat) t v, Try.f10.params[j]? = some t → args[j]? = some v → Value.okWide Try.prog W .any base t v := hval0
  have hW' := hW
  obtain ⟨p, q, hA0, hV, rfl, hfz, hnd⟩ := hW
  have hA : DataW.TrodAll enc Try.prog W 0 (fun _ => true) true Try.f10.params.toList args.toList ds p := hA0
  rw [Try.params10] at hA hval
  obtain ⟨v0, vs0, d0, ds0, p0, q0, hargs, rfl, rfl, h0, r0⟩ := trodAll_cons hA
  obtain ⟨v1, vs1, d1, ds1, p1, q1, rfl, rfl, rfl, h1, r1⟩ := trodAll_cons r0
  obtain ⟨v2, vs2, d2, ds2, p2, q2, rfl, rfl, rfl, h2, r2⟩ := trodAll_cons r1
  obtain ⟨rfl, rfl, rfl⟩ := trodAll_nil r2
  obtain rfl : args = #[v0, v1, v2] := by cases args; simp_all
  obtain ⟨rfl, rfl⟩ := trodVars_none hV
  obtain ⟨a0, rfl, rfl, rfl, w0⟩ := open_int Try.underlying2 (hval 0 2 v0 rfl rfl) h0
  obtain ⟨l0, u0⟩ := i64_of_wf w0
  obtain ⟨a1, rfl, rfl, rfl, w1⟩ := open_int Try.underlying2 (hval 1 2 v1 rfl rfl) h1
  obtain ⟨l1, u1⟩ := i64_of_wf w1
  obtain ⟨z2, l2, u2, rfl, rfl, hr2⟩ := open_wide (hval 2 24 v2 rfl rfl) h2
  clear hA0 hval0
  simp only [List.append_nil] at hW'
  refine (walk a0 l0 u0 a1 l1 u1 z2 l2 u2 W).mono fun e W' ⟨he, hg⟩ => ?_
  subst he
  exact ⟨_, rfl, post_below (pa := []) (pv := []) hW' (fun _ _ _ => (trodAll_cons_mk (shut_bool Try.underlying4 _) trodAll_mk0)) (fun sp hsp => (trodAll_cons_mk (shut_int Try.underlying2 w0) (trodAll_cons_mk (shut_int Try.underlying2 w1) (trodAll_cons_mk (hr2 _ _ _ _) trodAll_mk0)))) (fun _ _ => rfl) rfl
    hg (ok_one (by kernel_rfl) rfl (okWide_bool_mk Try.underlying4 _))⟩

theorem over : Rows.wideComparesRow.holds Try.pinned (OpenSpec.ofChange Rows.wideComparesSpec) :=
  OpenClaim.holds_of_wide 10 Try.f10 rfl rfl rfl rfl rfl rfl rfl ⟨rfl, rfl, rfl, rfl, rfl⟩ rfl rfl rfl rfl rfl (by kernel_rfl) Try.func10 (by kernel_rfl)
    (of_decide_eq_true (by kernel_rfl)) (by unfold Func.isWrapper; first | (rw [if_pos (by decide +kernel)]; kernel_rfl) | (rw [if_neg (by decide +kernel)]; exact ⟨rfl, rfl⟩))
    (fun os started H enc _ => lifted os started H enc)

/-- The statement. -/
theorem proved : Rows.WideComparesSaid :=
  over
#print axioms proved
end Go.Proofs.Ytalhaceclfeohaa.wideCompares
