/- WideBack: what is added and taken away again is what it was; numbers of 64 bits are one to one with theirs; for every input. No condition. -/
import Derived.Test.YtalhaceclfeohaaRows
import Derived.Test.YtalhaceclfeohaaWShown
import Derived.Test.YtalhaceclfeohaaWComp2
import Derived.Test.YtalhaceclfeohaaWRow
namespace Go.Proofs.Ytalhaceclfeohaa.wideBack
open Go.ChangeShapes Go.WideShapes Go.ChangeAt Go.RowKit Go.Joins

theorem toN_of (n : Int) (h1 : -9223372036854775808 ≤ n) (h2 : n ≤ 9223372036854775807) : toN n = n ∧ toE n = 0 := by
  unfold toN toE
  rw [wCut_in n (by omega) (by omega), if_pos ⟨h1, h2⟩, if_pos ⟨h1, h2⟩]
  exact ⟨rfl, rfl⟩
theorem cmp_turn (y z : Int) : cmpW z y = -cmpW y z := by
  unfold cmpW
  by_cases h1 : wHi y < wHi z
  · rw [if_neg (show ¬ wHi z < wHi y by omega), if_pos h1, if_pos h1]; rfl
  · by_cases h2 : wHi z < wHi y
    · rw [if_pos h2, if_neg h1, if_pos h2]
    · rw [if_neg h2, if_neg h1, if_neg h1, if_neg h2]
      by_cases h3 : wLo y < wLo z
      · rw [if_neg (show ¬ wLo z < wLo y by omega), if_pos h3, if_pos h3]; rfl
      · by_cases h4 : wLo z < wLo y
        · rw [if_pos h4, if_neg h3, if_pos h4]
        · rw [if_neg h4, if_neg h3, if_neg h3, if_neg h4]; rfl
theorem cmp_bd (y z : Int) : -1 ≤ cmpW y z ∧ cmpW y z ≤ 1 := by
  unfold cmpW; (repeat' split) <;> omega

set_option maxHeartbeats 4000000 in
theorem walk (y : Int) (_ : -170141183460469231731687303715884105728 ≤ y) (_ : y ≤ 170141183460469231731687303715884105727) (z : Int) (_ : -170141183460469231731687303715884105728 ≤ z) (_ : z ≤ 170141183460469231731687303715884105727)
    (n : Int) (h1 : -9223372036854775808 ≤ n) (h2 : n ≤ 9223372036854775807) (w : World) :
    Calls Try.prog 7 #[(.agg #[.int .i64 (wHi (y)), .int .u64 (wLo (y))]), (.agg #[.int .i64 (wHi (z)), .int .u64 (wLo (z))]), .int .i64 n] w fun e w' => e = .returned (.bool true) ∧ Below w.heap.size w w' := by
  obtain ⟨t1, t2⟩ := toN_of n h1 h2
  obtain ⟨b1, b2⟩ := cmp_bd y z
  have e1 : y + z + -z = y := by omega
  have e2 : z + y = y + z := by omega
  have e3 := cmp_turn y z
  have e4 : IntKind.i64.wrap (cmpW y z) = cmpW y z := by rw [IntKind.wrap_i64]; omega
  go_enter Try.func7, Try.ntmps7
  go_wp2_with fail
  refine (shown_any _).mono ?_
  rintro e w1 ⟨rfl, hb⟩
  go_wp2_with fail
  refine (of_any _ h1 h2 _).mono ?_
  rintro e w2 ⟨rfl, hb2⟩
  go_wp2_with fail
  refine (to_any _ _).mono ?_
  rintro e w3 ⟨rfl, hb3⟩
  have c0 := ((((Blk.new w 24 #[.int .i64 (wHi y), .int .u64 (wLo y)]).alloc (.cells #[.int .i64 (wHi z), .int .u64 (wLo z)] 24)).under hb).under hb2).under hb3
  have c1 := (((Blk.new (w.alloc (.cells #[.int .i64 (wHi y), .int .u64 (wLo y)] 24)) 24 #[.int .i64 (wHi z), .int .u64 (wLo z)]).under hb).under hb2).under hb3
  rw [World.size_alloc] at c1
  have l0 := c0.lt
  have l1 := c1.lt
  have hA : Below w.heap.size w ((w.alloc (.cells #[.int .i64 (wHi y), .int .u64 (wLo y)] 24)).alloc (.cells #[.int .i64 (wHi z), .int .u64 (wLo z)] 24)) := ((Below.refl _ _).alloc (Nat.le_refl _) _).alloc (by simp) _
  have hB := hA.trans (hb.mono hA.size)
  have hB2 := hB.trans (hb2.mono hB.size)
  have hB3 := hB2.trans (hb3.mono hB2.size)
  have d0 := c0.cell 0; have d1 := c0.cell 1
  have f0 := c1.cell 0; have f1 := c1.cell 1
  clear hb hb2 hb3 hA hB hB2
  go_wp2
  go_region_held3 (fun w' => w'.cell? ⟨w.heap.size, 0, none⟩ = some (.int .i64 (wHi y)) ∧ w'.cell? ⟨w.heap.size, 1, none⟩ = some (.int .u64 (wLo y)) ∧ w'.cell? ⟨w.heap.size + 1, 0, none⟩ = some (.int .i64 (wHi z)) ∧ w'.cell? ⟨w.heap.size + 1, 1, none⟩ = some (.int .u64 (wLo z)) ∧ w.heap.size < w'.heap.size ∧ w.heap.size + 1 < w'.heap.size ∧ Below w.heap.size w w')
    (first | exact hold2 (w := w) (by assumption) (by assumption) | exact ⟨d0, d1, f0, f1, l0, l1, hB3.drew⟩)
    (first | (go_at_call 14; refine (add_any _ _ _).mono ?_; rintro e w' ⟨rfl, hb⟩) | (go_at_call 16; refine (neg_any _ _).mono ?_; rintro e w' ⟨rfl, hb⟩) | (go_at_call 18; refine (compare_any _ _ _).mono ?_; rintro e w' ⟨rfl, hb⟩))
  all_goals
    go_wp2
    go_ret
    exact ⟨rfl, hold2_end (by assumption)⟩

set_option maxRecDepth 100000 in
theorem lifted (os : Os) (started : os.Started) (H : Type) (enc : TypeId × Value → H) :
    ReturnsInHanded {} Try.checked os 7 .any (Rows.wideBackSpec.pre6 enc Try.prog Try.f7 Rows.wideBackRow.domain false) (Rows.wideBackSpec.post enc Try.prog Try.f7 false true false false) := by
  refine returnsInHanded_of_change (C := Try.checked) own started (by kernel_rfl) Try.func7
    (ChangeSpec.witness6 (enc := enc) (C := Try.checked) false ⟨#[], #[.agg #[.int .i64 0, .int .u64 0], .agg #[.int .i64 0, .int .u64 0], .int .i64 0], []⟩ 8 (by kernel_rfl) (by kernel_rfl) (by kernel_rfl) (by kernel_rfl)) ?_
  intro W base args ds gs before hval0 hW hcnd _
  have hval : ∀ (j : Nat) t v, Try.f7.params[j]? = some t → args[j]? = some v → Value.okWide Try.prog W .any base t v := hval0
  have hW' := hW
  obtain ⟨p, q, hA0, hV, rfl, hfz, hnd⟩ := hW
  have hA : DataW.TrodAll enc Try.prog W 0 (fun _ => true) true Try.f7.params.toList args.toList ds p := hA0
  rw [Try.params7] at hA hval
  obtain ⟨v0, vs0, d0, ds0, p0, q0, hargs, rfl, rfl, h0, r0⟩ := trodAll_cons hA
  obtain ⟨v1, vs1, d1, ds1, p1, q1, rfl, rfl, rfl, h1, r1⟩ := trodAll_cons r0
  obtain ⟨v2, vs2, d2, ds2, p2, q2, rfl, rfl, rfl, h2, r2⟩ := trodAll_cons r1
  obtain ⟨rfl, rfl, rfl⟩ := trodAll_nil r2
  obtain rfl : args = #[v0, v1, v2] := by cases args; simp_all
  obtain ⟨rfl, rfl⟩ := trodVars_none hV
  obtain ⟨z0, l0, u0, rfl, rfl, hr0⟩ := open_wide (hval 0 24 v0 rfl rfl) h0
  obtain ⟨z1, l1, u1, rfl, rfl, hr1⟩ := open_wide (hval 1 24 v1 rfl rfl) h1
  obtain ⟨a2, rfl, rfl, rfl, w2⟩ := open_int Try.underlying2 (hval 2 2 v2 rfl rfl) h2
  obtain ⟨l2, u2⟩ := i64_of_wf w2
  clear hA0 hval0
  simp only [List.append_nil] at hW'
  refine (walk z0 l0 u0 z1 l1 u1 a2 l2 u2 W).mono fun e W' ⟨he, hg⟩ => ?_
  subst he
  exact ⟨_, rfl, post_below (pa := []) (pv := []) hW' (fun _ _ _ => (trodAll_cons_mk (shut_bool Try.underlying4 _) trodAll_mk0)) (fun sp hsp => (trodAll_cons_mk (hr0 _ _ _ _) (trodAll_cons_mk (hr1 _ _ _ _) (trodAll_cons_mk (shut_int Try.underlying2 w2) trodAll_mk0)))) (fun _ _ => rfl) rfl
    hg (ok_one (by kernel_rfl) rfl (okWide_bool_mk Try.underlying4 _))⟩

theorem over : Rows.wideBackRow.holds Try.pinned (OpenSpec.ofChange Rows.wideBackSpec) :=
  OpenClaim.holds_of_wide 7 Try.f7 rfl rfl rfl rfl rfl rfl rfl ⟨rfl, rfl, rfl, rfl, rfl⟩ rfl rfl rfl rfl rfl (by kernel_rfl) Try.func7 (by kernel_rfl)
    (of_decide_eq_true (by kernel_rfl)) (by unfold Func.isWrapper; first | (rw [if_pos (by decide +kernel)]; kernel_rfl) | (rw [if_neg (by decide +kernel)]; exact ⟨rfl, rfl⟩))
    (fun os started H enc _ => lifted os started H enc)

/-- The statement. -/
theorem proved : Rows.WideBackSaid :=
  over
#print axioms proved
end Go.Proofs.Ytalhaceclfeohaa.wideBack
