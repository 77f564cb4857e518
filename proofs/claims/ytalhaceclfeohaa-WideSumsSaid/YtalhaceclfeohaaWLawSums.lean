/- WideSums: sums, turned numbers, the order and the number of 64 bits of any two wide numbers are the document's. No condition. -/
import Derived.Test.YtalhaceclfeohaaRows
import Derived.Test.YtalhaceclfeohaaWShown
import Derived.Test.YtalhaceclfeohaaWComp2
import Derived.Test.YtalhaceclfeohaaWRefB
import Derived.Test.YtalhaceclfeohaaWRefC
import Derived.Test.YtalhaceclfeohaaWRow
namespace Go.Proofs.Ytalhaceclfeohaa.wideSums
open Go.ChangeShapes Go.WideShapes Go.ChangeAt Go.RowKit Go.Joins

set_option maxHeartbeats 8000000 in
theorem walk (y : Int) (_ : -170141183460469231731687303715884105728 ≤ y) (_ : y ≤ 170141183460469231731687303715884105727) (z : Int) (_ : -170141183460469231731687303715884105728 ≤ z) (_ : z ≤ 170141183460469231731687303715884105727) (w : World) :
    Calls Try.prog 3 #[(.agg #[.int .i64 (wHi (y)), .int .u64 (wLo (y))]), (.agg #[.int .i64 (wHi (z)), .int .u64 (wLo (z))])] w fun e w' => e = .returned (.bool true) ∧ Below w.heap.size w w' := by
  have c0 := (Blk.new w 24 #[.int .i64 (wHi y), .int .u64 (wLo y)]).alloc (.cells #[.int .i64 (wHi z), .int .u64 (wLo z)] 24)
  have c1 := Blk.new (w.alloc (.cells #[.int .i64 (wHi y), .int .u64 (wLo y)] 24)) 24 #[.int .i64 (wHi z), .int .u64 (wLo z)]
  rw [World.size_alloc] at c1
  have hA : Below w.heap.size w ((w.alloc (.cells #[.int .i64 (wHi y), .int .u64 (wLo y)] 24)).alloc (.cells #[.int .i64 (wHi z), .int .u64 (wLo z)] 24)) := ((Below.refl _ _).alloc (Nat.le_refl _) _).alloc (by simp) _
  go_enter Try.func3, Try.ntmps3
  go_wp2_with fail
  refine (shown_any _).mono ?_
  rintro e w1 ⟨rfl, hb⟩
  have c0' := c0.under hb
  have c1' := c1.under hb
  have p0 := c0'.cell 0; have p1 := c0'.cell 1
  dsimp at p0 p1
  go_wp2_with fail
  refine (to_any _ _).mono ?_
  rintro e w2 ⟨rfl, hb2⟩
  have c0'' := c0'.under hb2
  have c1'' := c1'.under hb2
  have q0 := c0''.cell 0; have q1 := c0''.cell 1
  dsimp at q0 q1
  go_wp2_with fail
  refine (ref_to_any _ _).mono ?_
  rintro e w3 ⟨rfl, hb3⟩
  have k0 := c0''.under hb3
  have k1 := c1''.under hb3
  have hB := hA.trans (hb.mono hA.size)
  have hB2 := hB.trans (hb2.mono hB.size)
  have hB3 := hB2.trans (hb3.mono hB2.size)
  have l0 := k0.lt
  have l1 := k1.lt
  have d0 := k0.cell 0; have d1 := k0.cell 1
  have f0 := k1.cell 0; have f1 := k1.cell 1
  clear hb hb2 hb3 hA hB hB2 p0 p1 q0 q1
  go_wp2
  go_region_held3 (fun w' => w'.cell? ⟨w.heap.size, 0, none⟩ = some (.int .i64 (wHi y)) ∧ w'.cell? ⟨w.heap.size, 1, none⟩ = some (.int .u64 (wLo y)) ∧ w'.cell? ⟨w.heap.size + 1, 0, none⟩ = some (.int .i64 (wHi z)) ∧ w'.cell? ⟨w.heap.size + 1, 1, none⟩ = some (.int .u64 (wLo z)) ∧ w.heap.size < w'.heap.size ∧ w.heap.size + 1 < w'.heap.size ∧ Below w.heap.size w w')
    (first | exact hold2 (w := w) (by assumption) (by assumption) | exact ⟨d0, d1, f0, f1, l0, l1, hB3.drew⟩)
    (first | (go_at_call 14; refine (add_any _ _ _).mono ?_; rintro e w' ⟨rfl, hb⟩) | (go_at_call 16; refine (neg_any _ _).mono ?_; rintro e w' ⟨rfl, hb⟩) | (go_at_call 18; refine (compare_any _ _ _).mono ?_; rintro e w' ⟨rfl, hb⟩) | (go_at_call 15; refine (ref_add_any _ _ _).mono ?_; rintro e w' ⟨rfl, hb⟩) | (go_at_call 17; refine (ref_neg_any _ _).mono ?_; rintro e w' ⟨rfl, hb⟩) | (go_at_call 19; refine (ref_compare_any _ _ _).mono ?_; rintro e w' ⟨rfl, hb⟩))
  all_goals
    go_wp2
    go_ret
    exact ⟨rfl, hold2_end (by assumption)⟩

set_option maxRecDepth 100000 in
theorem lifted (os : Os) (started : os.Started) (H : Type) (enc : TypeId × Value → H) :
    ReturnsInHanded {} Try.checked os 3 .any (Rows.wideSumsSpec.pre6 enc Try.prog Try.f3 Rows.wideSumsRow.domain false) (Rows.wideSumsSpec.post enc Try.prog Try.f3 false true false false) := by
  refine returnsInHanded_of_change (C := Try.checked) own started (by kernel_rfl) Try.func3
    (ChangeSpec.witness6 (enc := enc) (C := Try.checked) false ⟨#[], #[.agg #[.int .i64 0, .int .u64 0], .agg #[.int .i64 0, .int .u64 0]], []⟩ 8 (by kernel_rfl) (by kernel_rfl) (by kernel_rfl) (by kernel_rfl)) ?_
  intro W base args ds gs before hval0 hW hcnd _
  have hval : ∀ (j : Nat) t v, Try.f3.params[j]? = some t → args[j]? = some v → Value.okWide Try.prog W .any base t v := hval0
  have hW' := hW
  obtain ⟨p, q, hA0, hV, rfl, hfz, hnd⟩ := hW
  have hA : DataW.TrodAll enc Try.prog W 0 (fun _ => true) true Try.f3.params.toList args.toList ds p := hA0
  rw [Try.params3] at hA hval
  obtain ⟨v0, vs0, d0, ds0, p0, q0, hargs, rfl, rfl, h0, r0⟩ := trodAll_cons hA
  obtain ⟨v1, vs1, d1, ds1, p1, q1, rfl, rfl, rfl, h1, r1⟩ := trodAll_cons r0
  obtain ⟨rfl, rfl, rfl⟩ := trodAll_nil r1
  obtain rfl : args = #[v0, v1] := by cases args; simp_all
  obtain ⟨rfl, rfl⟩ := trodVars_none hV
  obtain ⟨z0, l0, u0, rfl, rfl, hr0⟩ := open_wide (hval 0 24 v0 rfl rfl) h0
  obtain ⟨z1, l1, u1, rfl, rfl, hr1⟩ := open_wide (hval 1 24 v1 rfl rfl) h1
  clear hA0 hval0
  simp only [List.append_nil] at hW'
  refine (walk z0 l0 u0 z1 l1 u1 W).mono fun e W' ⟨he, hg⟩ => ?_
  subst he
  exact ⟨_, rfl, post_below (pa := []) (pv := []) hW' (fun _ _ _ => (trodAll_cons_mk (shut_bool Try.underlying4 _) trodAll_mk0)) (fun sp hsp => (trodAll_cons_mk (hr0 _ _ _ _) (trodAll_cons_mk (hr1 _ _ _ _) trodAll_mk0))) (fun _ _ => rfl) rfl
    hg (ok_one (by kernel_rfl) rfl (okWide_bool_mk Try.underlying4 _))⟩

theorem over : Rows.wideSumsRow.holds Try.pinned (OpenSpec.ofChange Rows.wideSumsSpec) :=
  OpenClaim.holds_of_wide 3 Try.f3 rfl rfl rfl rfl rfl rfl rfl ⟨rfl, rfl, rfl, rfl, rfl⟩ rfl rfl rfl rfl rfl (by kernel_rfl) Try.func3 (by kernel_rfl)
    (of_decide_eq_true (by kernel_rfl)) (by unfold Func.isWrapper; first | (rw [if_pos (by decide +kernel)]; kernel_rfl) | (rw [if_neg (by decide +kernel)]; exact ⟨rfl, rfl⟩))
    (fun os started H enc _ => lifted os started H enc)

/-- The statement. -/
theorem proved : Rows.WideSumsSaid :=
  over
#print axioms proved
end Go.Proofs.Ytalhaceclfeohaa.wideSums
