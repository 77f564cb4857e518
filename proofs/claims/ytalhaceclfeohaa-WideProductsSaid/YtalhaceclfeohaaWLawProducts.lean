/- WideProducts: products, shifts and wide numbers of numbers are the document's, for every input. No condition. -/
import Derived.Test.YtalhaceclfeohaaRows
import Derived.Test.YtalhaceclfeohaaWMul
import Derived.Test.YtalhaceclfeohaaWRefMul
import Derived.Test.YtalhaceclfeohaaWShown
import Derived.Test.YtalhaceclfeohaaWRow
namespace Go.Proofs.Ytalhaceclfeohaa.wideProducts
open Go.ChangeShapes Go.WideShapes Go.ChangeAt Go.RowKit Go.Joins

set_option maxHeartbeats 4000000 in
theorem walk (n : Int) (h1 : -9223372036854775808 ≤ n) (h2 : n ≤ 9223372036854775807) (m : Int) (k1 : -9223372036854775808 ≤ m) (k2 : m ≤ 9223372036854775807) (z : Int) (_ : -170141183460469231731687303715884105728 ≤ z) (_ : z ≤ 170141183460469231731687303715884105727) (b : Int) (b1 : -9223372036854775808 ≤ b) (b2 : b ≤ 9223372036854775807) (w : World) :
    Calls Try.prog 4 #[.int .i64 n, .int .i64 m, (.agg #[.int .i64 (wHi (z)), .int .u64 (wLo (z))]), .int .i64 b] w fun e w' => e = .returned (.bool true) ∧ Below w.heap.size w w' := by
  go_enter Try.func4, Try.ntmps4
  go_wp2_with fail
  refine (shown_any _).mono ?_
  rintro e w1 ⟨rfl, hb⟩
  have c0 := Blk.new w 24 #[.int .i64 (wHi z), .int .u64 (wLo z)]
  have c1 := c0.under hb
  have hl := c1.lt
  have hB : Below w.heap.size w w1 := ((Below.refl _ _).alloc (Nat.le_refl _) _).trans (hb.mono (by simp))
  have d0 := c1.cell 0; have d1 := c1.cell 1
  go_wp2
  go_region_held3 (fun w' => w'.cell? ⟨w.heap.size, 0, none⟩ = some (.int .i64 (wHi z)) ∧ w'.cell? ⟨w.heap.size, 1, none⟩ = some (.int .u64 (wLo z)) ∧ w.heap.size < w'.heap.size ∧ Below w.heap.size w w')
    (first | exact hold1 (w := w) (by assumption) (by assumption) | exact ⟨d0, d1, hl, hB.drew⟩)
    (first | (go_at_call 20; refine (mul_any _ _ h1 h2 k1 k2 _).mono ?_; rintro e w' ⟨rfl, hb⟩) | (go_at_call 21; refine (ref_mul_any _ _ h1 h2 k1 k2 _).mono ?_; rintro e w' ⟨rfl, hb⟩) | (go_at_call 22; refine (shift_any _ _ b1 b2 _).mono ?_; rintro e w' ⟨rfl, hb⟩) | (go_at_call 23; refine (ref_shift_any _ _ b1 b2 _).mono ?_; rintro e w' ⟨rfl, hb⟩) | (go_at_call 24; refine (of_any _ h1 h2 _).mono ?_; rintro e w' ⟨rfl, hb⟩) | (go_at_call 25; refine (ref_of_any _ h1 h2 _).mono ?_; rintro e w' ⟨rfl, hb⟩))
  all_goals
    go_wp2
    go_ret
    exact ⟨rfl, hold1_end (by assumption)⟩
set_option maxRecDepth 100000 in
theorem lifted (os : Os) (started : os.Started) (H : Type) (enc : TypeId × Value → H) :
    ReturnsInHanded {} Try.checked os 4 .any (Rows.wideProductsSpec.pre6 enc Try.prog Try.f4 Rows.wideProductsRow.domain false) (Rows.wideProductsSpec.post enc Try.prog Try.f4 false true false false) := by
  refine returnsInHanded_of_change (C := Try.checked) own started (by kernel_rfl) Try.func4
    (ChangeSpec.witness6 (enc := enc) (C := Try.checked) false ⟨#[], #[.int .i64 0, .int .i64 0, .agg #[.int .i64 0, .int .u64 0], .int .i64 0], []⟩ 8 (by kernel_rfl) (by kernel_rfl) (by kernel_rfl) (by kernel_rfl)) ?_
  intro W base args ds gs before hval0 hW hcnd _
  have hval : ∀ (j : Nat) t v, Try.f4.params[j]? = some t → args[j]? = some v → Value.okWide Try.prog W .any base t v := hval0
  have hW' := hW
  obtain ⟨p, q, hA0, hV, rfl, hfz, hnd⟩ := hW
  have hA : DataW.TrodAll enc Try.prog W 0 (fun _ => true) true Try.f4.params.toList args.toList ds p := hA0
  rw [Try.params4] at hA hval
  obtain ⟨v0, vs0, d0, ds0, p0, q0, hargs, rfl, rfl, h0, r0⟩ := trodAll_cons hA
  obtain ⟨v1, vs1, d1, ds1, p1, q1, rfl, rfl, rfl, h1, r1⟩ := trodAll_cons r0
  obtain ⟨v2, vs2, d2, ds2, p2, q2, rfl, rfl, rfl, h2, r2⟩ := trodAll_cons r1
  obtain ⟨v3, vs3, d3, ds3, p3, q3, rfl, rfl, rfl, h3, r3⟩ := trodAll_cons r2
  obtain ⟨rfl, rfl, rfl⟩ := trodAll_nil r3
  obtain rfl : args = #[v0, v1, v2, v3] := by cases args; simp_all
  obtain ⟨rfl, rfl⟩ := trodVars_none hV
  obtain ⟨a0, rfl, rfl, rfl, w0⟩ := open_int Try.underlying2 (hval 0 2 v0 rfl rfl) h0
  obtain ⟨l0, u0⟩ := i64_of_wf w0
  obtain ⟨a1, rfl, rfl, rfl, w1⟩ := open_int Try.underlying2 (hval 1 2 v1 rfl rfl) h1
  obtain ⟨l1, u1⟩ := i64_of_wf w1
  obtain ⟨z2, l2, u2, rfl, rfl, hr2⟩ := open_wide (hval 2 24 v2 rfl rfl) h2
  obtain ⟨a3, rfl, rfl, rfl, w3⟩ := open_int Try.underlying3 (hval 3 3 v3 rfl rfl) h3
  obtain ⟨l3, u3⟩ := i64_of_wf w3
  clear hA0 hval0
  simp only [List.append_nil] at hW'
  refine (walk a0 l0 u0 a1 l1 u1 z2 l2 u2 a3 l3 u3 W).mono fun e W' ⟨he, hg⟩ => ?_
  subst he
  exact ⟨_, rfl, post_below (pa := []) (pv := []) hW' (fun _ _ _ => (trodAll_cons_mk (shut_bool Try.underlying4 _) trodAll_mk0)) (fun sp hsp => (trodAll_cons_mk (shut_int Try.underlying2 w0) (trodAll_cons_mk (shut_int Try.underlying2 w1) (trodAll_cons_mk (hr2 _ _ _ _) (trodAll_cons_mk (shut_int Try.underlying3 w3) trodAll_mk0))))) (fun _ _ => rfl) rfl
    hg (ok_one (by kernel_rfl) rfl (okWide_bool_mk Try.underlying4 _))⟩

theorem over : Rows.wideProductsRow.holds Try.pinned (OpenSpec.ofChange Rows.wideProductsSpec) :=
  OpenClaim.holds_of_wide 4 Try.f4 rfl rfl rfl rfl rfl rfl rfl ⟨rfl, rfl, rfl, rfl, rfl⟩ rfl rfl rfl rfl rfl (by kernel_rfl) Try.func4 (by kernel_rfl)
    (of_decide_eq_true (by kernel_rfl)) (by unfold Func.isWrapper; first | (rw [if_pos (by decide +kernel)]; kernel_rfl) | (rw [if_neg (by decide +kernel)]; exact ⟨rfl, rfl⟩))
    (fun os started H enc _ => lifted os started H enc)

/-- The statement. -/
theorem proved : Rows.WideProductsSaid :=
  over
#print axioms proved
end Go.Proofs.Ytalhaceclfeohaa.wideProducts
