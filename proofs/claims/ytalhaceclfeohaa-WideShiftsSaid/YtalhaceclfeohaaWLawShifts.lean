/- WideShifts: a shift is that of its parts, one behind the other; it is a product by a power of two; for every input. No condition. -/
import Derived.Test.YtalhaceclfeohaaRows
import Derived.Test.YtalhaceclfeohaaWMul
import Derived.Test.YtalhaceclfeohaaWShown
import Derived.Test.YtalhaceclfeohaaWRow
namespace Go.Proofs.Ytalhaceclfeohaa.wideShifts
open Go.ChangeShapes Go.WideShapes Go.ChangeAt Go.RowKit Go.Joins

theorem shZ_shZ (z : Int) (b c : Nat) (hb : b ≤ 62) (hc : c ≤ 62) : shZ (shZ z b) c = shZ z (b + c) := by
  have h := shZ_in z (b + c) (by omega)
  rw [Int.natCast_add] at h
  rw [shZ_in z b (by omega), shZ_in _ c (by omega), h, Int.pow_add, Int.mul_assoc]
theorem pow_le (b : Nat) (hb : b ≤ 62) : (2 : Int) ^ b ≤ 4611686018427387904 := by
  have h := Nat.pow_le_pow_right (n := 2) (by decide) hb
  rw [show (2 : Nat) ^ 62 = 4611686018427387904 from rfl] at h
  have : ((2 ^ b : Nat) : Int) ≤ 4611686018427387904 := by omega
  simpa using this

theorem walk_far (z b c n : Int) (h : b < 0 ∨ c < 0 ∨ 62 < b ∨ 62 < c) (w : World) :
    Calls Try.prog 9 #[(.agg #[.int .i64 (wHi (z)), .int .u64 (wLo (z))]), .int .i64 b, .int .i64 c, .int .i64 n] w fun e w' => e = .returned (.bool true) ∧ Below w.heap.size w w' := by
  by_cases a1 : b < 0
  · clear h
    go_enter Try.func9, Try.ntmps9
    go_wp2_with (go_at_call 11; refine (shown_any _).mono ?_; rintro e w1 ⟨rfl, hb⟩)
    go_ret
    exact ⟨rfl, ((Below.refl _ _).alloc (Nat.le_refl _) _).trans (hb.mono (by simp))⟩
  · by_cases a2 : c < 0
    · clear h
      go_enter Try.func9, Try.ntmps9
      go_wp2_with (go_at_call 11; refine (shown_any _).mono ?_; rintro e w1 ⟨rfl, hb⟩)
      go_ret
      exact ⟨rfl, ((Below.refl _ _).alloc (Nat.le_refl _) _).trans (hb.mono (by simp))⟩
    · by_cases a3 : 62 < b
      · clear h
        go_enter Try.func9, Try.ntmps9
        go_wp2_with (go_at_call 11; refine (shown_any _).mono ?_; rintro e w1 ⟨rfl, hb⟩)
        go_ret
        exact ⟨rfl, ((Below.refl _ _).alloc (Nat.le_refl _) _).trans (hb.mono (by simp))⟩
      · have a4 : 62 < c := by omega
        clear h
        go_enter Try.func9, Try.ntmps9
        go_wp2_with (go_at_call 11; refine (shown_any _).mono ?_; rintro e w1 ⟨rfl, hb⟩)
        go_ret
        exact ⟨rfl, ((Below.refl _ _).alloc (Nat.le_refl _) _).trans (hb.mono (by simp))⟩

set_option maxHeartbeats 4000000 in
theorem walk_mid (z : Int) (b c : Nat) (hb : b ≤ 62) (hc : c ≤ 62) (n : Int) (h1 : -9223372036854775808 ≤ n) (h2 : n ≤ 9223372036854775807) (w : World) :
    Calls Try.prog 9 #[(.agg #[.int .i64 (wHi (z)), .int .u64 (wLo (z))]), .int .i64 b, .int .i64 c, .int .i64 n] w fun e w' => e = .returned (.bool true) ∧ Below w.heap.size w w' := by
  have e1 := shZ_shZ z b c hb hc
  have e3 : shZ z 0 = z := by have := shZ_in z 0 (by omega); simpa using this
  have p1 := pow_le b hb
  have p0 : (0 : Int) < 2 ^ b := Int.pow_pos (by decide)
  have n1 : ¬ (b : Int) < 0 := by omega
  have n2 : ¬ (c : Int) < 0 := by omega
  have n3 : ¬ 62 < (b : Int) := by omega
  have n4 : ¬ 62 < (c : Int) := by omega
  have q1 : (0 : Int) ≤ b := by omega
  have q2 : (0 : Int) ≤ c := by omega
  have q3 : (b : Int) ≤ 62 := by omega
  have q4 : (c : Int) ≤ 62 := by omega
  go_enter Try.func9, Try.ntmps9
  go_wp2_with fail
  refine (shown_any _).mono ?_
  rintro e w1 ⟨rfl, hb⟩
  have c0 := Blk.new w 24 #[.int .i64 (wHi z), .int .u64 (wLo z)]
  have c1 := c0.under hb
  have hl := c1.lt
  have hB : Below w.heap.size w w1 := ((Below.refl _ _).alloc (Nat.le_refl _) _).trans (hb.mono (by simp))
  have d0 := c1.cell 0; have d1 := c1.cell 1
  go_wp2
  have e2 : shZ n b = n * 2 ^ b := shZ_in n b (by omega)
  have g1 : IntKind.i64.wrap ((b : Int) + c) = b + c := by rw [IntKind.wrap_i64]; omega
  have g2 : IntKind.i64.wrap ((2 : Int) ^ b) = 2 ^ b := by rw [IntKind.wrap_i64]; omega
  have g3 : ((b : Int)).toNat = b := by omega
  clear hb
  go_region_held3 (fun w' => w'.cell? ⟨w.heap.size, 0, none⟩ = some (.int .i64 (wHi z)) ∧ w'.cell? ⟨w.heap.size, 1, none⟩ = some (.int .u64 (wLo z)) ∧ w.heap.size < w'.heap.size ∧ Below w.heap.size w w')
    (first | exact hold1 (w := w) (by assumption) (by assumption) | exact ⟨d0, d1, hl, hB.drew⟩)
    (first | (go_at_call 20; refine (mul_any _ _ h1 h2 (by first | assumption | omega) (by first | assumption | omega) _).mono ?_; rintro e w' ⟨rfl, hb⟩) | (go_at_call 22; refine (shift_any _ _ (by first | assumption | omega) (by first | assumption | omega) _).mono ?_; rintro e w' ⟨rfl, hb⟩) | (go_at_call 24; refine (of_any _ h1 h2 _).mono ?_; rintro e w' ⟨rfl, hb⟩))
  all_goals
    go_wp2
    go_ret
    exact ⟨rfl, hold1_end (by assumption)⟩

theorem walk (z : Int) (_ : -170141183460469231731687303715884105728 ≤ z) (_ : z ≤ 170141183460469231731687303715884105727) (b : Int) (_ : -9223372036854775808 ≤ b) (_ : b ≤ 9223372036854775807) (c : Int) (_ : -9223372036854775808 ≤ c) (_ : c ≤ 9223372036854775807)
    (n : Int) (h1 : -9223372036854775808 ≤ n) (h2 : n ≤ 9223372036854775807) (w : World) :
    Calls Try.prog 9 #[(.agg #[.int .i64 (wHi (z)), .int .u64 (wLo (z))]), .int .i64 b, .int .i64 c, .int .i64 n] w fun e w' => e = .returned (.bool true) ∧ Below w.heap.size w w' := by
  by_cases h : b < 0 ∨ c < 0 ∨ 62 < b ∨ 62 < c
  · exact walk_far z b c n h w
  · obtain ⟨b, rfl⟩ := Int.eq_ofNat_of_zero_le (a := b) (by omega)
    obtain ⟨c, rfl⟩ := Int.eq_ofNat_of_zero_le (a := c) (by omega)
    exact walk_mid z b c (by omega) (by omega) n h1 h2 w

set_option maxRecDepth 100000 in
theorem lifted (os : Os) (started : os.Started) (H : Type) (enc : TypeId × Value → H) :
    ReturnsInHanded {} Try.checked os 9 .any (Rows.wideShiftsSpec.pre6 enc Try.prog Try.f9 Rows.wideShiftsRow.domain false) (Rows.wideShiftsSpec.post enc Try.prog Try.f9 false true false false) := by
  refine returnsInHanded_of_change (C := Try.checked) own started (by kernel_rfl) Try.func9
    (ChangeSpec.witness6 (enc := enc) (C := Try.checked) false ⟨#[], #[.agg #[.int .i64 0, .int .u64 0], .int .i64 0, .int .i64 0, .int .i64 0], []⟩ 8 (by kernel_rfl) (by kernel_rfl) (by kernel_rfl) (by kernel_rfl)) ?_
  intro W base args ds gs before hval0 hW hcnd _
  have hval : ∀ (j : Nat) t v, Try.f9.params[j]? = some t → args[j]? = some v → Value.okWide Try.prog W .any base t v := hval0
  have hW' := hW
  obtain ⟨p, q, hA0, hV, rfl, hfz, hnd⟩ := hW
  have hA : DataW.TrodAll enc Try.prog W 0 (fun _ => true) true Try.f9.params.toList args.toList ds p := hA0
  rw [Try.params9] at hA hval
  obtain ⟨v0, vs0, d0, ds0, p0, q0, hargs, rfl, rfl, h0, r0⟩ := trodAll_cons hA
  obtain ⟨v1, vs1, d1, ds1, p1, q1, rfl, rfl, rfl, h1, r1⟩ := trodAll_cons r0
  obtain ⟨v2, vs2, d2, ds2, p2, q2, rfl, rfl, rfl, h2, r2⟩ := trodAll_cons r1
  obtain ⟨v3, vs3, d3, ds3, p3, q3, rfl, rfl, rfl, h3, r3⟩ := trodAll_cons r2
  obtain ⟨rfl, rfl, rfl⟩ := trodAll_nil r3
  obtain rfl : args = #[v0, v1, v2, v3] := by cases args; simp_all
  obtain ⟨rfl, rfl⟩ := trodVars_none hV
  obtain ⟨z0, l0, u0, rfl, rfl, hr0⟩ := open_wide (hval 0 24 v0 rfl rfl) h0
  obtain ⟨a1, rfl, rfl, rfl, w1⟩ := open_int Try.underlying3 (hval 1 3 v1 rfl rfl) h1
  obtain ⟨l1, u1⟩ := i64_of_wf w1
  obtain ⟨a2, rfl, rfl, rfl, w2⟩ := open_int Try.underlying3 (hval 2 3 v2 rfl rfl) h2
  obtain ⟨l2, u2⟩ := i64_of_wf w2
  obtain ⟨a3, rfl, rfl, rfl, w3⟩ := open_int Try.underlying2 (hval 3 2 v3 rfl rfl) h3
  obtain ⟨l3, u3⟩ := i64_of_wf w3
  clear hA0 hval0
  simp only [List.append_nil] at hW'
  refine (walk z0 l0 u0 a1 l1 u1 a2 l2 u2 a3 l3 u3 W).mono fun e W' ⟨he, hg⟩ => ?_
  subst he
  exact ⟨_, rfl, post_below (pa := []) (pv := []) hW' (fun _ _ _ => (trodAll_cons_mk (shut_bool Try.underlying4 _) trodAll_mk0)) (fun sp hsp => (trodAll_cons_mk (hr0 _ _ _ _) (trodAll_cons_mk (shut_int Try.underlying3 w1) (trodAll_cons_mk (shut_int Try.underlying3 w2) (trodAll_cons_mk (shut_int Try.underlying2 w3) trodAll_mk0))))) (fun _ _ => rfl) rfl
    hg (ok_one (by kernel_rfl) rfl (okWide_bool_mk Try.underlying4 _))⟩

theorem over : Rows.wideShiftsRow.holds Try.pinned (OpenSpec.ofChange Rows.wideShiftsSpec) :=
  OpenClaim.holds_of_wide 9 Try.f9 rfl rfl rfl rfl rfl rfl rfl ⟨rfl, rfl, rfl, rfl, rfl⟩ rfl rfl rfl rfl rfl (by kernel_rfl) Try.func9 (by kernel_rfl)
    (of_decide_eq_true (by kernel_rfl)) (by unfold Func.isWrapper; first | (rw [if_pos (by decide +kernel)]; kernel_rfl) | (rw [if_neg (by decide +kernel)]; exact ⟨rfl, rfl⟩))
    (fun os started H enc _ => lifted os started H enc)

/-- The statement. -/
theorem proved : Rows.WideShiftsSaid :=
  over
#print axioms proved
end Go.Proofs.Ytalhaceclfeohaa.wideShifts
