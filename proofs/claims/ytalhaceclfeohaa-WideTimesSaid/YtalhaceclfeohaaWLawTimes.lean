/- WideTimes: a product is that many times added, and does not hang on the order; for every input. No condition. -/
import Derived.Test.YtalhaceclfeohaaRows
import Derived.Test.YtalhaceclfeohaaWMul
import Derived.Test.YtalhaceclfeohaaWShown
import Derived.Test.YtalhaceclfeohaaWRow
import Derived.LoopTactic
import Derived.Deep.RegionWith
namespace Go.Proofs.Ytalhaceclfeohaa.wideTimes
open Go.ChangeShapes Go.WideShapes Go.ChangeAt Go.RowKit Go.Joins

theorem walk_far (n b m : Int) (h : b < 0 ∨ 100 < b) (w : World) :
    Calls Try.prog 8 #[.int .i64 n, .int .i64 b, .int .i64 m] w fun e w' => e = .returned (.bool true) ∧ Below w.heap.size w w' := by
  by_cases a1 : b < 0
  · clear h
    go_enter Try.func8, Try.ntmps8
    go_wp2_with (go_at_call 11; refine (shown_any _).mono ?_; rintro e w1 ⟨rfl, hb⟩)
    go_ret
    exact ⟨rfl, hb⟩
  · have a2 : 100 < b := by omega
    clear h
    go_enter Try.func8, Try.ntmps8
    go_wp2_with (go_at_call 11; refine (shown_any _).mono ?_; rintro e w1 ⟨rfl, hb⟩)
    go_ret
    exact ⟨rfl, hb⟩

theorem times_snoc (n : Int) (k : Nat) : n * k + n = n * (k + 1 : Nat) := by
  rw [Int.natCast_add, Int.mul_add]; omega

set_option maxHeartbeats 4000000 in
theorem walk_mid (n : Int) (h1 : -9223372036854775808 ≤ n) (h2 : n ≤ 9223372036854775807) (b : Nat) (hb : b ≤ 100) (m : Int) (k1 : -9223372036854775808 ≤ m) (k2 : m ≤ 9223372036854775807) (w : World) :
    Calls Try.prog 8 #[.int .i64 n, .int .i64 b, .int .i64 m] w fun e w' => e = .returned (.bool true) ∧ Below w.heap.size w w' := by
  have n1 : ¬ (b : Int) < 0 := by omega
  have n3 : ¬ 100 < (b : Int) := by omega
  go_enter Try.func8, Try.ntmps8
  go_wp2_with fail
  refine (shown_any _).mono ?_
  rintro e w1 ⟨rfl, hb1⟩
  go_wp2_with fail
  refine (of_any _ (by decide) (by decide) _).mono ?_
  rintro e w2 ⟨rfl, hb2⟩
  have hB2 : Below w.heap.size w w2 := hb1.trans (hb2.mono hb1.size)
  have bA := Blk.new w2 24 #[.int .i64 (wHi 0), .int .u64 (wLo 0)]
  have hBA := hB2.alloc hB2.size (.cells #[.int .i64 (wHi 0), .int .u64 (wLo 0)] 24)
  have hC := hB2.size
  clear hb1 hb2 hB2
  generalize hCC : w2.heap.size = C at *
  go_wp2
  clear hCC
  go_loopw [9] (fun v wr => ∃ k : Nat, k ≤ b ∧ v = .int .i64 k ∧ Blk wr C 24 #[.int .i64 (wHi (n * k)), .int .u64 (wLo (n * k))] ∧ Below w.heap.size w wr)
    (fun v _ => b - (intOf v).toNat)
  case atStart => exact ⟨0, Nat.zero_le _, rfl, by simpa using bA, hBA⟩
  case round =>
    obtain ⟨k, hk, rfl, c1, hB⟩ := hrel
    have d0 := c1.cell 0; have d1 := c1.cell 1
    dsimp at d0 d1
    by_cases hlt : k < b
    · go_wp2
      go_region_with (first | (go_at_call 24; refine (of_any n h1 h2 _).mono ?_; rintro e w4 ⟨rfl, hb4⟩; have bB := Blk.under (Blk.drew c1) hb4; have g0 := bB.cell 0; have g1 := bB.cell 1; dsimp at g0 g1) | (go_at_call 14; refine (add_any _ _ _).mono ?_; rintro e w5 ⟨rfl, hb5⟩; have bC := bB.under hb5; have l0 := bC.cell 0; have l1 := bC.cell 1; have f0 := bC.frozen 0; have f1 := bC.frozen 1; dsimp at l0 l1))
      all_goals
        go_wp2
        go_roundw
        case rel =>
          have hB4 := hB.drew.trans (hb4.mono hB.drew.size)
          have hB5 := hB4.trans (hb5.mono hB4.size)
          exact ⟨k + 1, by omega, by go_num, by rw [← times_snoc]; exact (bC.set_ 0 _).set_ 1 _, (hB5.setCell (p := ⟨C, 0, none⟩) hC _).setCell (p := ⟨C, 1, none⟩) hC _⟩
        case measure => simp [intOf]; omega
    · obtain rfl : b = k := by omega
      have e1 : m * n = n * m := Int.mul_comm _ _
      have l0 := c1.lt
      go_wp2
      go_region_held3 (fun w' => w'.cell? ⟨C, 0, none⟩ = some (.int .i64 (wHi (n * b))) ∧ w'.cell? ⟨C, 1, none⟩ = some (.int .u64 (wLo (n * b))) ∧ C < w'.heap.size ∧ Below w.heap.size w w')
        (first | exact hold1 (w := w) (by assumption) (by assumption) | exact ⟨d0, d1, l0, hB.drew⟩)
        (first | (go_at_call 20; refine (mul_any _ _ (by first | assumption | omega) (by first | assumption | omega) (by first | assumption | omega) (by first | assumption | omega) _).mono ?_; rintro e w' ⟨rfl, hb⟩))
      all_goals
        go_wp2
        go_ret
        exact ⟨rfl, hold1_end (by assumption)⟩

theorem walk (n : Int) (h1 : -9223372036854775808 ≤ n) (h2 : n ≤ 9223372036854775807) (b : Int) (_ : -9223372036854775808 ≤ b) (_ : b ≤ 9223372036854775807) (m : Int) (k1 : -9223372036854775808 ≤ m) (k2 : m ≤ 9223372036854775807) (w : World) :
    Calls Try.prog 8 #[.int .i64 n, .int .i64 b, .int .i64 m] w fun e w' => e = .returned (.bool true) ∧ Below w.heap.size w w' := by
  by_cases h : b < 0 ∨ 100 < b
  · exact walk_far n b m h w
  · obtain ⟨b, rfl⟩ := Int.eq_ofNat_of_zero_le (a := b) (by omega)
    exact walk_mid n h1 h2 b (by omega) m k1 k2 w

set_option maxRecDepth 100000 in
theorem lifted (os : Os) (started : os.Started) (H : Type) (enc : TypeId × Value → H) :
    ReturnsInHanded {} Try.checked os 8 .any (Rows.wideTimesSpec.pre6 enc Try.prog Try.f8 Rows.wideTimesRow.domain false) (Rows.wideTimesSpec.post enc Try.prog Try.f8 false true false false) := by
  refine returnsInHanded_of_change (C := Try.checked) own started (by kernel_rfl) Try.func8
    (ChangeSpec.witness6 (enc := enc) (C := Try.checked) false ⟨#[], #[.int .i64 0, .int .i64 0, .int .i64 0], []⟩ 8 (by kernel_rfl) (by kernel_rfl) (by kernel_rfl) (by kernel_rfl)) ?_
  intro W base args ds gs before hval0 hW hcnd _
  have hval : ∀ (j : Nat) t v, Try.f8.params[j]? = some t → args[j]? = some v → Value.okWide Try.prog W .any base t v := hval0
  have hW' := hW
  obtain ⟨p, q, hA0, hV, rfl, hfz, hnd⟩ := hW
  have hA : DataW.TrodAll enc Try.prog W 0 (fun _ => true) true Try.f8.params.toList args.toList ds p := hA0
  rw [Try.params8] at hA hval
  obtain ⟨v0, vs0, d0, ds0, p0, q0, hargs, rfl, rfl, h0, r0⟩ := trodAll_cons hA
  obtain ⟨v1, vs1, d1, ds1, p1, q1, rfl, rfl, rfl, h1, r1⟩ := trodAll_cons r0
  obtain ⟨v2, vs2, d2, ds2, p2, q2, rfl, rfl, rfl, h2, r2⟩ := trodAll_cons r1
  obtain ⟨rfl, rfl, rfl⟩ := trodAll_nil r2
  obtain rfl : args = #[v0, v1, v2] := by cases args; simp_all
  obtain ⟨rfl, rfl⟩ := trodVars_none hV
  obtain ⟨a0, rfl, rfl, rfl, w0⟩ := open_int Try.underlying2 (hval 0 2 v0 rfl rfl) h0
  obtain ⟨l0, u0⟩ := i64_of_wf w0
  obtain ⟨a1, rfl, rfl, rfl, w1⟩ := open_int Try.underlying3 (hval 1 3 v1 rfl rfl) h1
  obtain ⟨l1, u1⟩ := i64_of_wf w1
  obtain ⟨a2, rfl, rfl, rfl, w2⟩ := open_int Try.underlying2 (hval 2 2 v2 rfl rfl) h2
  obtain ⟨l2, u2⟩ := i64_of_wf w2
  clear hA0 hval0
  simp only [List.append_nil] at hW'
  refine (walk a0 l0 u0 a1 l1 u1 a2 l2 u2 W).mono fun e W' ⟨he, hg⟩ => ?_
  subst he
  exact ⟨_, rfl, post_below (pa := []) (pv := []) hW' (fun _ _ _ => (trodAll_cons_mk (shut_bool Try.underlying4 _) trodAll_mk0)) (fun sp hsp => (trodAll_cons_mk (shut_int Try.underlying2 w0) (trodAll_cons_mk (shut_int Try.underlying3 w1) (trodAll_cons_mk (shut_int Try.underlying2 w2) trodAll_mk0)))) (fun _ _ => rfl) rfl
    hg (ok_one (by kernel_rfl) rfl (okWide_bool_mk Try.underlying4 _))⟩

theorem over : Rows.wideTimesRow.holds Try.pinned (OpenSpec.ofChange Rows.wideTimesSpec) :=
  OpenClaim.holds_of_wide 8 Try.f8 rfl rfl rfl rfl rfl rfl rfl ⟨rfl, rfl, rfl, rfl, rfl⟩ rfl rfl rfl rfl rfl (by kernel_rfl) Try.func8 (by kernel_rfl)
    (of_decide_eq_true (by kernel_rfl)) (by unfold Func.isWrapper; first | (rw [if_pos (by decide +kernel)]; kernel_rfl) | (rw [if_neg (by decide +kernel)]; exact ⟨rfl, rfl⟩))
    (fun os started H enc _ => lifted os started H enc)

/-- The statement. -/
theorem proved : Rows.WideTimesSaid :=
  over
#print axioms proved
end Go.Proofs.Ytalhaceclfeohaa.wideTimes
