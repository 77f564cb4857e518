/- VarintSizes: a varint has a byte for each seven binary digits; greater numbers have no fewer: for every two numbers. No condition beyond the row's: the package's two errors lie as start-up laid them (tied to the program's text). -/
import Derived.Test.YtfdehmghnmjjoaaDoorVRow
import Derived.Test.YtfdehmghnmjjoaaDoorVShown
import Derived.LoopTactic
namespace Go.Proofs.YtfdehmghnmjjoaaDoor.varintSizes
open Go.ChangeShapes Go.WideShapes Go.ChangeAt Go.RowKit Go.Joins

set_option maxRecDepth 100000 in
set_option maxHeartbeats 2000000 in
theorem walk {n₀ : Nat} (a b : Addr) (n : Nat) (hn : n < 18446744073709551616) (m : Nat) (hm : m < 18446744073709551616) (w : World) (hS : Sent n₀ w a b) (hn₀ : n₀ ≤ w.heap.size) :
    Calls Tryd.prog 7 #[.int .u64 n, .int .u64 m] w fun e w' => e = .returned (.bool true) ∧ Below w.heap.size w w' := by
  go_enter Tryd.func7, Tryd.ntmps7
  go_wp2_with fail
  refine (shown_any a b _ hS hn₀).mono ?_
  rintro e w1 ⟨rfl, hb1⟩
  have hln := length_put hn
  go_wp2_with fail
  go_loop [6, 7] (fun z k => ∃ r j : Nat, k = .int .u64 r ∧ z = .int .i64 j ∧ r < 18446744073709551616 ∧ Hid ((vput n).length + 1 = j + (vput r).length))
    (fun _ k => (intOf k).toNat)
  case atStart => exact ⟨n, 1, rfl, rfl, hn, Lib.hid (by omega)⟩
  case round =>
    obtain ⟨r, j, rfl, rfl, hr, HJ⟩ := hrel
    have hj := HJ.out
    have hrl := length_put_pos r
    by_cases hlt : r < 128
    · have h1 : ¬ (128 : Int) ≤ r := by omega
      rw [vput_lo hlt] at hj
      have hj' : (vput n).length = j := by simpa using hj
      clear hj hrl HJ
      subst hj'
      by_cases hnm : m < n
      · have hnm' : (m : Int) < n := by omega
        go_wp2_with fail
        refine (put1_any n hn _).mono ?_
        rintro e w2 ⟨rfl, hb2⟩
        go_wp2
        go_ret
        exact ⟨rfl, hb1.trans (hb2.mono hb1.size)⟩
      · have hnm' : ¬ (m : Int) < n := by omega
        have hmono : ((vput n).length : Int) ≤ (vput m).length := by have := length_mono (n := n) (m := m) (by omega); omega
        go_wp2_with fail
        refine (put1_any n hn _).mono ?_
        rintro e w2 ⟨rfl, hb2⟩
        have hB2 := hb1.trans (hb2.mono hb1.size)
        go_wp2_with fail
        refine (put1_any n hn _).mono ?_
        rintro e w3 ⟨rfl, hb3⟩
        have hB3 := hB2.trans (hb3.mono hB2.size)
        go_wp2_with fail
        refine (put1_any m hm _).mono ?_
        rintro e w4 ⟨rfl, hb4⟩
        go_wp2
        go_ret
        exact ⟨rfl, hB3.trans (hb4.mono hB3.size)⟩
    · have h1 : (128 : Int) ≤ r := by omega
      have hv := vput_hi hlt
      have HJ2 : Hid ((vput n).length + 1 = j + 1 + (vput (r / 128)).length) := Lib.hid (by rw [hv] at hj; simp at hj; omega)
      have hjl : (j : Int) ≤ 11 := by omega
      clear hj hv hrl HJ
      go_wp2_with fail
      go_round
      case rel => exact ⟨r / 128, j + 1, by simp, by simp, by omega, HJ2⟩
      case measure => simp [intOf]; omega

set_option maxRecDepth 100000 in
set_option maxHeartbeats 1000000 in
theorem lifted (os : Os) (started : os.Started) (H : Type) (enc : TypeId × Value → H) :
    ReturnsInHanded {} Tryd.checked os 7 .any (fun w args => (Rows.varintSizesSpec.pre enc Tryd.prog Tryd.f7 [] false w args ∧ laidMetH Tryd.prog laid2 w) ∧ sizedMet enc Tryd.prog Tryd.f7 (OpenSpec.ofChange Rows.varintSizesSpec) false w args)
      (Rows.varintSizesSpec.post enc Tryd.prog Tryd.f7 false true false false) := by
  refine returnsInHanded_of_change_and (C := Tryd.checked) (X := fun w _ => laidMetH Tryd.prog laid2 w) (fun _ _ _ hh h => h.of_heap hh) own started (by kernel_rfl) Tryd.func7
    (ChangeSpec.witness_shaped (enc := enc) (C := Tryd.checked) (os := os) (X := fun w _ => laidMetH Tryd.prog laid2 w) false (World.doorLaid Tryd.prog 47 os) #[.int .u64 0, .int .u64 0] 8 rfl (World.shaped_of_RefB (by kernel_rfl) (by kernel_rfl)) (by kernel_rfl) (by kernel_rfl) (by kernel_rfl) (door_met os _)) ?_
  intro W base args ds gs before hval0 hW _ _ hL _
  rw [laid_plain] at hL
  obtain ⟨a, b, hS⟩ := sent_of_laid hL
  have hval : ∀ (j : Nat) t v, Tryd.f7.params[j]? = some t → args[j]? = some v → Value.okWide Tryd.prog W .any base t v := hval0
  have hW' := hW
  obtain ⟨p, q, hA0, hV, rfl, hfz, hnd⟩ := hW
  have hA : DataW.TrodAll enc Tryd.prog W 0 (fun _ => true) true Tryd.f7.params.toList args.toList ds p := hA0
  rw [Tryd.params7] at hA hval
  obtain ⟨v0, vs0, d0, ds0, p0, q0, hargs, rfl, rfl, h0, r0⟩ := trodAll_cons hA
  obtain ⟨v1, vs1, d1, ds1, p1, q1, rfl, rfl, rfl, h1, r1⟩ := trodAll_cons r0
  obtain ⟨rfl, rfl, rfl⟩ := trodAll_nil r1
  obtain rfl : args = #[v0, v1] := by cases args; simp_all
  obtain ⟨rfl, rfl⟩ := trodVars_none hV
  obtain ⟨a0, rfl, rfl, rfl, w0⟩ := open_int Tryd.underlying22 (hval 0 22 v0 rfl rfl) h0
  obtain ⟨m0, rfl, u0⟩ := u64_of_wf w0
  obtain ⟨a1, rfl, rfl, rfl, w1⟩ := open_int Tryd.underlying22 (hval 1 22 v1 rfl rfl) h1
  obtain ⟨m1, rfl, u1⟩ := u64_of_wf w1
  clear hA0 hval0
  simp only [List.append_nil] at hW'
  refine (walk a b m0 u0 m1 u1 W hS (Nat.le_refl _)).mono fun e W' ⟨he, hg⟩ => ?_
  subst he
  exact ⟨_, rfl, post_below (pa := []) (pv := []) hW' (fun _ _ _ => (trodAll_cons_mk (shut_bool Tryd.underlying4 _) trodAll_mk0)) (fun sp hsp => (trodAll_cons_mk (shut_int Tryd.underlying22 w0) (trodAll_cons_mk (shut_int Tryd.underlying22 w1) trodAll_mk0))) (fun _ _ => rfl) rfl
    hg (ok_one (by kernel_rfl) rfl (okWide_bool_mk Tryd.underlying4 _))⟩

theorem over : Rows.VarintSizesSaid :=
  OpenClaim.holds_of_wide 7 Tryd.f7 rfl rfl rfl rfl rfl rfl rfl ⟨rfl, rfl, rfl, rfl, rfl⟩ rfl rfl rfl rfl rfl (by kernel_rfl) Tryd.func7 (by kernel_rfl)
    (of_decide_eq_true (by kernel_rfl)) (by unfold Func.isWrapper; first | (rw [if_pos (by decide +kernel)]; kernel_rfl) | (rw [if_neg (by decide +kernel)]; exact ⟨rfl, rfl⟩))
    (fun os started H enc _ => lifted os started H enc)

/-- The statement: the tied card. -/
theorem proved : Rows.VarintSizesCardSaid :=
  Claim7.holds_tied_plain_at .later [] [.sentinel, .sentinel] true _ true
    over (fun _ h => by cases h) (by kernel_rfl) (fun _ h => by cases h) varintSizes_row_tie rfl ⟨rfl, rfl⟩ (by kernel_rfl) rfl
    (fun f fn hf hfn => by
      obtain rfl : f = 7 := Option.some.inj ((show Tryd.prog.funcNamed "tesserae/tesseraelaw02.VarintSizes" = some 7 by kernel_rfl).symm.trans hf) |>.symm
      obtain rfl : fn = Tryd.f7 := (Option.some.inj (Tryd.func7.symm.trans hfn)).symm
      exact ⟨by kernel_rfl, fun j t ht => by
        rw [Tryd.params7] at ht
        have hm : t ∈ [22, 22] := by simpa using Array.mem_of_getElem? ht
        have hall : ([22, 22].all fun u => !Tryd.prog.wantsStandIn u) = true := by kernel_rfl
        exact (show Tryd.prog.wantsStandIn t = false by simpa using List.all_eq_true.1 hall t hm)⟩)
    (by kernel_rfl)
#print axioms proved
end Go.Proofs.YtfdehmghnmjjoaaDoor.varintSizes
