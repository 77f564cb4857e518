/- ContRanks: ranks step by one where the container has the number. No condition beyond the row's. -/
import Derived.Test.YtpjcndfamhehlaaCRow
import Derived.Test.YtpjcndfamhehlaaCLawR
namespace Go.Proofs.Ytpjcndfamhehlaa.contRanks
open Go.ChangeShapes Go.WideShapes Go.ChangeAt Go.RowKit Go.Joins

set_option maxRecDepth 100000 in
set_option maxHeartbeats 4000000 in
theorem walk (x0 : Option Addr) (len cap : Nat) (zs : List Int) (hlc : len ≤ cap) (hcm : cap ≤ 9223372036854775807) (hln : zs.length = len) (hz : In64 zs) (w : World) (hI : Ints w.heap.size w (.slice x0 len cap) zs) :
    Calls Try.prog 9 #[.slice x0 len cap] w fun e w' => e = .returned (.bool true) ∧ Below w.heap.size w w' := by
  have HM := Lib.hid (fun W h => make_any x0 (min len 300) cap (zs.take 300) (by rw [List.length_take, hln, Nat.min_comm]) (by omega) (in64_take hz 300) W h)
  have HI := Lib.hid (ints_cut hI 300 hln)
  clear hI
  generalize zs.take 300 = zt at *
  by_cases hg : AllGood zt
  · rw [make_good hg] at HM
    have ok := okC_best (ofL zt)
    have HC := Lib.hid (fun W => count_all_any _ _ ok W)
    have HR := Lib.hid (fun n W => rank_all_any _ _ ok n W)
    have HH := Lib.hid (fun n h1 h2 W => has_all_any _ _ ok n h1 h2 W)
    generalize readS (bestF (ofL zt) : Nat) (bestD (ofL zt)) = s at *
    have HSt := Lib.hid (rank_step s)
    have HRl := Lib.hid (rank_last s)
    have HRf := Lib.hid (rank_first s)
    have hrl := fun n => rank_le s n
    have HLe := Lib.hid hrl
    generalize bestF (ofL zt) = q at *
    generalize bestD (ofL zt) = dq at *
    clear hg ok hrl
    go_enter Try.func9, Try.ntmps9
    go_wp2_with fail
    refine (shown_any _).mono ?_
    rintro e w1 ⟨rfl, hB1⟩
    go_wp2_with fail
    refine (few_any x0 len cap hlc hcm _).mono ?_
    rintro e w' ⟨rfl, rfl⟩
    go_wp2_with fail
    refine (HM.out _ ((HI.out.below hB1).more hB1.size)).mono ?_
    rintro e w2 ⟨rfl, hb2⟩
    have hB2 := hB1.trans (hb2.mono hB1.size)
    have b1 := Blk.new w2 23 #[.int .i64 q, .string ⟨dq.toArray⟩]
    have hB3 := hB2.alloc hB2.size (.cells #[.int .i64 q, .string ⟨dq.toArray⟩] 23)
    clear hB1 hb2 hB2
    go_wp2
    generalize hW : w2.alloc (.cells #[.int .i64 q, .string ⟨dq.toArray⟩] 23) = W0 at *
    generalize w2.heap.size = g1 at *
    clear hW
    go_loopw [6] (fun i wr => ∃ n : Nat, n ≤ 256 ∧ i = .int .i64 n ∧ wr.cell? ⟨g1, 0, none⟩ = some (.int .i64 q) ∧ wr.cell? ⟨g1, 1, none⟩ = some (.string ⟨dq.toArray⟩) ∧ g1 < wr.heap.size ∧ Below w.heap.size w wr) (fun i _ => 256 - (intOf i).toNat)
    case atStart =>
      have hS0 := show _ ∧ _ ∧ _ ∧ _ from ⟨b1.cell 0, b1.cell 1, b1.lt, hB3⟩
      dsimp at hS0
      exact ⟨0, Nat.zero_le _, rfl, hS0⟩
    case round =>
      obtain ⟨n, hn, rfl, hS0⟩ := hrel
      clear b1 hB3
      by_cases hlt : n < 256
      · have hlt' : (n : Int) < 256 := by omega
        have hst := HSt.out n hlt
        have l1 := HLe.out n
        have l2 := HLe.out ((n : Int) - 1)
        have HH1 := Lib.hid (HH.out n (by omega) (by omega))
        rw [good_nat hlt, Int.toNat_natCast] at HH1
        obtain ⟨r1, hr1⟩ : ∃ r1, rankS s (n : Int) = r1 := ⟨_, rfl⟩
        obtain ⟨r2, hr2⟩ : ∃ r2, rankS s ((n : Int) - 1) = r2 := ⟨_, rfl⟩
        rw [hr1] at hst l1
        rw [hr2] at hst l2
        by_cases hs : s n = true
        · rw [hs] at HH1 hst
          have hdiff : (r1 : Int) - r2 = 1 := by rw [if_pos rfl] at hst; omega
          clear hst hs
          have hw1 : IntKind.i64.wrap ((n : Int) - 1) = (n : Int) - 1 := by rw [IntKind.wrap_i64]; omega
          have hw2 : IntKind.i64.wrap 1 = 1 := by decide
          have hw3 : IntKind.i64.wrap 0 = 0 := by decide
          go_wp2
          go_region_held3 (fun W => W.cell? ⟨g1, 0, none⟩ = some (.int .i64 q) ∧ W.cell? ⟨g1, 1, none⟩ = some (.string ⟨dq.toArray⟩) ∧ g1 < W.heap.size ∧ Below w.heap.size w W)
            (first | exact hold1 (w := w) (by assumption) (by assumption) | exact hold1 (w := w) hS0 ((Below.refl _ _).drew) | exact hS0)
            (first | (go_at_call 25; refine (HR.out _ _).mono ?_; rintro e w5 ⟨rfl, hb5⟩))
          all_goals
            clear hS0
            rename_i hS1
            clear hw1
            go_wp2_with fail
            refine (HH1.out _).mono ?_
            rintro e w6 ⟨rfl, hb6⟩
            have hS2 := hold1 (w := w) hS1 hb6
            clear hS1 hb6
            go_wp2
            go_roundw
            case rel => exact ⟨n + 1, by omega, by simp, hS2⟩
            case measure => simp [intOf]; omega
        · have hs := Bool.eq_false_iff.mpr hs
          rw [hs] at HH1 hst
          have hdiff : (r1 : Int) - r2 = 0 := by rw [if_neg (by decide)] at hst; omega
          clear hst hs
          have hw1 : IntKind.i64.wrap ((n : Int) - 1) = (n : Int) - 1 := by rw [IntKind.wrap_i64]; omega
          have hw2 : IntKind.i64.wrap 1 = 1 := by decide
          have hw3 : IntKind.i64.wrap 0 = 0 := by decide
          go_wp2
          go_region_held3 (fun W => W.cell? ⟨g1, 0, none⟩ = some (.int .i64 q) ∧ W.cell? ⟨g1, 1, none⟩ = some (.string ⟨dq.toArray⟩) ∧ g1 < W.heap.size ∧ Below w.heap.size w W)
            (first | exact hold1 (w := w) (by assumption) (by assumption) | exact hold1 (w := w) hS0 ((Below.refl _ _).drew) | exact hS0)
            (first | (go_at_call 25; refine (HR.out _ _).mono ?_; rintro e w5 ⟨rfl, hb5⟩))
          all_goals
            clear hS0
            rename_i hS1
            clear hw1
            go_wp2_with fail
            refine (HH1.out _).mono ?_
            rintro e w6 ⟨rfl, hb6⟩
            have hS2 := hold1 (w := w) hS1 hb6
            clear hS1 hb6
            go_wp2
            go_roundw
            case rel => exact ⟨n + 1, by omega, by simp, hS2⟩
            case measure => simp [intOf]; omega
      · have hn' : n = 256 := by omega
        subst hn'
        have hf := HRf.out
        have hl := HRl.out
        have hc := valsTo_le s 256
        go_wp2
        go_region_held3 (fun W => W.cell? ⟨g1, 0, none⟩ = some (.int .i64 q) ∧ W.cell? ⟨g1, 1, none⟩ = some (.string ⟨dq.toArray⟩) ∧ g1 < W.heap.size ∧ Below w.heap.size w W)
          (first | exact hold1 (w := w) (by assumption) (by assumption) | exact hold1 (w := w) hS0 ((Below.refl _ _).drew) | exact hS0)
          (first | (go_at_call 25; refine (HR.out _ _).mono ?_; rintro e w5 ⟨rfl, hb5⟩) | (go_at_call 23; refine (HC.out _).mono ?_; rintro e w5 ⟨rfl, hb5⟩))
        all_goals
          clear hS0
          rename_i hS1
          go_wp2
          go_ret
          exact ⟨rfl, hold1_end hS1⟩
  · rw [make_bad hg] at HM
    clear hg
    go_enter Try.func9, Try.ntmps9
    go_wp2_with fail
    refine (shown_any _).mono ?_
    rintro e w1 ⟨rfl, hB1⟩
    go_wp2_with fail
    refine (few_any x0 len cap hlc hcm _).mono ?_
    rintro e w' ⟨rfl, rfl⟩
    go_wp2_with fail
    refine (HM.out _ ((HI.out.below hB1).more hB1.size)).mono ?_
    rintro e w2 ⟨rfl, hb2⟩
    have hB2 := hB1.trans (hb2.mono hB1.size)
    have b1 := Blk.new w2 23 #[.int .i64 0, .string ⟨#[]⟩]
    have hB3 := hB2.alloc hB2.size (.cells #[.int .i64 0, .string ⟨#[]⟩] 23)
    clear hB1 hb2 hB2
    clear b1
    go_wp2
    go_ret
    exact ⟨rfl, hB3⟩
set_option maxRecDepth 100000 in
theorem lifted (os : Os) (started : os.Started) (H : Type) (enc : TypeId × Value → H) :
    ReturnsInHanded {} Try.checked os 9 .any (Rows.contRanksSpec.pre6 enc Try.prog Try.f9 Rows.contRanksRow.domain false) (Rows.contRanksSpec.post enc Try.prog Try.f9 false true false false) := by
  refine returnsInHanded_of_change (C := Try.checked) own started (by kernel_rfl) Try.func9
    (ChangeSpec.witness6 (enc := enc) (C := Try.checked) false ⟨#[], #[.slice none 0 0], []⟩ 8 (by kernel_rfl) (by kernel_rfl) (by kernel_rfl) (by kernel_rfl)) ?_
  intro W base args ds gs before hval0 hW hcnd _
  have hval : ∀ (j : Nat) t v, Try.f9.params[j]? = some t → args[j]? = some v → Value.okWide Try.prog W .any base t v := hval0
  have hW' := hW
  obtain ⟨p, q, hA0, hV, rfl, hfz, hnd⟩ := hW
  have hA : DataW.TrodAll enc Try.prog W 0 (fun _ => true) true Try.f9.params.toList args.toList ds p := hA0
  rw [Try.params9] at hA hval
  obtain ⟨v0, vs0, d0, ds0, p0, q0, hargs, rfl, rfl, h0, r0⟩ := trodAll_cons hA
  obtain ⟨rfl, rfl, rfl⟩ := trodAll_nil r0
  obtain rfl : args = #[v0] := by cases args; simp_all
  obtain ⟨rfl, rfl⟩ := trodVars_none hV
  obtain ⟨x0, len0, cap0, zs0, rfl, hlc0, hcm0, hln0, hz0, hI0, hr0⟩ := open_numbers (hval 0 24 v0 rfl rfl) h0 (fun q hq => hW'.lt q (by simp [hq]))
  clear hA0 hval0
  simp only [List.append_nil] at hW'
  refine (walk x0 len0 cap0 zs0 hlc0 hcm0 hln0 hz0 W hI0).mono fun e W' ⟨he, hg⟩ => ?_
  subst he
  exact ⟨_, rfl, post_below (pa := _) (pv := []) hW' (fun _ _ _ => (trodAll_cons_mk (shut_bool Try.underlying4 _) trodAll_mk0)) (fun sp hsp => (trodAll_cons_mk (hr0 _ hg sp (fun p hp => hsp p (by simp [hp]))) trodAll_mk0)) (fun _ _ => rfl) (by simp)
    hg (ok_one (by kernel_rfl) rfl (okWide_bool_mk Try.underlying4 _))⟩

theorem over : Rows.contRanksRow.holds Try.pinned (OpenSpec.ofChange Rows.contRanksSpec) :=
  OpenClaim.holds_of_wide 9 Try.f9 rfl rfl rfl rfl rfl rfl rfl ⟨rfl, rfl, rfl, rfl, rfl⟩ rfl rfl rfl rfl rfl (by kernel_rfl) Try.func9 (by kernel_rfl)
    (of_decide_eq_true (by kernel_rfl)) (by unfold Func.isWrapper; first | (rw [if_pos (by decide +kernel)]; kernel_rfl) | (rw [if_neg (by decide +kernel)]; exact ⟨rfl, rfl⟩))
    (fun os started H enc _ => lifted os started H enc)

/-- The statement. -/
theorem proved : Rows.ContRanksSaid :=
  over
#print axioms proved
end Go.Proofs.Ytpjcndfamhehlaa.contRanks
