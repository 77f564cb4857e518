/- WideTurns: in whatever order numbers are added, and in whatever parts, the sum is the same; for every list (the first thousand) and place. No condition. -/
import Derived.Test.YtalhaceclfeohaaRows
import Derived.Test.YtalhaceclfeohaaWShown
import Derived.Test.YtalhaceclfeohaaWRefD
import Derived.Test.YtalhaceclfeohaaWRow
import Derived.Laws.AppendOwn
import Derived.Laws.OwnMore
import Derived.LoopTactic
namespace Go.Proofs.Ytalhaceclfeohaa.wideTurns
open Go.ChangeShapes Go.WideShapes Go.ChangeAt Go.RowKit Go.Joins

theorem infoI : (Try.prog.info? 2).map (fun i => (i.zero, i.size, i.bytes)) = some (some (.int .i64 0), 1, 8) := by kernel_rfl
/-- A row of the call's own reads as a list of numbers. -/
theorem own_ints {w : World} {base : Nat} {v : Value} {n : Nat} {ys : List Int} (h : w.ownsRow base 2 1 v n (ys.map (Value.int .i64))) : ∃ a c, v = .slice a n c ∧ Ints w.heap.size w v ys := by
  have hl : ys.length = n := by have := h.1; simpa using this
  rcases h.2 with ⟨rfl, rfl⟩ | ⟨g, cap, cur, rfl, _, hh, _⟩
  · exact ⟨none, 0, rfl, .inl ⟨⟨none, 0, rfl⟩, List.length_eq_zero_iff.1 hl⟩⟩
  · refine ⟨some ⟨g, 0, none⟩, cap, rfl, .inr ⟨g, 0, cap, by rw [hl], (Array.getElem?_eq_some_iff.1 hh).1, fun j hj => ?_⟩⟩
    have hc := World.ownsRow.cellAt h j (by omega)
    rw [Nat.zero_add, hc, List.getElem?_map, List.getElem?_eq_getElem hj]
    rfl
theorem sumL_append (a b : List Int) : sumL (a ++ b) = sumL a + sumL b := by
  have h : ∀ (l : List Int) (s : Int), l.foldl (fun s v => s + v) s = s + l.foldl (fun s v => s + v) 0 := by
    intro l
    induction l with
    | nil => intro s; simp
    | cons x t ih => intro s; simp only [List.foldl_cons]; rw [ih (s + x), ih (0 + x)]; omega
  unfold sumL
  rw [List.foldl_append, h]
theorem sumL_reverse (l : List Int) : sumL l.reverse = sumL l := by
  induction l with
  | nil => rfl
  | cons x t ih =>
    rw [List.reverse_cons, sumL_append, ih, show x :: t = [x] ++ t from rfl, sumL_append]
    omega
theorem sumL_parts (l : List Int) (k : Nat) : sumL (l.take k) + sumL (l.drop k) = sumL l := by
  rw [← sumL_append, List.take_append_drop]
theorem rev_step (ys : List Int) (s : Nat) (hs : s < ys.length) : ys.reverse.take (ys.length - s) = ys.reverse.take (ys.length - (s + 1)) ++ [ys[s]?.getD 0] := by
  rw [show ys.length - s = (ys.length - (s + 1)) + 1 from by omega, List.take_succ_eq_append_getElem (by rw [List.length_reverse]; omega)]
  congr 1
  rw [List.getElem_reverse, List.getElem?_eq_getElem hs]
  simp only [Option.getD_some, List.cons.injEq, and_true]
  congr 1
  omega

set_option maxHeartbeats 4000000 in
theorem walk (x : Option Addr) (len cap : Nat) (zs : List Int) (hlc : len ≤ cap) (hcm : cap ≤ 9223372036854775807) (hln : zs.length = len) (hz0 : In64 zs) (a : Int) (a1 : -9223372036854775808 ≤ a) (a2 : a ≤ 9223372036854775807) (w : World) (hI : Ints w.heap.size w (.slice x len cap) zs) :
    Calls Try.prog 6 #[.slice x len cap, .int .i64 a] w fun e w' => e = .returned (.bool true) ∧ Below w.heap.size w w' := by
  obtain ⟨i0, hi, hz1, hz2, hz3⟩ := info_parts infoI
  have hJ := ints_cut hI 1000
  have hz := hz0.take 1000
  have hL1 : min len 1000 ≤ 1000 := Nat.min_le_right _ _
  have hL2 : min len 1000 ≤ cap := by omega
  have HL : Hid ((zs.take 1000).length = min len 1000) := Lib.hid (by rw [List.length_take]; omega)
  clear hln hI hz0
  go_enter Try.func6, Try.ntmps6
  go_wp2_with fail
  refine (shown_any _).mono ?_
  rintro e w1 ⟨rfl, hb1⟩
  go_wp2_with fail
  refine (cut_any x len cap hlc hcm _).mono ?_
  rintro e w2 ⟨rfl, rfl⟩
  generalize zs.take 1000 = ys at *
  generalize min len 1000 = L at *
  clear hlc
  go_wp2
  go_loopw [6, 7] (fun v i wr => ∃ r : Nat, r ≤ L ∧ i = .int .i64 ((r : Int) - 1) ∧ wr.ownsRow w.heap.size 2 1 v (L - r) ((ys.reverse.take (ys.length - r)).map (Value.int .i64)) ∧ Below w.heap.size w wr)
    (fun _ i _ => (intOf i + 1).toNat)
  case atStart =>
    refine ⟨L, Nat.le_refl _, rfl, ?_, hb1⟩
    rw [HL.out, Nat.sub_self]
    exact World.ownsRow_nil _ _ _ _
  case round =>
    obtain ⟨r, hr, rfl, hown, hB⟩ := hrel
    rcases r with _ | s
    · have HR : Hid (ys.reverse.take (ys.length - 0) = ys.reverse) := Lib.hid (List.take_of_length_le (by simp))
      rw [HR.out, Nat.sub_zero] at hown
      obtain ⟨ta, tc, rfl, hIt⟩ := own_ints hown
      have hz' : In64 ys.reverse := fun j => by
        by_cases hj : j < ys.length
        · have hj' : j < ys.reverse.length := by simpa using hj
          rw [List.getElem?_eq_getElem hj', List.getElem_reverse]
          have := hz (ys.length - 1 - j)
          rwa [List.getElem?_eq_getElem (by omega)] at this
        · rw [List.getElem?_eq_none (by simp; omega)]; decide
      have hJr := (hJ.below hB).more hB.size
      have hyl : ys.length * 8 ≤ 140737488351232 := by have := HL.out; omega
      have hyl' : ys.reverse.length * 8 ≤ 140737488351232 := by rw [List.length_reverse]; exact hyl
      clear hown
      go_wp2_with fail
      refine (sum_any _ _ _ _ hz hyl _ hJr).mono ?_
      rintro e w3 ⟨rfl, hb3⟩
      have hB3 := hB.trans (hb3.mono hB.size)
      have hIt3 := hIt.below hb3
      have b8 := Blk.new w3 24 #[.int .i64 (wHi (sumL ys)), .int .u64 (wLo (sumL ys))]
      have hB8 := hB3.alloc hB3.size (.cells #[.int .i64 (wHi (sumL ys)), .int .u64 (wLo (sumL ys))] 24)
      have l8 := b8.lt
      have d0 := b8.cell 0; have d1 := b8.cell 1
      have e1 := sumL_reverse ys
      have KT := Lib.hid (fun (a : World) (h : Below (w3.alloc (.cells #[.int .i64 (wHi (sumL ys)), .int .u64 (wLo (sumL ys))] 24)).heap.size (w3.alloc (.cells #[.int .i64 (wHi (sumL ys)), .int .u64 (wLo (sumL ys))] 24)) a) =>
        (((hIt3.more hb3.size).below ((Below.refl _ w3).alloc (Nat.le_refl _) _)).more (by simp) |>.below h).more h.size)
      generalize hW8 : w3.alloc (.cells #[.int .i64 (wHi (sumL ys)), .int .u64 (wLo (sumL ys))] 24) = W8 at *
      generalize hC : w3.heap.size = C at *
      clear hIt3 hB3 hb3 hIt
      have KA := Lib.hid (fun (a : World) (h : Below W8.heap.size W8 a) => (hJ.below (hB8.trans (h.mono hB8.size))).more (Nat.le_trans hB8.size h.size))
      clear hJr hJ
      go_wp2
      clear hW8 hC
      go_region_held3 (fun w' => w'.cell? ⟨C, 0, none⟩ = some (.int .i64 (wHi (sumL ys))) ∧ w'.cell? ⟨C, 1, none⟩ = some (.int .u64 (wLo (sumL ys))) ∧ C < w'.heap.size ∧ Below W8.heap.size W8 w')
        (first | exact hold1 (w := W8) (by assumption) (by assumption) | exact ⟨d0, d1, l8, (Below.refl _ _).drew⟩)
        (first | (go_at_call 26; refine (sum_any _ _ _ _ hz' hyl' _ (KT.out _ (hold1_end (by assumption)))).mono ?_; rintro e w' ⟨rfl, hb⟩))
      all_goals
        obtain ⟨g0, g1, lg, hB9⟩ := hold1_id (w := W8) (by assumption)
        have hBf := hB8.trans (hB9.mono hB8.size)
        by_cases q1 : a < 0
        · go_wp2
          go_ret
          exact ⟨rfl, hBf⟩
        · by_cases q2 : (L : Int) < a
          · go_wp2
            go_ret
            exact ⟨rfl, hBf⟩
          · obtain ⟨k, rfl⟩ := Int.eq_ofNat_of_zero_le (a := a) (by omega)
            have hk : k ≤ L := by omega
            have j0 : (0 : Int) ≤ k := by omega
            have j1 : (k : Int) ≤ L := by omega
            have j2 : (k : Int) ≤ cap := by omega
            have hzp := hz.take k
            have hyp : (ys.take k).length * 8 ≤ 140737488351232 := by rw [List.length_take]; omega
            have KP := Lib.hid (fun (a : World) (h : Below W8.heap.size W8 a) => ints_pre (KA.out a h) hk)
            have hzd := hz.drop k
            have hyd : (ys.drop k).length * 8 ≤ 140737488351232 := by rw [List.length_drop]; omega
            have e2 := sumL_parts ys k
            by_cases hck : cap = k
            · have KD := Lib.hid (fun (a : World) (h : Below W8.heap.size W8 a) => (show Ints a.heap.size a (.slice x 0 0) (ys.drop k) from .inl ⟨⟨x, 0, rfl⟩, List.drop_eq_nil_iff.2 (by have := HL.out; omega)⟩))
              subst hck
              go_wp2
              go_region_held3 (fun w' => w'.cell? ⟨C, 0, none⟩ = some (.int .i64 (wHi (sumL ys))) ∧ w'.cell? ⟨C, 1, none⟩ = some (.int .u64 (wLo (sumL ys))) ∧ C < w'.heap.size ∧ Below W8.heap.size W8 w')
                (first | exact hold1 (w := W8) (by assumption) (by assumption) | exact ⟨g0, g1, lg, hB9.drew⟩)
                (first | (go_at_call 26; (with_reducible refine (sum_any _ _ _ _ hzp hyp _ (KP.out _ (hold1_end (w := W8) (by assumption)))).mono ?_); rintro e w' ⟨rfl, hb⟩) | (go_at_call 26; (with_reducible refine (sum_any _ _ _ _ hzd hyd _ (KD.out _ (hold1_end (w := W8) (by assumption)))).mono ?_); rintro e w' ⟨rfl, hb⟩) | (go_at_call 14; refine (add_any _ _ _).mono ?_; rintro e w' ⟨rfl, hb⟩))
              all_goals
                go_wp2
                go_ret
                exact ⟨rfl, hB8.trans ((hold1_end (w := W8) (by assumption)).mono hB8.size)⟩
            · have KD := Lib.hid (fun (a : World) (h : Below W8.heap.size W8 a) => ints_suf (cap' := cap - k) (KA.out a h) hk)
              go_wp2
              go_region_held3 (fun w' => w'.cell? ⟨C, 0, none⟩ = some (.int .i64 (wHi (sumL ys))) ∧ w'.cell? ⟨C, 1, none⟩ = some (.int .u64 (wLo (sumL ys))) ∧ C < w'.heap.size ∧ Below W8.heap.size W8 w')
                (first | exact hold1 (w := W8) (by assumption) (by assumption) | exact ⟨g0, g1, lg, hB9.drew⟩)
                (first | (go_at_call 26; (with_reducible refine (sum_any _ _ _ _ hzp hyp _ (KP.out _ (hold1_end (w := W8) (by assumption)))).mono ?_); rintro e w' ⟨rfl, hb⟩) | (go_at_call 26; (with_reducible refine (sum_any _ _ _ _ hzd hyd _ (KD.out _ (hold1_end (w := W8) (by assumption)))).mono ?_); rintro e w' ⟨rfl, hb⟩) | (go_at_call 14; refine (add_any _ _ _).mono ?_; rintro e w' ⟨rfl, hb⟩))
              all_goals
                go_wp2
                go_ret
                exact ⟨rfl, hB8.trans ((hold1_end (w := W8) (by assumption)).mono hB8.size)⟩
    · have hs : s < ys.length := by have := HL.out; omega
      have e0 : ((s + 1 : Nat) : Int) - 1 = s := by omega
      obtain ⟨b, off, rfl, -, hb, hc⟩ := hJ.at_ (show s < L by omega)
      have hc1 := (hB.cell (p := ⟨b, off + s, none⟩) hb).trans hc
      have i1 : (0 : Int) ≤ s := by omega
      have i2 : (s : Int) < L := by omega
      have HS := Lib.hid (rev_step ys s hs)
      have hsz := hB.size
      clear hs
      rw [e0]
      clear e0
      go_wp2_with (at_builtin; refine wpList_append_own _ rfl _ _ 37 rfl w.heap.size 2 i0 (.int .i64 0) 1 8 Try.underlying37 hi hz1 hz2 hz3 rfl (by decide) _ _ _ rfl (hown.alloc _) ⟨wr.heap.size, 0, none⟩ 1 1 [.int .i64 (ys[s]?.getD 0)] rfl rfl ?c1 ?c2 ?c3 ?c4 ?c5 ?_)
      case c1 =>
        intro j u hj
        match j, hj with
        | 0, hj => simp at hj; subst hj; simp [Addr.add]
      case c2 => intro u hu; simp at hu; subst hu; rfl
      case c3 => unfold maxLen; omega
      case c4 => omega
      case c5 => simp; omega
      intro v' w4 hown' hgrow _
      have hB4 := (hB.alloc hsz (.cells #[.int .i64 (ys[s]?.getD 0)] 2)).grown hgrow (by simp; omega) (fun k e => (World.ownsRow.lt hown k e).1)
      have hown2 : w4.ownsRow w.heap.size 2 1 v' (L - s) ((ys.reverse.take (ys.length - s)).map (Value.int .i64)) := by
        rw [HS.out, List.map_append, List.map_take, List.map_reverse, show L - s = L - (s + 1) + 1 from by omega]; exact hown'
      clear hown' hgrow hown
      go_wp2
      go_roundw
      case rel => exact ⟨s, by omega, rfl, hown2, hB4⟩
      case measure => simp [intOf]

set_option maxRecDepth 100000 in
theorem lifted (os : Os) (started : os.Started) (H : Type) (enc : TypeId × Value → H) :
    ReturnsInHanded {} Try.checked os 6 .any (Rows.wideTurnsSpec.pre6 enc Try.prog Try.f6 Rows.wideTurnsRow.domain false) (Rows.wideTurnsSpec.post enc Try.prog Try.f6 false true false false) := by
  refine returnsInHanded_of_change (C := Try.checked) own started (by kernel_rfl) Try.func6
    (ChangeSpec.witness6 (enc := enc) (C := Try.checked) false ⟨#[], #[.slice none 0 0, .int .i64 0], []⟩ 8 (by kernel_rfl) (by kernel_rfl) (by kernel_rfl) (by kernel_rfl)) ?_
  intro W base args ds gs before hval0 hW hcnd _
  have hval : ∀ (j : Nat) t v, Try.f6.params[j]? = some t → args[j]? = some v → Value.okWide Try.prog W .any base t v := hval0
  have hW' := hW
  obtain ⟨p, q, hA0, hV, rfl, hfz, hnd⟩ := hW
  have hA : DataW.TrodAll enc Try.prog W 0 (fun _ => true) true Try.f6.params.toList args.toList ds p := hA0
  rw [Try.params6] at hA hval
  obtain ⟨v0, vs0, d0, ds0, p0, q0, hargs, rfl, rfl, h0, r0⟩ := trodAll_cons hA
  obtain ⟨v1, vs1, d1, ds1, p1, q1, rfl, rfl, rfl, h1, r1⟩ := trodAll_cons r0
  obtain ⟨rfl, rfl, rfl⟩ := trodAll_nil r1
  obtain rfl : args = #[v0, v1] := by cases args; simp_all
  obtain ⟨rfl, rfl⟩ := trodVars_none hV
  obtain ⟨x0, len0, cap0, zs0, rfl, hlc0, hcm0, hln0, hz0, hI0, hr0⟩ := open_numbers (hval 0 37 v0 rfl rfl) h0 (fun q hq => hW'.lt q (by simp [hq]))
  obtain ⟨a1, rfl, rfl, rfl, w1⟩ := open_int Try.underlying3 (hval 1 3 v1 rfl rfl) h1
  obtain ⟨l1, u1⟩ := i64_of_wf w1
  clear hA0 hval0
  simp only [List.append_nil] at hW'
  refine (walk x0 len0 cap0 zs0 hlc0 hcm0 hln0 hz0 a1 l1 u1 W hI0).mono fun e W' ⟨he, hg⟩ => ?_
  subst he
  exact ⟨_, rfl, post_below (pa := _) (pv := []) hW' (fun _ _ _ => (trodAll_cons_mk (shut_bool Try.underlying4 _) trodAll_mk0)) (fun sp hsp => (trodAll_cons_mk (hr0 _ hg sp (fun p hp => hsp p (by simp [hp]))) (trodAll_cons_mk (shut_int Try.underlying3 w1) trodAll_mk0))) (fun _ _ => rfl) (by simp)
    hg (ok_one (by kernel_rfl) rfl (okWide_bool_mk Try.underlying4 _))⟩

theorem over : Rows.wideTurnsRow.holds Try.pinned (OpenSpec.ofChange Rows.wideTurnsSpec) :=
  OpenClaim.holds_of_wide 6 Try.f6 rfl rfl rfl rfl rfl rfl rfl ⟨rfl, rfl, rfl, rfl, rfl⟩ rfl rfl rfl rfl rfl (by kernel_rfl) Try.func6 (by kernel_rfl)
    (of_decide_eq_true (by kernel_rfl)) (by unfold Func.isWrapper; first | (rw [if_pos (by decide +kernel)]; kernel_rfl) | (rw [if_neg (by decide +kernel)]; exact ⟨rfl, rfl⟩))
    (fun os started H enc _ => lifted os started H enc)

/-- The statement. -/
theorem proved : Rows.WideTurnsSaid :=
  over
#print axioms proved
end Go.Proofs.Ytalhaceclfeohaa.wideTurns
