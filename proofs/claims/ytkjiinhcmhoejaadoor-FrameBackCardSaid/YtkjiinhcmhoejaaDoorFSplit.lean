/- frame.Split. -/
import Derived.Test.YtkjiinhcmhoejaaDoorFIter
import Derived.Stop.RegionWithIn
import Derived.Deep.DeepCutAuto
namespace Go.Proofs.YtkjiinhcmhoejaaDoor
open Go.RowKit
attribute [local go_sem] Oper.semAt_some

/-- None tells an error; the last one does. -/
def AllZ (pre : List (List UInt8 × Int)) : Prop := ∀ p ∈ pre, p.2 = 0
def fsts (pre : List (List UInt8 × Int)) : List (List UInt8) := pre.map (·.1)
def EndsAt (B1 B2 : Nat) (pre : List (List UInt8 × Int)) (W : World) : Prop := ∃ ini q e, pre = ini ++ [(q, e)] ∧ e ≠ 0 ∧ Boxed W B1 32 (.slice none 0 0) ∧ Boxed W B2 24 (.int .i64 e)
theorem fsts_snoc (pre : List (List UInt8 × Int)) (x : List UInt8 × Int) : fsts (pre ++ [x]) = fsts pre ++ [x.1] := by simp [fsts]
theorem yields_length (s : List UInt8) (hs : s.length ≤ 1000000) : (yields s).length ≤ 125001 := by
  have := slist_length s
  unfold yields
  rw [List.length_append, List.length_map]
  split <;> simp <;> omega
/-- All that was handed on is right: the list is whole. -/
theorem yields_all {s : List UInt8} (h : AllZ (yields s)) : scode s = 0 ∧ fsts (yields s) = slist s := by
  have h0 : scode s = 0 := by
    by_cases e : scode s = 0
    · exact e
    · exfalso
      apply e
      exact h ([], scode s) (by unfold yields; rw [if_neg e]; simp)
  refine ⟨h0, ?_⟩
  unfold yields fsts
  rw [if_pos h0, List.append_nil, List.map_map]
  exact List.map_id' _
/-- An error that was handed on is the code. -/
theorem yields_stop {s : List UInt8} {ini : List (List UInt8 × Int)} {q : List UInt8} {e : Int} (h : ini ++ [(q, e)] <+: yields s) (he : e ≠ 0) : scode s = e := by
  have hm : (q, e) ∈ yields s := h.subset (by simp)
  unfold yields at hm
  rcases List.mem_append.1 hm with hm | hm
  · obtain ⟨b, _, hb⟩ := List.mem_map.1 hm
    cases hb
    exact absurd rfl he
  · split at hm
    · cases hm
    · rename_i hne
      have := List.mem_singleton.1 hm
      cases this
      rfl
/-- What holds between two rounds. -/
def SplitI (w : World) (pre : List (List UInt8 × Int)) (W : World) : Prop :=
  ((∃ v, Boxed W w.heap.size 32 v ∧ W.ownsRow w.heap.size 9 1 v pre.length (strVs (fsts pre)) ∧ True) ∧ Boxed W (w.heap.size + 1) 24 (.int .i64 0) ∧ IsT (w.heap.size + 1 + 1) 51 W ∧ IsT (w.heap.size + 1 + 1 + 1) 66 W ∧ AllZ pre) ∧ Below w.heap.size w W
def SplitX (w : World) (c : Code) (pre : List (List UInt8 × Int)) (W : World) : Prop := (c = .exit 0 ∧ EndsAt w.heap.size (w.heap.size + 1) pre W) ∧ Below w.heap.size w W
theorem splitI_own (w : World) (B : Nat) (hB : w.heap.size ≤ B) : OwnFrom B (SplitI w) :=
  OwnFrom.and (OwnFrom.and (Own.from (holdsRow_own w.heap.size w.heap.size 32 9 1 (fun pre => pre.length) (fun pre => strVs (fsts pre)) (fun _ _ => True)) _)
    (OwnFrom.and (Own.from (boxed_own _ _ (fun _ => .int .i64 0)) _) (OwnFrom.and (Own.from (isT_own _ _) _) (OwnFrom.and (Own.from (isT_own _ _) _) (ownFrom_pure _ _))))) (ownFrom_below (Nat.le_refl _) hB)
theorem splitX_own (w : World) (B : Nat) (hB : w.heap.size ≤ B) (c : Code) : OwnFrom B (SplitX w c) :=
  OwnFrom.and (Own.from (fun s A C row hs hg hr => by
    obtain ⟨hc, ini, q, e, e1, e2, e3, e4⟩ := hs
    exact ⟨hc, ini, q, e, e1, e2, boxed_own _ _ (fun (_ : Unit) => .slice none 0 0) () A C row e3 hg hr, boxed_own _ _ (fun (_ : Unit) => .int .i64 e) () A C row e4 hg hr⟩) _) (ownFrom_below (Nat.le_refl _) hB)
theorem splitI_abides (w : World) : AbidesR (w.heap.size + 1 + 1) 51 (SplitI w) := by
  rintro pre A B ⟨⟨⟨v, hv, hr, _⟩, hw, _, tl, hz⟩, hB⟩ hg ta tb
  refine ⟨⟨⟨v, hv.kept hg (by simp; omega), hr.kept hg (.inr (fun e => ta.not_row (by decide) hr e.symm)), trivial⟩, hw.kept hg (by simp), tb, tl.kept (hg.block _ tl.lt (by simp)), hz⟩, hB.grown hg hB.size (fun k e => by cases e; omega)⟩

set_option maxRecDepth 100000 in
set_option maxHeartbeats 8000000 in
theorem split_any (s : List UInt8) (hs : s.length ≤ 1000000) (w : World) (hT : Tab w) : Calls Tryd.prog 21 #[.string ⟨s.toArray⟩] w (SplitPost s w) := by
  obtain ⟨i0, hi, hz0, hz1, hz2⟩ := info_parts info_str
  have HI0 := Lib.hid hi; have HZ0 := Lib.hid hz0; have HZ1 := Lib.hid hz1; have HZ2 := Lib.hid hz2
  clear hi hz0 hz1 hz2
  have hN := yields_length s hs
  refine (callsIn_wide (n := 4)).1 ?_
  refine callsIn_of_wp_marks Tryd.func21 rfl trivial ?_ rfl
  simp only [Tryd.ntmps21, List.size_toArray, List.length_cons, List.length_nil, Nat.reduceAdd, Nat.reduceSub, Array.replicate_succ, Array.replicate_zero, List.push_toArray, List.append_toArray, List.nil_append, List.cons_append]
  rw [wpIn_wide]
  go_wp2
  go_step3
  go_wp2
  go_step3
  go_wp2_with (go_at_call 28; refine (frames_any _ _).mono ?_; rintro e w' ⟨rfl, rfl⟩)
  have hv := ((((Boxed.new w 32 (.slice none 0 0)).alloc (.cells #[.int .i64 0] 24)).alloc (.cells #[.string ⟨s.toArray⟩] 51)).alloc (.cells #[.pointer (some ⟨w.heap.size + 1 + 1, 0, none⟩)] 66))
  have hw := (((Boxed.new (w.alloc (.cells #[.slice none 0 0] 32)) 24 (.int .i64 0)).alloc (.cells #[.string ⟨s.toArray⟩] 51)).alloc (.cells #[.pointer (some ⟨w.heap.size + 1 + 1, 0, none⟩)] 66))
  have bR := ((Blk.new ((w.alloc (.cells #[.slice none 0 0] 32)).alloc (.cells #[.int .i64 0] 24)) 51 #[.string ⟨s.toArray⟩]).alloc (.cells #[.pointer (some ⟨w.heap.size + 1 + 1, 0, none⟩)] 66))
  have bl := Blk.new (((w.alloc (.cells #[.slice none 0 0] 32)).alloc (.cells #[.int .i64 0] 24)).alloc (.cells #[.string ⟨s.toArray⟩] 51)) 66 #[.pointer (some ⟨w.heap.size + 1 + 1, 0, none⟩)]
  have hB0 : Below w.heap.size w ((((w.alloc (.cells #[.slice none 0 0] 32)).alloc (.cells #[.int .i64 0] 24)).alloc (.cells #[.string ⟨s.toArray⟩] 51)).alloc (.cells #[.pointer (some ⟨w.heap.size + 1 + 1, 0, none⟩)] 66)) := ((((Below.refl _ w).alloc (Nat.le_refl _) _).alloc (by simp) _).alloc (by simp; omega) _).alloc (by simp; omega) _
  have hsz : ((((w.alloc (.cells #[.slice none 0 0] 32)).alloc (.cells #[.int .i64 0] 24)).alloc (.cells #[.string ⟨s.toArray⟩] 51)).alloc (.cells #[.pointer (some ⟨w.heap.size + 1 + 1, 0, none⟩)] 66)).heap.size = w.heap.size + 4 := by simp
  simp only [World.size_alloc] at hw bR bl
  generalize ((((w.alloc (.cells #[.slice none 0 0] 32)).alloc (.cells #[.int .i64 0] 24)).alloc (.cells #[.string ⟨s.toArray⟩] 51)).alloc (.cells #[.pointer (some ⟨w.heap.size + 1 + 1, 0, none⟩)] 66)) = W0 at *
  have hT0 := hT.below hB0
  have hgl : 0 < w.heap.size := hT.lt
  have hFS := frames_stops 3 (by decide) (w.heap.size + 1 + 1 + 1) (w.heap.size + 1 + 1) (by omega) (by omega) s hs W0 hT0 bl bR
  have tR : IsT (w.heap.size + 1 + 1) 51 W0 := ⟨_, _, bR⟩
  have tl : IsT (w.heap.size + 1 + 1 + 1) 66 W0 := ⟨_, _, bl⟩
  refine (wpIn_wide (n := 4)).1 ?_
  refine wpIn_rangeFunc_state (n := 4) rfl (by decide) (gf := 34) (lb := #[.pointer (some ⟨w.heap.size + 1 + 1 + 1, 0, none⟩)]) rfl trivial (enters_of Tryd.func34 (by kernel_rfl) rfl)
    hFS (by omega) keeps3_t (fun W l o hl => keeps3_b (B := W0.heap.size) (by omega) (by omega) (by omega) W l o hl) (fun _ => rfl)
    (SplitI w) (SplitX w) (splitI_own w _ (by omega)) (splitX_own w _ (by omega)) (splitI_abides w)
    ⟨⟨⟨_, hv, World.ownsRow_nil W0 _ _ _, trivial⟩, hw, tR, tl, fun p hp => by cases hp⟩, hB0⟩
    (fun x => { tmps := #[.string ⟨s.toArray⟩, undef, .slice none 0 0, .int .i64 0, .pointer (some ⟨w.heap.size, 0, none⟩), .pointer (some ⟨w.heap.size + 1, 0, none⟩), .pointer (some ⟨w.heap.size + 1 + 1, 0, none⟩), .string ⟨x.1.toArray⟩, .int .i64 x.2, .string ⟨s.toArray⟩, .agg #[.string ⟨s.toArray⟩], .agg #[.string ⟨s.toArray⟩], .func (.func 34) #[] #[.pointer (some ⟨w.heap.size + 1 + 1 + 1, 0, none⟩)], .string ⟨x.1.toArray⟩, .int .i64 x.2, undef, undef, undef, undef, undef, undef, undef, undef, undef, undef], defers := [] }) ?assign ?body ?done ?stop
  case assign =>
    intro l x W K hK
    gi_wp2
    exact hK
  case body =>
    rintro l pre ⟨b, c⟩ W ⟨⟨⟨v, hv, hrow, _⟩, hw, tR, tl, hz⟩, hB⟩ hlt
    dsimp only
    by_cases hc : c = 0
    · subst hc
      have c1 := hv.cell
      gi_wp2_with (gi_at_builtin; refine wpListIn_append_own _ rfl _ _ 32 rfl w.heap.size 9 i0 (.string ⟨#[]⟩) 1 16 Tryd.underlying32 HI0.out HZ0.out HZ1.out HZ2.out rfl (by decide) _ _ _ rfl (hrow.alloc _) ⟨W.heap.size, 0, none⟩ 1 1 [.string ⟨b.toArray⟩] rfl rfl (cell_one_new _ _ _) (by simp [Value.oneCell']) (by unfold maxLen; omega) (by omega) (by have := hB.size; simp; omega) ?_; intro v' w1 hown' hgrow _; obtain ⟨g', cap', rfl⟩ := ownsRow_succ hown'; obtain ⟨hv1, hv2, hr2, hk2, hb2⟩ := hv.appended (by decide) hrow hB.size (Nat.le_refl _) hown' hgrow; have hc1 := hv1.cell; have hf1 := hv1.frozen)
      have hlow : ∀ k, k < w.heap.size → some k ≠ v.ownBlock := fun k hk e => by have := (hrow.lt k e.symm).1; omega
      have hwr := hw.not_row (by decide) hrow
      refine ⟨hk2, ⟨keeps_appended hgrow (by have := hB.size; omega) (hlow _ hgl) (by omega), keeps_appended hgrow tl.lt (tl.not_row (by decide) hrow) (by omega), keeps_appended hgrow tR.lt (tR.not_row (by decide) hrow) (by omega)⟩, ⟨⟨⟨_, hv2, ?_, trivial⟩, ?_, ?_, ?_, ?_⟩, hB.trans hb2⟩⟩
      · rw [List.length_append, fsts_snoc, strVs_snoc]
        exact hr2
      · exact ((hw.alloc _).kept hgrow hwr).other (by omega) _
      · exact tR.kept (keeps_appended hgrow tR.lt (tR.not_row (by decide) hrow) (by omega))
      · exact tl.kept (keeps_appended hgrow tl.lt (tl.not_row (by decide) hrow) (by omega))
      · intro p hp
        rcases List.mem_append.1 hp with hp | hp
        · exact hz p hp
        · rw [List.mem_singleton.1 hp]
    · have c1 := hv.cell
      have f1 := hv.frozen
      have c2 := hw.cell
      have f2 := hw.frozen
      have hne : (c == 0) = false := by simpa using hc
      have h3 := (hv.set (.slice none 0 0))
      have h4 := (hw.other (B' := w.heap.size) (by omega) (.slice none 0 0))
      have h5 := h3.other (B' := w.heap.size + 1) (by omega) (.int .i64 c)
      have h6 := h4.set (.int .i64 c)
      have c4 := h4.cell
      have f4 := h4.frozen
      gi_wp2
      exact ⟨(KeepsOthers.setCell _ _ _).trans (KeepsOthers.setCell _ _ _), ⟨rfl, pre, b, c, rfl, hc, h5, h6⟩, (hB.setCell (p := ⟨w.heap.size, 0, none⟩) (Nat.le_refl _) _).setCell (p := ⟨w.heap.size + 1, 0, none⟩) (by simp) _⟩
  case done =>
    rintro D ys W hD rfl ⟨⟨⟨v, hv, hrow, _⟩, hw, _, _, hz⟩, hB⟩ hK
    obtain ⟨hc0, hl0⟩ := yields_all hz
    have hown : OwnS w.heap.size W v (slist s) := by
      rw [← hl0]
      unfold OwnS
      rw [show (fsts (yields s)).length = (yields s).length by simp [fsts]]
      exact hrow
    have HP : Hid (∀ W' : World, W' = (W.drew).putObj D (.deferred none) → SplitPost s w (.returned (.tuple #[v, .int .i64 0])) W') := Lib.hid (fun W' e => by
      subst e
      refine ⟨hB.drew.trans (belowK_b (w := w) (Nat.le_refl _) W.drew D _ _ (by omega) hK rfl rfl), .inl ⟨hc0, v, rfl, ?_⟩⟩
      exact ownsRow_putObj (W := W.drew) hown (.deferred none) hK rfl)
    have hK' : W.drew.heap[D]? = some (.deferred (some [])) := hK
    clear hz hc0 hl0
    obtain ⟨x, cp, rfl⟩ : ∃ x cp, v = .slice x (slist s).length cp := (strs_own hown).2
    have c1 := hv.cell
    have c2 := hw.cell
    clear hrow hown hN
    generalize (slist s).length = k at *
    go_wp2
    refine wp_region_noPanic ?_
    go_region
    all_goals
      refine NoPanic.normal ?_
      go_wp2
      rw [Exit.noGoto_ret]
      exact ⟨by simp, .inl ⟨_, _, rfl, run_takeDeferred hK', _, results_tmp2 (t := 2) (u := 3) rfl _ _ _, HP.out _ rfl⟩⟩
  case stop =>
    rintro D c pre W hD hS ⟨⟨rfl, ini, q, e, e1, e2, h1, h2⟩, hB⟩ hK
    rw [e1] at hS
    have hcode := yields_stop hS e2
    have c1 := h1.cell
    have c2 := h2.cell
    have HP : Hid (∀ W' : World, W' = (W.drew).putObj D (.deferred none) → SplitPost s w (.returned (.tuple #[.slice none 0 0, .int .i64 e])) W') := Lib.hid (fun W' h => by
      subst h
      exact ⟨hB.drew.trans (belowK_b (w := w) (Nat.le_refl _) W.drew D _ _ (by omega) hK rfl rfl), .inr ⟨by rw [hcode]; exact e2, by rw [hcode]⟩⟩)
    have hK' : W.drew.heap[D]? = some (.deferred (some [])) := hK
    clear hS e1 hcode
    refine (wpIn_wide (n := 4)).2 ?_
    go_wp2
    refine wp_region_noPanic ?_
    go_region
    all_goals
      refine NoPanic.normal ?_
      go_wp2
      rw [Exit.noGoto_ret]
      exact ⟨by simp, .inl ⟨_, _, rfl, run_takeDeferred hK', _, results_tmp2 (t := 2) (u := 3) rfl _ _ _, HP.out _ rfl⟩⟩
end Go.Proofs.YtkjiinhcmhoejaaDoor
