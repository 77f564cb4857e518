/- (*reader).list: how many words there are, and these. -/
import Derived.Test.YthoegicchjadaaaDoorDIter
import Derived.Test.YthoegicchjadaaaDoorDBuild
import Derived.Stop.RegionWithIn
import Derived.Deep.DeepCutAuto
namespace Go.Proofs.YthoegicchjadaaaDoor
open Go.RowKit
attribute [local go_sem] Oper.semAt_some

/-- What is told of the list that s begins with. -/
def lc (s : List UInt8) : Int := if uc 1000 s ≠ 0 then uc 1000 s else rcodes (vnum s) [] (vrest s)
theorem lc_cases (s : List UInt8) : (uc 1000 s ≠ 0 ∧ lc s = uc 1000 s ∧ un 1000 s = 0) ∨ (uc 1000 s = 0 ∧ lc s = rcodes (un 1000 s) [] (ur 1000 s) ∧ un 1000 s = vnum s ∧ ur 1000 s = vrest s ∧ vnum s ≤ 1000) := by
  by_cases h : uc 1000 s = 0
  · refine .inr ⟨h, ?_⟩
    have h1 := uc_zero h
    have e1 : un 1000 s = vnum s := by unfold un; rw [if_pos h]
    have e2 : ur 1000 s = vrest s := by unfold ur; rw [if_pos h]
    refine ⟨?_, e1, e2, h1.2⟩
    unfold lc
    rw [if_neg (by simp [h]), e1, e2]
  · exact .inl ⟨h, by unfold lc; rw [if_pos h], by unfold un; rw [if_neg h]⟩
def ListPost (R : Nat) (s : List UInt8) (w : World) (e : Ending) (w' : World) : Prop :=
  ∃ v, e = .returned (.tuple #[v, flt (lc s)]) ∧ w.grownBy w' (some R) ∧ (lc s = 0 → OwnS w.heap.size w' v (rlist (vnum s) [] (vrest s)) ∧ Rd R (rrests (vnum s) [] (vrest s)) w')
theorem make_cap (n : Nat) (hn : n ≤ 100000) (W : World) : (Instr.makeSlice 22 (.int .i64 0) (.int .i64 n)).run Tryd.prog W = .ok (.slice (some ⟨W.heap.size, 0, .none⟩) 0 n) (W.alloc (.cells (madeCells #[Value.string ⟨#[]⟩] n) 9)) := by
  obtain ⟨i0, hi, hz0, hz1, hz2⟩ := info_parts info_str
  have h := run_make (P := Tryd.prog) W 22 9 i0 (.string ⟨#[]⟩) Tryd.underlying22 hi hz0 .i64 .i64 0 n (by omega) (by omega) (by rw [hz2]; omega) (by omega)
  rw [hz1] at h
  rw [h]
  simp [Value.cells]
theorem ownFrom_grown {β : Type} {w : World} {R B : Nat} (hB : w.heap.size ≤ B) : OwnFrom B (fun (_ : β) W => w.grownBy W (some R)) := fun _ X Y row hs hg hr =>
  ⟨hg.os.trans hs.os, hg.tape.trans hs.tape, hg.output.trans hs.output, Nat.le_trans hs.size hg.size, fun k hk hne => (hg.block k (Nat.lt_of_lt_of_le hk hs.size) (fun e => by have := (hr k e.symm).1; omega)).trans (hs.block k hk hne)⟩
theorem grown_up {w W W' : World} {R : Nat} (h : w.grownBy W (some R)) {row : Option Nat} (hg : W.grownBy W' row) (hr : ∀ k, row = some k → w.heap.size ≤ k) : w.grownBy W' (some R) :=
  ⟨hg.os.trans h.os, hg.tape.trans h.tape, hg.output.trans h.output, Nat.le_trans h.size hg.size, fun k hk hne => (hg.block k (Nat.lt_of_lt_of_le hk h.size) (fun e => by have := hr k e.symm; omega)).trans (h.block k hk hne)⟩
theorem grown_below' {w W W' : World} {R n : Nat} (h : w.grownBy W (some R)) (hb : Below n W W') (hn : w.heap.size ≤ n) : w.grownBy W' (some R) :=
  ⟨hb.os.trans h.os, hb.tape.trans h.tape, hb.output.trans h.output, Nat.le_trans h.size hb.size, fun k hk hne => (hb.block k (by omega)).trans (h.block k hk hne)⟩
/-- What holds between two rounds: E, L: the boxes of the error and of the list; Bl: the one that the reader's address was boxed in. -/
def ListI (w : World) (R E L Bl : Nat) (c : Int) (pre : List (List UInt8 × Int)) (W : World) : Prop :=
  ((∃ v, Boxed W L 22 v ∧ W.ownsRow w.heap.size 9 1 v pre.length (strVs (fsts pre)) ∧ True) ∧ Boxed W E 62 (flt c) ∧ IsT R 60 W ∧ IsT Bl 85 W ∧ AllZ pre) ∧ w.grownBy W (some R)
def EndsAt (L E : Nat) (pre : List (List UInt8 × Int)) (W : World) : Prop := ∃ ini q e, pre = ini ++ [(q, e)] ∧ e ≠ 0 ∧ Boxed W L 22 (.slice none 0 0) ∧ Boxed W E 62 (flt e)
def ListX (w : World) (R E L : Nat) (c : Code) (pre : List (List UInt8 × Int)) (W : World) : Prop := (c = .exit 0 ∧ EndsAt L E pre W ∧ IsT R 60 W) ∧ w.grownBy W (some R)
theorem listI_own (w : World) (R E L Bl : Nat) (c : Int) (B : Nat) (hB : w.heap.size ≤ B) : OwnFrom B (ListI w R E L Bl c) :=
  OwnFrom.and (OwnFrom.and (Own.from (holdsRow_own w.heap.size L 22 9 1 (fun pre => pre.length) (fun pre => strVs (fsts pre)) (fun _ _ => True)) _)
    (OwnFrom.and (Own.from (boxed_own _ _ (fun _ => flt c)) _) (OwnFrom.and (Own.from (isT_own _ _) _) (OwnFrom.and (Own.from (isT_own _ _) _) (ownFrom_pure _ _))))) (ownFrom_grown hB)
theorem listX_own (w : World) (R E L : Nat) (B : Nat) (hB : w.heap.size ≤ B) (c : Code) : OwnFrom B (ListX w R E L c) :=
  OwnFrom.and (Own.from (fun s A C row hs hg hr => by
    obtain ⟨hc, ⟨ini, q, e, e1, e2, e3, e4⟩, e5⟩ := hs
    exact ⟨hc, ⟨ini, q, e, e1, e2, boxed_own _ _ (fun (_ : Unit) => .slice none 0 0) () A C row e3 hg hr, boxed_own _ _ (fun (_ : Unit) => flt e) () A C row e4 hg hr⟩, isT_own R 60 () A C row e5 hg hr⟩) _) (ownFrom_grown hB)
theorem listI_abides (w : World) (R E L Bl : Nat) (c : Int) (hR : R < w.heap.size) (hE : E ≠ R) (hL : L ≠ R) (hB : Bl ≠ R) : AbidesR R 60 (ListI w R E L Bl c) := by
  rintro pre A B ⟨⟨⟨v, hv, hr, _⟩, hw, _, tl, hz⟩, hB'⟩ hg ta tb
  refine ⟨⟨⟨v, hv.kept hg (by simp [hL]), hr.kept hg (.inr (fun e => ta.not_row (by decide) hr e.symm)), trivial⟩, hw.kept hg (by simp [hE]), tb, tl.kept (hg.block _ tl.lt (by simp [hB])), hz⟩, grown_trans hB' hg⟩
theorem leftZ_own (count R : Nat) (s : List UInt8) (B : Nat) : OwnFrom B (LeftZ count R s) := by
  intro ys X Y row hs hg hr h
  have hb := hs h
  refine (hg.block R hb.lt (fun e => ?_)).trans hb
  obtain ⟨_, o, ho, hc⟩ := hr R e.symm
  rw [show X.heap[R]? = _ from hb] at ho
  cases ho
  cases hc

set_option maxRecDepth 100000 in
set_option maxHeartbeats 8000000 in
theorem list_any {n₀ : Nat} (a b : Addr) (R : Nat) (s : List UInt8) (hs : s.length ≤ 9223372036854775807) (w : World) (hS : Sent n₀ w a b) (hn₀ : n₀ ≤ w.heap.size) (hn₁ : n₀ ≤ R) (hR : Rd R s w) :
    Calls Tryd.prog 55 #[.pointer (some ⟨R, 0, none⟩)] w (ListPost R s w) := by
  obtain ⟨i0, hi, hz0, hz1, hz2⟩ := info_parts info_str
  have HI0 := Lib.hid hi; have HZ0 := Lib.hid hz0; have HZ1 := Lib.hid hz1; have HZ2 := Lib.hid hz2
  clear hi hz0 hz1 hz2
  have hRl := hR.lt
  have HU := Lib.hid (upto_any a b R 1000 s hs (by omega) w hS hn₀ hR)
  have hul : un 1000 s ≤ 1000 ∧ (ur 1000 s).length ≤ s.length := by
    rcases lc_cases s with ⟨h, _, e⟩ | ⟨_, _, e1, e2, h⟩
    · refine ⟨by omega, ?_⟩
      unfold ur; rw [if_neg h]; exact Nat.le_refl _
    · rw [e1, e2]
      exact ⟨h, vrest_le s⟩
  have HLC := Lib.hid (lc_cases s)
  obtain ⟨hul, hrl⟩ := hul
  unfold UptoPost at HU
  generalize un 1000 s = c at *
  generalize ur 1000 s = s1 at *
  generalize uc 1000 s = e0 at *
  have HMK := Lib.hid (make_cap c (by omega))
  obtain ⟨ev, hev⟩ : ∃ ev, flt e0 = ev := ⟨_, rfl⟩
  have hform : ev = .nilIface ∨ ∃ x, ev = .iface 56 x := by
    rw [← hev]
    by_cases h : e0 = 0
    · rw [h]; exact .inl rfl
    · exact .inr ⟨_, flt_ne h⟩
  rw [hev] at HU
  have HR := Lib.hid hRl
  refine (callsIn_wide (n := 4)).1 ?_
  refine callsIn_of_wp_marks Tryd.func55 rfl trivial ?_ rfl
  simp only [Tryd.ntmps55, List.size_toArray, List.length_cons, List.length_nil, Nat.reduceAdd, Nat.reduceSub, Array.replicate_succ, Array.replicate_zero, List.push_toArray, List.append_toArray, List.nil_append, List.cons_append]
  rw [wpIn_wide]
  rcases hform with rfl | ⟨x, rfl⟩
  · have HEV := Lib.hid hev
    clear hev
    go_wp2
    go_step3
    go_wp2_with fail
    refine HU.out.mono ?_
    rintro e w1 ⟨rfl, hg1, hR1⟩
    have hmk := HMK.out
    clear HMK
    go_wp2
    go_step3
    go_wp2_with (go_at_call 75; refine (words_any _ _ _).mono ?_; rintro e w' ⟨rfl, rfl⟩)
    have hv := (((((Boxed.new ((w1.alloc (.cells #[.nilIface] 62)).alloc (.cells (madeCells #[Value.string ⟨#[]⟩] c) 9)) 22 (.slice (some ⟨w1.heap.size + 1, 0, none⟩) 0 c))).alloc (.cells #[.pointer (some ⟨R, 0, none⟩)] 85)).alloc (.cells #[.int .i64 c] 3)))
    have hw := ((((Boxed.new w1 62 .nilIface).alloc (.cells (madeCells #[Value.string ⟨#[]⟩] c) 9)).alloc (.cells #[.slice (some ⟨w1.heap.size + 1, 0, none⟩) 0 c] 22)).alloc (.cells #[.pointer (some ⟨R, 0, none⟩)] 85)).alloc (.cells #[.int .i64 c] 3)
    have hrow := ((((World.ownsRow_made (w1.alloc (.cells #[.nilIface] 62)) (base := w.heap.size) (e := 9) (size := 1) (madeCells #[Value.string ⟨#[]⟩] c) c (Nat.le_trans hg1.size (by simp)) (by unfold maxLen; omega) (by rw [size_madeCells]; omega)).alloc (.cells #[.slice (some ⟨w1.heap.size + 1, 0, none⟩) 0 c] 22)).alloc (.cells #[.pointer (some ⟨R, 0, none⟩)] 85)).alloc (.cells #[.int .i64 c] 3))
    have bl := (Blk.new (((w1.alloc (.cells #[.nilIface] 62)).alloc (.cells (madeCells #[Value.string ⟨#[]⟩] c) 9)).alloc (.cells #[.slice (some ⟨w1.heap.size + 1, 0, none⟩) 0 c] 22)) 85 #[.pointer (some ⟨R, 0, none⟩)]).alloc (.cells #[.int .i64 c] 3)
    have bc := Blk.new ((((w1.alloc (.cells #[.nilIface] 62)).alloc (.cells (madeCells #[Value.string ⟨#[]⟩] c) 9)).alloc (.cells #[.slice (some ⟨w1.heap.size + 1, 0, none⟩) 0 c] 22)).alloc (.cells #[.pointer (some ⟨R, 0, none⟩)] 85)) 3 #[.int .i64 c]
    have hB0 : Below w1.heap.size w1 (((((w1.alloc (.cells #[.nilIface] 62)).alloc (.cells (madeCells #[Value.string ⟨#[]⟩] c) 9)).alloc (.cells #[.slice (some ⟨w1.heap.size + 1, 0, none⟩) 0 c] 22)).alloc (.cells #[.pointer (some ⟨R, 0, none⟩)] 85)).alloc (.cells #[.int .i64 c] 3)) := (((((Below.refl _ w1).alloc (Nat.le_refl _) _).alloc (by simp) _).alloc (by simp; omega) _).alloc (by simp; omega) _).alloc (by simp; omega) _
    have hsz : (((((w1.alloc (.cells #[.nilIface] 62)).alloc (.cells (madeCells #[Value.string ⟨#[]⟩] c) 9)).alloc (.cells #[.slice (some ⟨w1.heap.size + 1, 0, none⟩) 0 c] 22)).alloc (.cells #[.pointer (some ⟨R, 0, none⟩)] 85)).alloc (.cells #[.int .i64 c] 3)).heap.size = w1.heap.size + 5 := by simp
    simp only [World.size_alloc] at hv hw hrow bl bc
    generalize (((((w1.alloc (.cells #[.nilIface] 62)).alloc (.cells (madeCells #[Value.string ⟨#[]⟩] c) 9)).alloc (.cells #[.slice (some ⟨w1.heap.size + 1, 0, none⟩) 0 c] 22)).alloc (.cells #[.pointer (some ⟨R, 0, none⟩)] 85)).alloc (.cells #[.int .i64 c] 3)) = W0 at *
    have hS1 := (hS.below (grown_below hg1 hn₁ hn₀)).below (hB0.mono (Nat.le_trans hn₀ hg1.size))
    have hws := hg1.size
    have hR0 := hR1.under hB0
    have hg0 := grown_below' hg1 hB0 hg1.size
    have tR : IsT R 60 W0 := ⟨_, _, hR0⟩
    have tl : IsT (w1.heap.size + 1 + 1 + 1) 85 W0 := ⟨_, _, bl⟩
    have hRl' := HR.out
    refine (wpIn_wide (n := 4)).1 ?_
    refine wpIn_rangeFunc_told (n := 4) rfl (by decide) (gf := 88) (lb := #[.pointer (some ⟨w1.heap.size + 1 + 1 + 1 + 1, 0, none⟩), .pointer (some ⟨w1.heap.size + 1 + 1 + 1, 0, none⟩)]) rfl trivial (enters_of Tryd.func88 (by kernel_rfl) rfl)
      (words_seq a b 3 (by decide) (w1.heap.size + 1 + 1 + 1 + 1) (w1.heap.size + 1 + 1 + 1) R c (by omega) hn₁ hul s1 (by omega) W0 hS1 (by omega) bc bl hR0) (leftZ_own c R s1 _) (by omega) keepD_t (fun W l o hl => keepD_b (N := W0.heap.size) (by omega) (by omega) (by omega) W l o hl) (fun _ => rfl)
      (ListI w R w1.heap.size (w1.heap.size + 1 + 1) (w1.heap.size + 1 + 1 + 1) e0) (ListX w R w1.heap.size (w1.heap.size + 1 + 1)) (listI_own w R _ _ _ e0 _ (by omega)) (listX_own w R _ _ _ (by omega)) (listI_abides w R _ _ _ e0 (by omega) (by omega) (by omega) (by omega))
      ⟨⟨⟨_, hv, hrow, trivial⟩, by rw [HEV.out]; exact hw, tR, tl, fun p hp => by cases hp⟩, hg0⟩
      (fun y => { tmps := #[.pointer (some ⟨R, 0, none⟩), undef, .slice none 0 0, .nilIface, .int .i64 c, .pointer (some ⟨w1.heap.size, 0, none⟩), .pointer (some ⟨w1.heap.size + 1 + 1, 0, none⟩), .string ⟨y.1.toArray⟩, flt y.2, .tuple #[.int .i64 c, .nilIface], .pointer (some ⟨R, 0, none⟩), .tuple #[.int .i64 c, .nilIface], .int .i64 c, .nilIface, .int .i64 c, .slice (some ⟨w1.heap.size + 1, 0, none⟩) 0 c, .pointer (some ⟨R, 0, none⟩), .int .i64 c, .func (.func 88) #[] #[.pointer (some ⟨w1.heap.size + 1 + 1 + 1 + 1, 0, none⟩), .pointer (some ⟨w1.heap.size + 1 + 1 + 1, 0, none⟩)], .string ⟨y.1.toArray⟩, flt y.2, undef, undef, undef, undef, undef, undef, undef, undef, undef], defers := [] }) ?assign ?body ?done ?stop
    case assign =>
      intro l y W K hK
      gi_wp2
      exact hK
    case body =>
      rintro l pre ⟨t, d⟩ W ⟨⟨⟨v, hv, hrow, _⟩, hw, tR, tl, hz⟩, hg⟩ hlt
      dsimp only
      have hgs := hg.size
      by_cases hd : d = 0
      · subst hd
        rw [flt_zero]
        have c1 := hv.cell
        gi_wp2_with (gi_at_builtin; refine wpListIn_append_own _ rfl _ _ 22 rfl w.heap.size 9 i0 (.string ⟨#[]⟩) 1 16 Tryd.underlying22 HI0.out HZ0.out HZ1.out HZ2.out rfl (by decide) _ _ _ rfl (hrow.alloc _) ⟨W.heap.size, 0, none⟩ 1 1 [.string ⟨t.toArray⟩] rfl rfl (cell_one_new _ _ _) (by simp [Value.oneCell']) (by unfold maxLen; omega) (by omega) (by simp; omega) ?_; intro v' w3 hown' hgrow _; obtain ⟨g', cap', rfl⟩ := ownsRow_succ hown'; obtain ⟨hv1, hv2, hr2, hk2, hb2⟩ := hv.appended (by decide) hrow hgs (by omega) hown' hgrow; have hc1 := hv1.cell; have hf1 := hv1.frozen)
        have hlow : ∀ k, k < w.heap.size → some k ≠ v.ownBlock := fun k hk e => by have := (hrow.lt k e.symm).1; omega
        have hwr := hw.not_row (by decide) hrow
        refine ⟨hk2, ⟨hb2.mono hn₀, keeps_appended hgrow tl.lt (tl.not_row (by decide) hrow) (by omega), keeps_appended hgrow tR.lt (tR.not_row (by decide) hrow) (by omega)⟩, ⟨⟨⟨_, hv2, ?_, trivial⟩, ?_, ?_, ?_, ?_⟩, grown_below' hg hb2 (Nat.le_refl _)⟩⟩
        · rw [List.length_append, fsts_snoc, strVs_snoc]
          exact hr2
        · exact ((hw.alloc _).kept hgrow hwr).other (by omega) _
        · exact tR.kept (keeps_appended hgrow tR.lt (tR.not_row (by decide) hrow) (by omega))
        · exact tl.kept (keeps_appended hgrow tl.lt (tl.not_row (by decide) hrow) (by omega))
        · intro p hp
          rcases List.mem_append.1 hp with hp | hp
          · exact hz p hp
          · rw [List.mem_singleton.1 hp]
      · have c1 := hv.cell
        have f1 := hv.frozen
        have c2 := hw.cell
        have f2 := hw.frozen
        have h3 := (hv.set (.slice none 0 0))
        have h4 := (hw.other (B' := w1.heap.size + 1 + 1) (by omega) (.slice none 0 0))
        have h5 := h3.other (B' := w1.heap.size) (by omega) (flt d)
        have h6 := h4.set (flt d)
        rw [flt_ne hd] at h5 h6 ⊢
        have c4 := h4.cell
        have f4 := h4.frozen
        have HFD := Lib.hid (flt_ne hd)
        gi_wp2
        refine ⟨(KeepsOthers.setCell _ _ _).trans (KeepsOthers.setCell _ _ _), ⟨rfl, ⟨pre, t, d, rfl, hd, h5, by rw [HFD.out]; exact h6⟩, ?_⟩, ?_⟩
        · exact (tR.kept (Below.heap_setCell _ _ _ R (by simp; omega))).kept (Below.heap_setCell _ _ _ R (by simp; omega))
        · exact grown_up (grown_up hg (grownBy_setCell' _ _ _) (fun k e => by cases e; omega)) (grownBy_setCell' _ _ _) (fun k e => by cases e; omega)
    case done =>
      rintro D ys W hD rfl ⟨⟨⟨v, hv, hrow, _⟩, hw, _, _, hz⟩, hg⟩ hZ hK
      obtain ⟨hc0, hl0⟩ := yl_all c [] s1 hz
      have hZ' := hZ hz
      have hec : lc s = e0 := by
        rcases HLC.out with ⟨h1, h2, h3⟩ | ⟨h1, h2, _⟩
        · exact h2
        · rw [h2, hc0, h1]
      have HP : Hid (∀ W' : World, W' = (W.drew).putObj D (.deferred none) → ListPost R s w (.returned (.tuple #[v, .nilIface])) W') := Lib.hid (fun W' h => by
        subst h
        refine ⟨v, by rw [hec, HEV.out], grown_up (grown_drew hg) (grownBy_putObj' _ _ _) (fun k e => by cases e; omega), fun h0 => ?_⟩
        rcases HLC.out with ⟨h1, h2, h3⟩ | ⟨h1, h2, h3, h4, h5⟩
        · rw [h2] at h0; exact absurd h0 h1
        · rw [← h3, ← h4]
          refine ⟨?_, ?_⟩
          · have := ownsRow_putObj (W := W.drew) hrow.drew (.deferred none) hK rfl
            unfold OwnS
            rw [← hl0, show (fsts (yl c [] s1)).length = (yl c [] s1).length by simp [fsts]]
            exact this
          · exact (World.putObj_heap_other (by omega)).trans hZ')
      have hK' : W.drew.heap[D]? = some (.deferred (some [])) := hK
      clear hz hc0 hl0 hZ hZ' hec
      obtain ⟨x0, cp, rfl⟩ : ∃ x0 cp, v = .slice x0 (yl c [] s1).length cp := by
        rcases hrow.2 with ⟨rfl, h0⟩ | ⟨g, cap, cur, rfl, _⟩
        · exact ⟨none, 0, by rw [h0]⟩
        · exact ⟨_, cap, rfl⟩
      have c1 := hv.cell
      have c2 := hw.cell
      rw [HEV.out] at c2
      clear hrow
      generalize (yl c [] s1).length = k at *
      go_wp2
      refine wp_region_noPanic ?_
      go_region
      all_goals
        refine NoPanic.normal ?_
        go_wp2
        rw [Exit.noGoto_ret]
        exact ⟨by simp, .inl ⟨_, _, rfl, run_takeDeferred hK', _, results_tmp2 (t := 2) (u := 3) rfl _ _ _, HP.out _ rfl⟩⟩
    case stop =>
      rintro D cd pre W hD hSp ⟨⟨rfl, ⟨ini, q, d, e1, e2, h1, h2⟩, tR⟩, hg⟩ hK
      rw [e1] at hSp
      have hcode := yl_stop hSp e2
      have hne : c ≠ 0 := fun h => by
        rw [h, yl] at hSp
        have := hSp.length_le
        simp at this
      have hec : lc s = d := by
        rcases HLC.out with ⟨_, _, h3⟩ | ⟨_, h2, _⟩
        · exact absurd h3 hne
        · rw [h2, hcode]
      have HP : Hid (∀ W' : World, W' = (W.drew).putObj D (.deferred none) → ListPost R s w (.returned (.tuple #[.slice none 0 0, .iface 56 (.agg #[.int .i64 d])])) W') := Lib.hid (fun W' h => by
        subst h
        refine ⟨.slice none 0 0, by rw [hec, flt_ne e2], grown_up (grown_drew hg) (grownBy_putObj' _ _ _) (fun k e => by cases e; omega), fun h0 => ?_⟩
        rw [hec] at h0
        exact absurd h0 e2)
      rw [flt_ne e2] at h2
      have c1 := h1.cell
      have c2 := h2.cell
      have hK' : W.drew.heap[D]? = some (.deferred (some [])) := hK
      clear hSp e1 hcode hne hec
      refine (wpIn_wide (n := 4)).2 ?_
      go_wp2
      refine wp_region_noPanic ?_
      go_region
      all_goals
        refine NoPanic.normal ?_
        go_wp2
        rw [Exit.noGoto_ret]
        exact ⟨by simp, .inl ⟨_, _, rfl, run_takeDeferred hK', _, results_tmp2 (t := 2) (u := 3) rfl _ _ _, HP.out _ rfl⟩⟩
  · have HEV := Lib.hid hev
    clear hev
    go_wp2
    go_step3
    go_wp2_with fail
    refine HU.out.mono ?_
    rintro e w1 ⟨rfl, hg1, hR1⟩
    have hmk := HMK.out
    clear HMK
    go_wp2
    go_step3
    go_wp2_with (go_at_call 75; refine (words_any _ _ _).mono ?_; rintro e w' ⟨rfl, rfl⟩)
    have hv := (((((Boxed.new ((w1.alloc (.cells #[(.iface 56 x)] 62)).alloc (.cells (madeCells #[Value.string ⟨#[]⟩] c) 9)) 22 (.slice (some ⟨w1.heap.size + 1, 0, none⟩) 0 c))).alloc (.cells #[.pointer (some ⟨R, 0, none⟩)] 85)).alloc (.cells #[.int .i64 c] 3)))
    have hw := ((((Boxed.new w1 62 (.iface 56 x)).alloc (.cells (madeCells #[Value.string ⟨#[]⟩] c) 9)).alloc (.cells #[.slice (some ⟨w1.heap.size + 1, 0, none⟩) 0 c] 22)).alloc (.cells #[.pointer (some ⟨R, 0, none⟩)] 85)).alloc (.cells #[.int .i64 c] 3)
    have hrow := ((((World.ownsRow_made (w1.alloc (.cells #[(.iface 56 x)] 62)) (base := w.heap.size) (e := 9) (size := 1) (madeCells #[Value.string ⟨#[]⟩] c) c (Nat.le_trans hg1.size (by simp)) (by unfold maxLen; omega) (by rw [size_madeCells]; omega)).alloc (.cells #[.slice (some ⟨w1.heap.size + 1, 0, none⟩) 0 c] 22)).alloc (.cells #[.pointer (some ⟨R, 0, none⟩)] 85)).alloc (.cells #[.int .i64 c] 3))
    have bl := (Blk.new (((w1.alloc (.cells #[(.iface 56 x)] 62)).alloc (.cells (madeCells #[Value.string ⟨#[]⟩] c) 9)).alloc (.cells #[.slice (some ⟨w1.heap.size + 1, 0, none⟩) 0 c] 22)) 85 #[.pointer (some ⟨R, 0, none⟩)]).alloc (.cells #[.int .i64 c] 3)
    have bc := Blk.new ((((w1.alloc (.cells #[(.iface 56 x)] 62)).alloc (.cells (madeCells #[Value.string ⟨#[]⟩] c) 9)).alloc (.cells #[.slice (some ⟨w1.heap.size + 1, 0, none⟩) 0 c] 22)).alloc (.cells #[.pointer (some ⟨R, 0, none⟩)] 85)) 3 #[.int .i64 c]
    have hB0 : Below w1.heap.size w1 (((((w1.alloc (.cells #[(.iface 56 x)] 62)).alloc (.cells (madeCells #[Value.string ⟨#[]⟩] c) 9)).alloc (.cells #[.slice (some ⟨w1.heap.size + 1, 0, none⟩) 0 c] 22)).alloc (.cells #[.pointer (some ⟨R, 0, none⟩)] 85)).alloc (.cells #[.int .i64 c] 3)) := (((((Below.refl _ w1).alloc (Nat.le_refl _) _).alloc (by simp) _).alloc (by simp; omega) _).alloc (by simp; omega) _).alloc (by simp; omega) _
    have hsz : (((((w1.alloc (.cells #[(.iface 56 x)] 62)).alloc (.cells (madeCells #[Value.string ⟨#[]⟩] c) 9)).alloc (.cells #[.slice (some ⟨w1.heap.size + 1, 0, none⟩) 0 c] 22)).alloc (.cells #[.pointer (some ⟨R, 0, none⟩)] 85)).alloc (.cells #[.int .i64 c] 3)).heap.size = w1.heap.size + 5 := by simp
    simp only [World.size_alloc] at hv hw hrow bl bc
    generalize (((((w1.alloc (.cells #[(.iface 56 x)] 62)).alloc (.cells (madeCells #[Value.string ⟨#[]⟩] c) 9)).alloc (.cells #[.slice (some ⟨w1.heap.size + 1, 0, none⟩) 0 c] 22)).alloc (.cells #[.pointer (some ⟨R, 0, none⟩)] 85)).alloc (.cells #[.int .i64 c] 3)) = W0 at *
    have hS1 := (hS.below (grown_below hg1 hn₁ hn₀)).below (hB0.mono (Nat.le_trans hn₀ hg1.size))
    have hws := hg1.size
    have hR0 := hR1.under hB0
    have hg0 := grown_below' hg1 hB0 hg1.size
    have tR : IsT R 60 W0 := ⟨_, _, hR0⟩
    have tl : IsT (w1.heap.size + 1 + 1 + 1) 85 W0 := ⟨_, _, bl⟩
    have hRl' := HR.out
    refine (wpIn_wide (n := 4)).1 ?_
    refine wpIn_rangeFunc_told (n := 4) rfl (by decide) (gf := 88) (lb := #[.pointer (some ⟨w1.heap.size + 1 + 1 + 1 + 1, 0, none⟩), .pointer (some ⟨w1.heap.size + 1 + 1 + 1, 0, none⟩)]) rfl trivial (enters_of Tryd.func88 (by kernel_rfl) rfl)
      (words_seq a b 3 (by decide) (w1.heap.size + 1 + 1 + 1 + 1) (w1.heap.size + 1 + 1 + 1) R c (by omega) hn₁ hul s1 (by omega) W0 hS1 (by omega) bc bl hR0) (leftZ_own c R s1 _) (by omega) keepD_t (fun W l o hl => keepD_b (N := W0.heap.size) (by omega) (by omega) (by omega) W l o hl) (fun _ => rfl)
      (ListI w R w1.heap.size (w1.heap.size + 1 + 1) (w1.heap.size + 1 + 1 + 1) e0) (ListX w R w1.heap.size (w1.heap.size + 1 + 1)) (listI_own w R _ _ _ e0 _ (by omega)) (listX_own w R _ _ _ (by omega)) (listI_abides w R _ _ _ e0 (by omega) (by omega) (by omega) (by omega))
      ⟨⟨⟨_, hv, hrow, trivial⟩, by rw [HEV.out]; exact hw, tR, tl, fun p hp => by cases hp⟩, hg0⟩
      (fun y => { tmps := #[.pointer (some ⟨R, 0, none⟩), undef, .slice none 0 0, .nilIface, .int .i64 c, .pointer (some ⟨w1.heap.size, 0, none⟩), .pointer (some ⟨w1.heap.size + 1 + 1, 0, none⟩), .string ⟨y.1.toArray⟩, flt y.2, .tuple #[.int .i64 c, (.iface 56 x)], .pointer (some ⟨R, 0, none⟩), .tuple #[.int .i64 c, (.iface 56 x)], .int .i64 c, (.iface 56 x), .int .i64 c, .slice (some ⟨w1.heap.size + 1, 0, none⟩) 0 c, .pointer (some ⟨R, 0, none⟩), .int .i64 c, .func (.func 88) #[] #[.pointer (some ⟨w1.heap.size + 1 + 1 + 1 + 1, 0, none⟩), .pointer (some ⟨w1.heap.size + 1 + 1 + 1, 0, none⟩)], .string ⟨y.1.toArray⟩, flt y.2, undef, undef, undef, undef, undef, undef, undef, undef, undef], defers := [] }) ?assign ?body ?done ?stop
    case assign =>
      intro l y W K hK
      gi_wp2
      exact hK
    case body =>
      rintro l pre ⟨t, d⟩ W ⟨⟨⟨v, hv, hrow, _⟩, hw, tR, tl, hz⟩, hg⟩ hlt
      dsimp only
      have hgs := hg.size
      by_cases hd : d = 0
      · subst hd
        rw [flt_zero]
        have c1 := hv.cell
        gi_wp2_with (gi_at_builtin; refine wpListIn_append_own _ rfl _ _ 22 rfl w.heap.size 9 i0 (.string ⟨#[]⟩) 1 16 Tryd.underlying22 HI0.out HZ0.out HZ1.out HZ2.out rfl (by decide) _ _ _ rfl (hrow.alloc _) ⟨W.heap.size, 0, none⟩ 1 1 [.string ⟨t.toArray⟩] rfl rfl (cell_one_new _ _ _) (by simp [Value.oneCell']) (by unfold maxLen; omega) (by omega) (by simp; omega) ?_; intro v' w3 hown' hgrow _; obtain ⟨g', cap', rfl⟩ := ownsRow_succ hown'; obtain ⟨hv1, hv2, hr2, hk2, hb2⟩ := hv.appended (by decide) hrow hgs (by omega) hown' hgrow; have hc1 := hv1.cell; have hf1 := hv1.frozen)
        have hlow : ∀ k, k < w.heap.size → some k ≠ v.ownBlock := fun k hk e => by have := (hrow.lt k e.symm).1; omega
        have hwr := hw.not_row (by decide) hrow
        refine ⟨hk2, ⟨hb2.mono hn₀, keeps_appended hgrow tl.lt (tl.not_row (by decide) hrow) (by omega), keeps_appended hgrow tR.lt (tR.not_row (by decide) hrow) (by omega)⟩, ⟨⟨⟨_, hv2, ?_, trivial⟩, ?_, ?_, ?_, ?_⟩, grown_below' hg hb2 (Nat.le_refl _)⟩⟩
        · rw [List.length_append, fsts_snoc, strVs_snoc]
          exact hr2
        · exact ((hw.alloc _).kept hgrow hwr).other (by omega) _
        · exact tR.kept (keeps_appended hgrow tR.lt (tR.not_row (by decide) hrow) (by omega))
        · exact tl.kept (keeps_appended hgrow tl.lt (tl.not_row (by decide) hrow) (by omega))
        · intro p hp
          rcases List.mem_append.1 hp with hp | hp
          · exact hz p hp
          · rw [List.mem_singleton.1 hp]
      · have c1 := hv.cell
        have f1 := hv.frozen
        have c2 := hw.cell
        have f2 := hw.frozen
        have h3 := (hv.set (.slice none 0 0))
        have h4 := (hw.other (B' := w1.heap.size + 1 + 1) (by omega) (.slice none 0 0))
        have h5 := h3.other (B' := w1.heap.size) (by omega) (flt d)
        have h6 := h4.set (flt d)
        rw [flt_ne hd] at h5 h6 ⊢
        have c4 := h4.cell
        have f4 := h4.frozen
        have HFD := Lib.hid (flt_ne hd)
        gi_wp2
        refine ⟨(KeepsOthers.setCell _ _ _).trans (KeepsOthers.setCell _ _ _), ⟨rfl, ⟨pre, t, d, rfl, hd, h5, by rw [HFD.out]; exact h6⟩, ?_⟩, ?_⟩
        · exact (tR.kept (Below.heap_setCell _ _ _ R (by simp; omega))).kept (Below.heap_setCell _ _ _ R (by simp; omega))
        · exact grown_up (grown_up hg (grownBy_setCell' _ _ _) (fun k e => by cases e; omega)) (grownBy_setCell' _ _ _) (fun k e => by cases e; omega)
    case done =>
      rintro D ys W hD rfl ⟨⟨⟨v, hv, hrow, _⟩, hw, _, _, hz⟩, hg⟩ hZ hK
      obtain ⟨hc0, hl0⟩ := yl_all c [] s1 hz
      have hZ' := hZ hz
      have hec : lc s = e0 := by
        rcases HLC.out with ⟨h1, h2, h3⟩ | ⟨h1, h2, _⟩
        · exact h2
        · rw [h2, hc0, h1]
      have HP : Hid (∀ W' : World, W' = (W.drew).putObj D (.deferred none) → ListPost R s w (.returned (.tuple #[v, (.iface 56 x)])) W') := Lib.hid (fun W' h => by
        subst h
        refine ⟨v, by rw [hec, HEV.out], grown_up (grown_drew hg) (grownBy_putObj' _ _ _) (fun k e => by cases e; omega), fun h0 => ?_⟩
        rcases HLC.out with ⟨h1, h2, h3⟩ | ⟨h1, h2, h3, h4, h5⟩
        · rw [h2] at h0; exact absurd h0 h1
        · rw [← h3, ← h4]
          refine ⟨?_, ?_⟩
          · have := ownsRow_putObj (W := W.drew) hrow.drew (.deferred none) hK rfl
            unfold OwnS
            rw [← hl0, show (fsts (yl c [] s1)).length = (yl c [] s1).length by simp [fsts]]
            exact this
          · exact (World.putObj_heap_other (by omega)).trans hZ')
      have hK' : W.drew.heap[D]? = some (.deferred (some [])) := hK
      clear hz hc0 hl0 hZ hZ' hec
      obtain ⟨x0, cp, rfl⟩ : ∃ x0 cp, v = .slice x0 (yl c [] s1).length cp := by
        rcases hrow.2 with ⟨rfl, h0⟩ | ⟨g, cap, cur, rfl, _⟩
        · exact ⟨none, 0, by rw [h0]⟩
        · exact ⟨_, cap, rfl⟩
      have c1 := hv.cell
      have c2 := hw.cell
      rw [HEV.out] at c2
      clear hrow
      generalize (yl c [] s1).length = k at *
      go_wp2
      refine wp_region_noPanic ?_
      go_region
      all_goals
        refine NoPanic.normal ?_
        go_wp2
        rw [Exit.noGoto_ret]
        exact ⟨by simp, .inl ⟨_, _, rfl, run_takeDeferred hK', _, results_tmp2 (t := 2) (u := 3) rfl _ _ _, HP.out _ rfl⟩⟩
    case stop =>
      rintro D cd pre W hD hSp ⟨⟨rfl, ⟨ini, q, d, e1, e2, h1, h2⟩, tR⟩, hg⟩ hK
      rw [e1] at hSp
      have hcode := yl_stop hSp e2
      have hne : c ≠ 0 := fun h => by
        rw [h, yl] at hSp
        have := hSp.length_le
        simp at this
      have hec : lc s = d := by
        rcases HLC.out with ⟨_, _, h3⟩ | ⟨_, h2, _⟩
        · exact absurd h3 hne
        · rw [h2, hcode]
      have HP : Hid (∀ W' : World, W' = (W.drew).putObj D (.deferred none) → ListPost R s w (.returned (.tuple #[.slice none 0 0, .iface 56 (.agg #[.int .i64 d])])) W') := Lib.hid (fun W' h => by
        subst h
        refine ⟨.slice none 0 0, by rw [hec, flt_ne e2], grown_up (grown_drew hg) (grownBy_putObj' _ _ _) (fun k e => by cases e; omega), fun h0 => ?_⟩
        rw [hec] at h0
        exact absurd h0 e2)
      rw [flt_ne e2] at h2
      have c1 := h1.cell
      have c2 := h2.cell
      have hK' : W.drew.heap[D]? = some (.deferred (some [])) := hK
      clear hSp e1 hcode hne hec
      refine (wpIn_wide (n := 4)).2 ?_
      go_wp2
      refine wp_region_noPanic ?_
      go_region
      all_goals
        refine NoPanic.normal ?_
        go_wp2
        rw [Exit.noGoto_ret]
        exact ⟨by simp, .inl ⟨_, _, rfl, run_takeDeferred hK', _, results_tmp2 (t := 2) (u := 3) rfl _ _ _, HP.out _ rfl⟩⟩
end Go.Proofs.YthoegicchjadaaaDoor
