import Derived.Test.YtbfchlfagdhglaaDoorMG7
import Derived.Test.YtbfchlfagdhglaaDoorMG3
import Derived.RangeFuncBox
import Derived.OneCell
/- (*set).asRuns. -/
namespace Go.Proofs.YtbfchlfagdhglaaDoor
open Go.RowKit
attribute [local go_sem] Oper.semAt_some

/-- The number behind the last one that has come. -/
def nxt (pre : List Nat) : Nat := match pre.getLast? with | none => 0 | some x => x + 1
theorem nxt_snoc (pre : List Nat) (x : Nat) : nxt (pre ++ [x]) = x + 1 := by unfold nxt; simp
theorem nxt_vals (s : Bs) (x : Nat) : nxt (valsTo s x) ≤ x ∧ (∀ n, nxt (valsTo s x) ≤ n → n < x → s n = false) ∧ (0 < nxt (valsTo s x) → s (nxt (valsTo s x) - 1) = true) := by
  induction x with
  | zero => exact ⟨by simp [valsTo, nxt], fun n _ h => by omega, fun h => by simp [valsTo, nxt] at h⟩
  | succ x ih =>
    by_cases h : s x = true
    · rw [valsTo_succ, if_pos h, nxt_snoc]
      exact ⟨Nat.le_refl _, fun n h1 h2 => by omega, fun _ => by simpa using h⟩
    · rw [valsTo_succ, if_neg h]
      refine ⟨by omega, fun n h1 h2 => ?_, ih.2.2⟩
      by_cases e : n = x
      · rw [e]; exact Bool.eq_false_iff.2 h
      · exact ih.2.1 n h1 (by omega)
theorem runs_gap {s : Bs} {p x : Nat} (h : p ≤ x) (hs : ∀ n, p ≤ n → n < x → s n = false) : runTo s x = runTo s p := by
  induction x with
  | zero => obtain rfl : p = 0 := by omega
            rfl
  | succ x ih =>
    by_cases e : p = x + 1
    · rw [e]
    · rw [runs_skip (hs x (by omega) (by omega)), ih (by omega) fun n h1 h2 => hs n h1 (by omega)]
theorem runs_nxt (s : Bs) (x : Nat) : runTo s (nxt (valsTo s x)) = runTo s x := by
  obtain ⟨h1, h2, _⟩ := nxt_vals s x
  exact (runs_gap h1 h2).symm
theorem nxt_join {s : Bs} {x : Nat} (h0 : 0 < x) (hp : s (x - 1) = true) : nxt (valsTo s x) = x := by
  obtain ⟨h1, h2, _⟩ := nxt_vals s x
  rcases Nat.lt_or_ge (nxt (valsTo s x)) x with h | h
  · have := h2 (x - 1) (by omega) (by omega)
    rw [hp] at this; cases this
  · omega
theorem nxt_new {s : Bs} {x : Nat} (hp : x = 0 ∨ s (x - 1) = false) : nxt (valsTo s x) ≠ x ∨ (nxt (valsTo s x) = x ∧ (flat (runTo s x)).length = 0) := by
  obtain ⟨h1, h2, h3⟩ := nxt_vals s x
  rcases Nat.lt_or_ge (nxt (valsTo s x)) x with h | h
  · exact .inl (by omega)
  · have e : nxt (valsTo s x) = x := by omega
    rcases hp with rfl | hp
    · exact .inr ⟨e, rfl⟩
    · rcases Nat.eq_zero_or_pos x with rfl | h0
      · exact .inr ⟨e, rfl⟩
      · rw [e] at h3
        have := h3 h0
        rw [hp] at this; cases this

/-- What holds between two rounds. -/
def RunI (w : World) (B : Nat) (s : Bs) (pre : List Nat) (W : World) : Prop :=
  (((∃ v, Boxed W w.heap.size 42 v ∧ W.ownsRow w.heap.size 5 1 v (flat (runTo s (nxt pre))).length (byteVs (flat (runTo s (nxt pre)))) ∧ True) ∧ Blk W (w.heap.size + 1) 3 #[.int .i64 (nxt pre : Nat)]) ∧ Blk W (w.heap.size + 1 + 1) 106 #[.pointer (some ⟨B, 0, none⟩)]) ∧ Below w.heap.size w W
theorem runI_own (w : World) (B : Nat) (s : Bs) (n : Nat) (hn : w.heap.size ≤ n) : OwnFrom n (RunI w B s) :=
  OwnFrom.and (OwnFrom.and (OwnFrom.and (Own.from (holdsRow_own w.heap.size w.heap.size 42 5 1 (fun (pre : List Nat) => (flat (runTo s (nxt pre))).length) (fun pre => byteVs (flat (runTo s (nxt pre)))) (fun _ _ => True)) _) (Own.from (blk_own _ _ (fun pre => #[.int .i64 (nxt pre : Nat)])) _)) (Own.from (blk_own _ _ (fun _ => #[.pointer (some ⟨B, 0, none⟩)])) _)) (ownFrom_below (Nat.le_refl _) hn)

/-- Behind the round that joins a number to the last run. -/
theorem RunI.join {w W : World} {B g cap m : Nat} {s : Bs} {x : Nat} {fr : List UInt8} (h : RunI w B s (valsTo s x) W) (hB : B < w.heap.size) (hv : Boxed W w.heap.size 42 (.slice (some ⟨g, 0, none⟩) (fr.length + 1) cap))
    (hrow : W.ownsRow w.heap.size 5 1 (.slice (some ⟨g, 0, none⟩) (fr.length + 1) cap) (fr.length + 1) (byteVs (fr ++ [UInt8.ofNat m]))) (hm : m < 255)
    (e2 : flat (runTo s (x + 1)) = fr ++ [UInt8.ofNat (m + 1)]) :
    KeepsOthers W ((W.setCell ⟨g, fr.length, none⟩ (.int .u8 ((m : Int) + 1))).setCell ⟨w.heap.size + 1, 0, none⟩ (.int .i64 ((x : Int) + 1))) ∧
    Keeps2 (w.heap.size + 1 + 1) B W ((W.setCell ⟨g, fr.length, none⟩ (.int .u8 ((m : Int) + 1))).setCell ⟨w.heap.size + 1, 0, none⟩ (.int .i64 ((x : Int) + 1))) ∧
    RunI w B s (valsTo s x ++ [x]) ((W.setCell ⟨g, fr.length, none⟩ (.int .u8 ((m : Int) + 1))).setCell ⟨w.heap.size + 1, 0, none⟩ (.int .i64 ((x : Int) + 1))) := by
  obtain ⟨⟨⟨_, hbn⟩, hbl⟩, hBel⟩ := h
  have hg := (hrow.lt g rfl).1
  have hgv : w.heap.size ≠ g := fun e => by
    have := hv.not_row (by decide) hrow
    exact this (by rw [e]; rfl)
  have hgn : w.heap.size + 1 ≠ g := fun e => by
    have := Boxed.not_row (show Boxed W (w.heap.size + 1) 3 _ from hbn) (by decide) hrow
    exact this (by rw [e]; rfl)
  have hgl : w.heap.size + 1 + 1 ≠ g := fun e => by
    have := Boxed.not_row (show Boxed W (w.heap.size + 1 + 1) 106 _ from hbl) (by decide) hrow
    exact this (by rw [e]; rfl)
  obtain ⟨hst, _⟩ := hrow.stored fr.length (.int .u8 ((m : Int) + 1))
  have hst2 := ownsRow_setCell_other hst (a := ⟨w.heap.size + 1, 0, none⟩) (by simp [Value.ownBlock]; omega) (.int .i64 ((x : Int) + 1))
  have hbel2 : Below w.heap.size w ((W.setCell ⟨g, fr.length, none⟩ (.int .u8 ((m : Int) + 1))).setCell ⟨w.heap.size + 1, 0, none⟩ (.int .i64 ((x : Int) + 1))) := (hBel.setCell (p := ⟨g, fr.length, none⟩) hg _).setCell (p := ⟨w.heap.size + 1, 0, none⟩) (by simp) _
  have hbl2 := (hbl.far (p := ⟨g, fr.length, none⟩) hgl (.int .u8 ((m : Int) + 1))).far (p := ⟨w.heap.size + 1, 0, none⟩) (by simp) (.int .i64 ((x : Int) + 1))
  refine ⟨(KeepsOthers.setCell _ _ _).trans (KeepsOthers.setCell _ _ _), ⟨hbl2.trans (Eq.symm hbl), ?_⟩, ⟨⟨⟨.slice (some ⟨g, 0, none⟩) (fr.length + 1) cap, ?_, ?_, trivial⟩, ?_⟩, hbl2⟩, hbel2⟩
  · rw [Below.heap_setCell _ _ _ _ (by simp; omega), Below.heap_setCell _ _ _ _ (by simp; omega)]
  · exact Blk.far (Blk.far hv (p := ⟨g, fr.length, none⟩) hgv _) (p := ⟨w.heap.size + 1, 0, none⟩) (by simp) _
  · rw [nxt_snoc, e2, List.length_append, ← byteVs_set fr (UInt8.ofNat m), ofNat_toNat (m + 1) (by omega)]
    exact hst2
  · have h1 := (hbn.far (p := ⟨g, fr.length, none⟩) hgn (.int .u8 ((m : Int) + 1))).set_ 0 (.int .i64 ((x : Int) + 1))
    rw [nxt_snoc]
    exact h1
/-- Behind the round that begins a run. -/
theorem RunI.new_ {w W w1 : World} {B g k cap : Nat} {s : Bs} {x : Nat} {v : Value} {bv : List Value} {tmp : Obj} (h : RunI w B s (valsTo s x) W) (hB : B < w.heap.size) (hv : Boxed W w.heap.size 42 v)
    (hrow : W.ownsRow w.heap.size 5 1 v k bv) (hown : w1.ownsRow w.heap.size 5 1 (.slice (some ⟨g, 0, none⟩) (k + 2) cap) (k + 2) (byteVs (flat (runTo s (x + 1))))) (hgrow : (W.alloc tmp).grownBy w1 v.ownBlock) (e2 : (flat (runTo s (x + 1))).length = k + 2) :
    KeepsOthers W ((w1.setCell ⟨w.heap.size, 0, none⟩ (.slice (some ⟨g, 0, none⟩) (k + 2) cap)).setCell ⟨w.heap.size + 1, 0, none⟩ (.int .i64 ((x : Int) + 1))) ∧
    Keeps2 (w.heap.size + 1 + 1) B W ((w1.setCell ⟨w.heap.size, 0, none⟩ (.slice (some ⟨g, 0, none⟩) (k + 2) cap)).setCell ⟨w.heap.size + 1, 0, none⟩ (.int .i64 ((x : Int) + 1))) ∧
    RunI w B s (valsTo s x ++ [x]) ((w1.setCell ⟨w.heap.size, 0, none⟩ (.slice (some ⟨g, 0, none⟩) (k + 2) cap)).setCell ⟨w.heap.size + 1, 0, none⟩ (.int .i64 ((x : Int) + 1))) := by
  obtain ⟨⟨⟨_, hbn⟩, hbl⟩, hBel⟩ := h
  obtain ⟨hv1, hv2, hr2, hk2, hb2⟩ := hv.appended (by decide) hrow hBel.size (Nat.le_refl _) hown hgrow
  have hbl2 := keep_box (C := w.heap.size) (v' := .slice (some ⟨g, 0, none⟩) (k + 2) cap) hbl (by decide) hrow hgrow (by omega)
  have hbn2 : Blk (w1.setCell ⟨w.heap.size, 0, none⟩ (.slice (some ⟨g, 0, none⟩) (k + 2) cap)) (w.heap.size + 1) 3 #[.int .i64 (nxt (valsTo s x) : Nat)] := (keep_box (C := w.heap.size) (v' := .slice (some ⟨g, 0, none⟩) (k + 2) cap) hbn (by decide) hrow hgrow (by omega)).trans hbn
  have hgn : w.heap.size + 1 ≠ g := fun e => by
    have := Boxed.not_row (show Boxed _ (w.heap.size + 1) 3 _ from hbn2) (by decide) hr2
    exact this (by rw [e]; rfl)
  have hbl3 : Blk (w1.setCell ⟨w.heap.size, 0, none⟩ (.slice (some ⟨g, 0, none⟩) (k + 2) cap)) (w.heap.size + 1 + 1) 106 #[.pointer (some ⟨B, 0, none⟩)] := hbl2.trans hbl
  have hbl4 := hbl3.far (p := ⟨w.heap.size + 1, 0, none⟩) (by simp) (.int .i64 ((x : Int) + 1))
  have hb3 := hb2.setCell (p := ⟨w.heap.size + 1, 0, none⟩) (by simp) (.int .i64 ((x : Int) + 1))
  refine ⟨hk2.trans (KeepsOthers.setCell _ _ _), ⟨hbl4.trans (Eq.symm hbl), hb3.block B hB⟩, ⟨⟨⟨.slice (some ⟨g, 0, none⟩) (k + 2) cap, ?_, ?_, trivial⟩, ?_⟩, hbl4⟩, hBel.trans hb3⟩
  · exact Blk.far hv2 (p := ⟨w.heap.size + 1, 0, none⟩) (by simp) _
  · rw [nxt_snoc, e2]
    exact ownsRow_setCell_other hr2 (a := ⟨w.heap.size + 1, 0, none⟩) (by simp [Value.ownBlock]; omega) _
  · have h1 := hbn2.set_ 0 (.int .i64 ((x : Int) + 1))
    rw [nxt_snoc]
    exact h1

set_option maxRecDepth 100000 in
set_option maxHeartbeats 4000000 in
theorem asRuns_any (B : Nat) (s : Bs) (w : World) (bB : Blk w B 83 (scl s)) :
    Calls Tryd.prog 61 #[.pointer (some ⟨B, 0, none⟩)] w fun e w' => ∃ v, e = .returned v ∧ w'.ownsRow w.heap.size 5 1 v (flat (runTo s 256)).length (byteVs (flat (runTo s 256))) ∧ Below w.heap.size w w' := by
  obtain ⟨i0, hi, hz0, hz1, hz2⟩ := info_parts info_u8
  have HInf := Lib.hid hi; have HZ0 := Lib.hid hz0; have HZ1 := Lib.hid hz1; have HZ2 := Lib.hid hz2
  clear hi hz0 hz1 hz2
  have hbx0 := (((Boxed.new w 42 (.slice none 0 0)).alloc (.cells #[.int .i64 0] 3))).alloc (.cells #[.pointer (some ⟨B, 0, none⟩)] 106)
  have hbn0 := (Blk.new (w.alloc (.cells #[.slice none 0 0] 42)) 3 #[.int .i64 0]).alloc (.cells #[.pointer (some ⟨B, 0, none⟩)] 106)
  have hbl0 := Blk.new ((w.alloc (.cells #[.slice none 0 0] 42)).alloc (.cells #[.int .i64 0] 3)) 106 #[.pointer (some ⟨B, 0, none⟩)]
  have hB0 : Below w.heap.size w (((w.alloc (.cells #[.slice none 0 0] 42)).alloc (.cells #[.int .i64 0] 3)).alloc (.cells #[.pointer (some ⟨B, 0, none⟩)] 106)) := (((Below.refl _ w).alloc (Nat.le_refl _) _).alloc (by simp) _).alloc (by simp; omega) _
  have hsz0 : (((w.alloc (.cells #[.slice none 0 0] 42)).alloc (.cells #[.int .i64 0] 3)).alloc (.cells #[.pointer (some ⟨B, 0, none⟩)] 106)).heap.size = w.heap.size + 1 + 1 + 1 := by simp
  have hrow0 := World.ownsRow_nil (((w.alloc (.cells #[.slice none 0 0] 42)).alloc (.cells #[.int .i64 0] 3)).alloc (.cells #[.pointer (some ⟨B, 0, none⟩)] 106)) w.heap.size 5 1
  rw [World.size_alloc] at hbn0
  rw [World.size_alloc, World.size_alloc] at hbl0
  have bB0 := bB.under hB0
  have hBlt := bB.lt
  clear bB
  refine (callsIn_wide (n := 4)).1 ?_
  refine callsIn_of_wp_marks Tryd.func61 rfl trivial ?_ rfl
  simp only [Tryd.ntmps61, List.size_toArray, List.length_cons, List.length_nil, Nat.reduceAdd, Nat.reduceSub, Array.replicate_succ, Array.replicate_zero, List.push_toArray, List.append_toArray, List.nil_append, List.cons_append]
  rw [wpIn_wide]
  go_wp2_with (go_at_call 39; refine (numbers_any _ _).mono ?_; rintro e w' ⟨rfl, rfl⟩)
  generalize (((w.alloc (.cells #[.slice none 0 0] 42)).alloc (.cells #[.int .i64 0] 3)).alloc (.cells #[.pointer (some ⟨B, 0, none⟩)] 106)) = W0 at *
  refine (wpIn_wide (n := 4)).1 ?_
  refine wpIn_rangeFunc_nextD (n := 4) rfl (by decide) (gf := 53) (lb := #[.pointer (some ⟨w.heap.size + 1 + 1, 0, none⟩)]) rfl trivial (enters_of Tryd.func53 (by kernel_rfl) rfl)
    (numbers_seq 3 (by decide) (w.heap.size + 1 + 1) B s W0 hbl0 bB0) keeps2_t (fun W l o hl => keeps2_b (B := W0.heap.size) (by omega) (by omega) W l o hl) (fun _ => rfl)
    (RunI w B s) (fun _ _ _ => False) (runI_own w B s _ (by omega)) (fun _ _ _ _ _ hs _ _ => hs)
    ⟨⟨⟨⟨_, hbx0, hrow0, trivial⟩, hbn0⟩, hbl0⟩, hB0⟩
    (fun x => { tmps := #[.pointer (some ⟨B, 0, none⟩), undef, .slice none 0 0, .pointer (some ⟨w.heap.size, 0, none⟩), .pointer (some ⟨w.heap.size + 1, 0, none⟩), .int .i64 (x : Nat), .pointer (some ⟨B, 0, none⟩), .func (.func 53) #[] #[.pointer (some ⟨w.heap.size + 1 + 1, 0, none⟩)], .int .i64 (x : Nat), undef, undef, undef, undef, undef, undef, undef, undef, undef, undef, undef, undef, undef, undef, undef, undef, undef, undef, undef, undef, undef, undef, undef, undef], defers := [] }) ?assign ?body ?done ?stop
  case assign =>
    intro l x W K hK
    gi_wp2
    exact hK
  case body =>
    rintro l pre x W hI ⟨hx, hsx, rfl⟩
    have HI := Lib.hid hI
    obtain ⟨⟨⟨⟨v, hv, hrow, _⟩, hbn⟩, hbl⟩, hB⟩ := hI
    have hc := hv.cell
    have hc2 := hbn.cell 0
    dsimp at hc2
    rw [runs_nxt] at hrow
    have hl := flat_le s x
    have hsW := hB.size
    clear hB hbl
    by_cases hj : 0 < x ∧ s (x - 1) = true
    · obtain ⟨fr, m, hm, e1, e2⟩ := runs_join hx hsx hj.1 hj.2
      rw [nxt_join hj.1 hj.2] at hc2
      rw [e1] at hrow hl
      have hfl : (fr ++ [UInt8.ofNat m]).length = fr.length + 1 := by simp
      rw [hfl] at hrow hl
      obtain ⟨g, cap, rfl⟩ := ownsRow_succ hrow
      have HP := Lib.hid (HI.out.join hBlt hv hrow hm e2)
      have b0 := hrow.cellAt fr.length (by omega)
      rw [byteVs_append, List.getElem?_append_right (by rw [byteVs_length]; exact Nat.le_refl _), byteVs_length, Nat.sub_self] at b0
      have b1 : W.cell? ⟨g, fr.length, none⟩ = some (.int .u8 (m : Int)) := by
        rw [b0]
        show some (Value.int .u8 ((UInt8.ofNat m).toNat : Int)) = _
        rw [ofNat_toNat m (by omega)]
      have f0 := hrow.frozenAt fr.length
      have f1 := hbn.frozen 0
      have hgn : w.heap.size + 1 ≠ g := fun e => by
        have := Boxed.not_row (show Boxed W (w.heap.size + 1) 3 _ from hbn) (by decide) hrow
        exact this (by rw [e]; rfl)
      have hgn2 : g ≠ w.heap.size + 1 := fun e => hgn e.symm
      have hm1 : ((m : Int) + 1) % 256 = (m : Int) + 1 := by omega
      have hx0 : (x : Int) = (x : Int) := rfl
      have c3 : (W.setCell ⟨g, fr.length, none⟩ (.int .u8 ((m : Int) + 1))).cell? ⟨w.heap.size + 1, 0, none⟩ = some (.int .i64 x) := (World.cell?_setCell_other _ _ _ _ (by simp)).trans hc2
      clear hv hrow hbn b0 e1 e2 hfl hj hsx hx0
      generalize fr.length = n at *
      gi_wp2
      exact HP.out
    · have hp : x = 0 ∨ s (x - 1) = false := by
        rcases Nat.eq_zero_or_pos x with h | h
        · exact .inl h
        · exact .inr (Bool.eq_false_iff.2 fun e => hj ⟨h, e⟩)
      have hN := runs_new hsx hp
      have HT : Hid (byteVs (flat (runTo s (x + 1))) = byteVs (flat (runTo s x)) ++ [Value.int .u8 (x : Nat), Value.int .u8 0] ∧ (flat (runTo s (x + 1))).length = (flat (runTo s x)).length + 2) := Lib.hid (by
        rw [hN, byteVs_append, List.length_append]
        refine ⟨?_, rfl⟩
        show _ ++ [Value.int .u8 ((UInt8.ofNat x).toNat : Int), Value.int .u8 0] = _
        rw [ofNat_toNat x hx])
      have hcase := nxt_new hp
      have e8 : (x : Int) % 256 = x := by omega
      obtain ⟨y, hy⟩ : ∃ y, y = nxt (valsTo s x) := ⟨_, rfl⟩
      rw [← hy] at hc2 hbn hcase
      generalize hbv : byteVs (flat (runTo s x)) = bv at *
      generalize hk : (flat (runTo s x)).length = k at *
      clear hN hp hj hbv hk hsx hy
      rcases hcase with h1 | ⟨h1, h2⟩
      · have h1' : ((x : Int) == (y : Int)) = false := by rw [beq_eq_false_iff_ne]; omega
        clear h1
        gi_wp2_with (gi_at_builtin; refine wpListIn_append_own _ rfl _ _ 42 rfl w.heap.size 5 i0 (.int .u8 0) 1 1 Tryd.underlying42 HInf.out HZ0.out HZ1.out HZ2.out rfl (by decide) _ _ _ rfl (hrow.alloc _) ⟨W.heap.size, 0, none⟩ 2 2 [.int .u8 x, .int .u8 0] rfl rfl (cell_two_new _ _ _ _) (by simp [Value.oneCell']) (by unfold maxLen; omega) (by omega) (by simp; omega) ?_; intro v' w1 hown' hgrow _; obtain ⟨g', cap', rfl⟩ := ownsRow_succ hown'; obtain ⟨hv1, hv2, hr2, hk2, hb2⟩ := hv.appended (by decide) hrow hsW (Nat.le_refl _) hown' hgrow; have hc1 := hv1.cell; have hf1 := hv1.frozen; have hc3 := fun v2 => (keep_cell (C := w.heap.size) hbn (by decide) hrow hgrow (by omega) v2).1; have hf3 := fun v2 => (keep_cell (C := w.heap.size) hbn (by decide) hrow hgrow (by omega) v2).2; clear hv1 hv2 hr2 hk2 hb2)
        rw [← HT.out.1] at hown'
        exact HI.out.new_ hBlt hv hrow hown' hgrow HT.out.2
      · obtain rfl : x = y := h1.symm
        subst h2
        obtain ⟨xv, cv, rfl⟩ := own_form hrow
        gi_wp2_with (gi_at_builtin; refine wpListIn_append_own _ rfl _ _ 42 rfl w.heap.size 5 i0 (.int .u8 0) 1 1 Tryd.underlying42 HInf.out HZ0.out HZ1.out HZ2.out rfl (by decide) _ _ _ rfl (hrow.alloc _) ⟨W.heap.size, 0, none⟩ 2 2 [.int .u8 x, .int .u8 0] rfl rfl (cell_two_new _ _ _ _) (by simp [Value.oneCell']) (by unfold maxLen; omega) (by omega) (by simp; omega) ?_; intro v' w1 hown' hgrow _; obtain ⟨g', cap', rfl⟩ := ownsRow_succ hown'; obtain ⟨hv1, hv2, hr2, hk2, hb2⟩ := hv.appended (by decide) hrow hsW (Nat.le_refl _) hown' hgrow; have hc1 := hv1.cell; have hf1 := hv1.frozen; have hc3 := fun v2 => (keep_cell (C := w.heap.size) hbn (by decide) hrow hgrow (by omega) v2).1; have hf3 := fun v2 => (keep_cell (C := w.heap.size) hbn (by decide) hrow hgrow (by omega) v2).2; clear hv1 hv2 hr2 hk2 hb2)
        rw [← HT.out.1] at hown'
        exact HI.out.new_ hBlt hv hrow hown' hgrow HT.out.2
  case done =>
    rintro D ys W hD rfl ⟨⟨⟨⟨v, hv, hrow, _⟩, hbn⟩, hbl⟩, hB⟩ hK
    have hc := hv.cell
    rw [show vals s = valsTo s 256 from rfl, runs_nxt] at hrow
    have HN : Hid (∃ v', Ending.returned v = .returned v' ∧ (W.putObj D (.deferred none)).ownsRow w.heap.size 5 1 v' (flat (runTo s 256)).length (byteVs (flat (runTo s 256))) ∧ Below w.heap.size w (W.putObj D (.deferred none))) := Lib.hid ⟨v, rfl, ownsRow_putObj hrow _ hK rfl, hB.grown (grownBy_putObj' W D _) hB.size (fun k e => by cases e; omega)⟩
    clear hbl hB hv hrow hbn
    go_wp2
    try rw [Exit.noGoto_ret]
    exact ⟨by simp, .inl ⟨_, _, rfl, run_takeDeferred hK, _, results_tmp (t := 2) rfl _ _ _, HN.out⟩⟩
  case stop =>
    rintro D cd pre W hD hSp h hK
    exact h.elim
end Go.Proofs.YtbfchlfagdhglaaDoor
/- (*set).as, (*set).best. -/
namespace Go.Proofs.YtbfchlfagdhglaaDoor
open Go.RowKit

/-- What a call of as answers. -/
def okF (f : Int) : Prop := 1 ≤ f ∧ f ≤ 3
instance (f : Int) : Decidable (okF f) := by unfold okF; infer_instance
def asV (s : Bs) (f : Int) : Value := if okF f then .tuple #[contV f (formS s f.toNat), .int .i64 0] else .tuple #[contV 0 [], .int .i64 60]
/-- The result's cell, over the walk. -/
def ResSt (w wr : World) : Prop := Blk wr w.heap.size 46 #[.int .i64 0, .string ⟨#[]⟩] ∧ Below w.heap.size w wr
theorem ResSt.start (w : World) : ResSt w (w.alloc (.cells #[.int .i64 0, .string ⟨#[]⟩] 46)) := ⟨Blk.new w _ _, (Below.refl _ w).alloc (Nat.le_refl _) _⟩
theorem ResSt.under {w wr w2 : World} (h : ResSt w wr) (hb : Below wr.heap.size wr w2) : ResSt w w2 := ⟨h.1.under hb, h.2.trans (hb.mono h.2.size)⟩
theorem ResSt.done {w wr : World} (h : ResSt w wr) (x y : Value) : Blk ((wr.setCell ⟨w.heap.size, 0, none⟩ x).setCell ⟨w.heap.size, 1, none⟩ y) w.heap.size 46 #[x, y] ∧ Below w.heap.size w ((wr.setCell ⟨w.heap.size, 0, none⟩ x).setCell ⟨w.heap.size, 1, none⟩ y) :=
  ⟨h.1.set2 x y, (h.2.setCell (Nat.le_refl _) _).setCell (Nat.le_refl _) _⟩
theorem conv_set {w : World} {B : Nat} {s : Bs} (h : Blk w B 83 (scl s)) : (convert 42 9 (.slice (some ⟨B, 0, none⟩) 32 32)).run Tryd.prog w = .ok (.string ⟨(bitsTo s 256).toArray⟩) w := by
  have := run_convert_bytes_back w 42 9 5 ⟨B, 0, none⟩ 32 (bitsTo s 256) Tryd.underlying42 Tryd.underlying5 Tryd.underlying9 (fun j hj => by
    have hj' : j < 32 := by rw [bitsTo_length] at hj; exact hj
    rw [show (⟨B, 0, none⟩ : Addr).add j = ⟨B, j, none⟩ by unfold Addr.add; split <;> simp_all, h.cell j, scl_get hj']
    have e : ((UInt8.ofNat (byteS s 256 j)).toNat : Int) = byteS s 256 j := by rw [ofNat_toNat _ (byteS_lt s 256 j)]
    rw [← e]
    simp only [bitsTo, List.getElem_map, List.getElem_range])
  rwa [bitsTo_length] at this

set_option maxRecDepth 100000 in
set_option maxHeartbeats 4000000 in
theorem as_any (B : Nat) (s : Bs) (f : Int) (hf1 : -9223372036854775808 ≤ f) (hf2 : f ≤ 9223372036854775807) (w : World) (bB : Blk w B 83 (scl s)) :
    Calls Tryd.prog 51 #[.pointer (some ⟨B, 0, none⟩), .int .i64 f] w fun e w' => e = .returned (asV s f) ∧ Below w.heap.size w w' := by
  have hS0 := ResSt.start w
  have bB0 := bB.under hS0.2
  have hBlt := bB.lt
  have HS0 := Lib.hid hS0
  have c0 := hS0.1.cell 0; have c1 := hS0.1.cell 1; have f0 := hS0.1.frozen 0; have f1 := hS0.1.frozen 1
  dsimp at c0 c1
  clear bB hS0
  by_cases h1 : f = 1
  · have HV : Hid (asV s f = .tuple #[.agg #[.int .i64 1, .string ⟨(arrTo s 256).toArray⟩], .int .i64 0]) := Lib.hid (by subst h1; rfl)
    subst h1
    have HA := Lib.hid (asArray_any B s _ bB0)
    go_enter Tryd.func51, Tryd.ntmps51
    go_wp2_with fail
    refine HA.out.mono ?_
    rintro e w1 ⟨v, rfl, hown, hb1⟩
    have hS1 := HS0.out.under hb1
    have hcv := conv_own hown rfl
    have c0 := hS1.1.cell 0; have c1 := hS1.1.cell 1; have f0 := hS1.1.frozen 0; have f1 := hS1.1.frozen 1
    dsimp at c0 c1
    have hD := hS1.done (.int .i64 1) (.string ⟨(arrTo s 256).toArray⟩)
    clear hown hS1 hb1
    go_wp2
    exact ret_cont2 rfl rfl hD.1 rfl ⟨by rw [HV.out]; rfl, hD.2⟩
  by_cases h2 : f = 2
  · have HV : Hid (asV s f = .tuple #[.agg #[.int .i64 2, .string ⟨(bitsTo s 256).toArray⟩], .int .i64 0]) := Lib.hid (by subst h2; rfl)
    subst h2
    have hcv := conv_set bB0
    have hD : Blk (w.alloc (.cells #[.int .i64 2, .string ⟨(bitsTo s 256).toArray⟩] 46)) w.heap.size 46 #[.int .i64 2, .string ⟨(bitsTo s 256).toArray⟩] ∧ Below w.heap.size w (w.alloc (.cells #[.int .i64 2, .string ⟨(bitsTo s 256).toArray⟩] 46)) := ⟨Blk.new w _ _, (Below.refl _ w).alloc (Nat.le_refl _) _⟩
    clear h1
    go_enter Tryd.func51, Tryd.ntmps51
    go_wp2
    exact ret_cont2 rfl rfl hD.1 rfl ⟨by rw [HV.out]; rfl, hD.2⟩
  by_cases h3 : f = 3
  · have HV : Hid (asV s f = .tuple #[.agg #[.int .i64 3, .string ⟨(flat (runTo s 256)).toArray⟩], .int .i64 0]) := Lib.hid (by subst h3; rfl)
    subst h3
    have HA := Lib.hid (asRuns_any B s _ bB0)
    clear h1 h2
    go_enter Tryd.func51, Tryd.ntmps51
    go_wp2_with fail
    refine HA.out.mono ?_
    rintro e w1 ⟨v, rfl, hown, hb1⟩
    have hS1 := HS0.out.under hb1
    have hcv := conv_own hown rfl
    have c0 := hS1.1.cell 0; have c1 := hS1.1.cell 1; have f0 := hS1.1.frozen 0; have f1 := hS1.1.frozen 1
    dsimp at c0 c1
    have hD := hS1.done (.int .i64 3) (.string ⟨(flat (runTo s 256)).toArray⟩)
    clear hown hS1 hb1
    go_wp2
    exact ret_cont2 rfl rfl hD.1 rfl ⟨by rw [HV.out]; rfl, hD.2⟩
  have HV : Hid (asV s f = .tuple #[.agg #[.int .i64 0, .string ⟨#[]⟩], .int .i64 60]) := Lib.hid (by unfold asV; rw [if_neg (by unfold okF; omega)]; rfl)
  have h1' : (f == 1) = false := by simpa using h1
  have h2' : (f == 2) = false := by simpa using h2
  have h3' : (f == 3) = false := by simpa using h3
  have hD : Blk (w.alloc (.cells #[.int .i64 0, .string ⟨#[]⟩] 46)) w.heap.size 46 #[.int .i64 0, .string ⟨#[]⟩] ∧ Below w.heap.size w (w.alloc (.cells #[.int .i64 0, .string ⟨#[]⟩] 46)) := ResSt.start w
  clear h1 h2 h3
  go_enter Tryd.func51, Tryd.ntmps51
  go_wp2
  exact ret_cont2 rfl rfl hD.1 rfl ⟨by rw [HV.out]; rfl, hD.2⟩
end Go.Proofs.YtbfchlfagdhglaaDoor
/- (*set).best. -/
namespace Go.Proofs.YtbfchlfagdhglaaDoor
open Go.RowKit

theorem asV_good {s : Bs} {f : Nat} (h1 : 1 ≤ f) (h3 : f ≤ 3) : asV s (f : Int) = .tuple #[.agg #[.int .i64 f, .string ⟨(formS s f).toArray⟩], .int .i64 0] := by
  unfold asV
  rw [if_pos (by unfold okF; omega)]; rfl
theorem idx_0 (w : World) : (Instr.index 128 (.agg #[.int .i64 3, .int .i64 2]) (.int .i64 0)).run Tryd.prog w = .ok (.int .i64 3) w := by
  simp [Instr.index, asIntOf, run_underlying Tryd.underlying128, Go.part, Tryd.sizeOf3, Tryd.isAgg3]
theorem idx_1 (w : World) : (Instr.index 128 (.agg #[.int .i64 3, .int .i64 2]) (.int .i64 1)).run Tryd.prog w = .ok (.int .i64 2) w := by
  simp [Instr.index, asIntOf, run_underlying Tryd.underlying128, Go.part, Tryd.sizeOf3, Tryd.isAgg3]
/-- The best form of those that have been asked. -/
def bestK (s : Bs) (k : Nat) : Nat := if k = 0 then 1 else if k = 1 then (if (formS s 3).length < (formS s 1).length then 3 else 1) else bestF s
theorem bestK_1 (s : Bs) : bestK s (0 + 1) = if (formS s 3).length < (formS s (bestK s 0)).length then 3 else bestK s 0 := by rfl
theorem bestK_2 (s : Bs) : bestK s (1 + 1) = if (formS s 2).length < (formS s (bestK s 1)).length then 2 else bestK s 1 := by
  have h2 : (formS s 2).length = 32 := bitsTo_length s 256
  show bestF s = if (formS s 2).length < (formS s (if (formS s 3).length < (formS s 1).length then 3 else 1)).length then 2 else (if (formS s 3).length < (formS s 1).length then 3 else 1)
  unfold bestF
  rw [h2]
  by_cases h : (formS s 3).length < (formS s 1).length
  · rw [if_pos h, if_neg (by omega)]
    by_cases h5 : (formS s 3).length ≤ 32
    · rw [if_pos h5, if_neg (by omega)]
    · rw [if_neg h5, if_pos (by omega)]
  · rw [if_neg h]
    by_cases h5 : (formS s 1).length ≤ 32
    · rw [if_pos (by omega), if_neg (by omega)]
    · rw [if_neg (by omega), if_neg (by omega), if_pos (by omega)]
/-- The state of best's walk: the result's cell, the best one's. -/
def BestSt (w : World) (s : Bs) (g k : Nat) (wr : World) : Prop := ResSt w wr ∧ Blk wr g 46 #[.int .i64 (bestK s k : Nat), .string ⟨(formS s (bestK s k)).toArray⟩]
theorem BestSt.under {w wr w2 : World} {s : Bs} {g k : Nat} (h : BestSt w s g k wr) (hb : Below wr.heap.size wr w2) : BestSt w s g k w2 := ⟨h.1.under hb, h.2.under hb⟩
theorem BestSt.put {w wr : World} {s : Bs} {g k k2 : Nat} (h : BestSt w s g k wr) (hg : w.heap.size + 1 ≤ g) {f : Nat} (e : bestK s k2 = f) : BestSt w s g k2 ((wr.setCell ⟨g, 0, none⟩ (.int .i64 f)).setCell ⟨g, 1, none⟩ (.string ⟨(formS s f).toArray⟩)) := by
  subst e
  exact ⟨⟨(h.1.1.far (p := ⟨g, 0, none⟩) (by simp; omega) _).far (p := ⟨g, 1, none⟩) (by simp; omega) _, (h.1.2.setCell (p := ⟨g, 0, none⟩) (by simp; omega) _).setCell (p := ⟨g, 1, none⟩) (by simp; omega) _⟩, h.2.set2 _ _⟩
theorem BestSt.keep {w wr : World} {s : Bs} {g k k2 : Nat} (h : BestSt w s g k wr) (e : bestK s k2 = bestK s k) : BestSt w s g k2 wr := by
  unfold BestSt
  rw [e]; exact h
theorem bestK_pos (s : Bs) (k : Nat) : 1 ≤ bestK s k ∧ bestK s k ≤ 3 := by
  unfold bestK
  split
  · decide
  · split
    · split <;> decide
    · exact bestF_form s

set_option maxRecDepth 100000 in
set_option maxHeartbeats 4000000 in
theorem best_any (B : Nat) (s : Bs) (w : World) (bB : Blk w B 83 (scl s)) :
    Calls Tryd.prog 48 #[.pointer (some ⟨B, 0, none⟩)] w fun e w' => e = .returned (contV (bestF s : Nat) (bestD s)) ∧ Below w.heap.size w w' := by
  have hS0 := ResSt.start w
  have bB0 := bB.under hS0.2
  have hBlt := bB.lt
  have HS0 := Lib.hid hS0
  have HA1 := Lib.hid (as_any B s 1 (by decide) (by decide) _ bB0)
  rw [show ((1 : Int)) = ((1 : Nat) : Int) from rfl, asV_good (by decide) (by decide)] at HA1
  have HA := Lib.hid (fun (f : Nat) (h1 : 1 ≤ f) (h3 : f ≤ 3) W hW => asV_good (s := s) h1 h3 ▸ as_any B s f (by omega) (by omega) W hW)
  have HB := Lib.hid bB
  have hK0 : bestK s 0 = 1 := rfl
  have HK0 := Lib.hid hK0
  have HD : Hid (contV (bestF s : Nat) (bestD s) = .agg #[.int .i64 (bestK s 2 : Nat), .string ⟨(formS s (bestK s 2)).toArray⟩]) := Lib.hid rfl
  have hidx0 := idx_0
  have hidx1 := idx_1
  clear hS0 bB hK0
  go_enter Tryd.func48, Tryd.ntmps48
  go_wp2_with fail
  refine HA1.out.mono ?_
  rintro e w1 ⟨rfl, hb1⟩
  have hS1 := HS0.out.under hb1
  have hg := Blk.new w1 46 #[.int .i64 ((1 : Nat) : Int), .string ⟨(formS s 1).toArray⟩]
  have HS1 : Hid (ResSt w (w1.alloc (.cells #[.int .i64 ((1 : Nat) : Int), .string ⟨(formS s 1).toArray⟩] 46))) := Lib.hid (hS1.under ((Below.refl _ w1).alloc (Nat.le_refl _) _))
  have hgs : w.heap.size + 1 ≤ w1.heap.size := by have := hS1.1.lt; omega
  clear hS1 hb1
  go_wp2
  generalize w1.heap.size = g at *
  have HI : Hid (BestSt w s g 0 (w1.alloc (.cells #[.int .i64 ((1 : Nat) : Int), .string ⟨(formS s 1).toArray⟩] 46))) := Lib.hid ⟨HS1.out, by rw [HK0.out]; exact hg⟩
  clear hg HS1
  go_loopw [15] (fun i wr => ∃ k : Nat, k ≤ 2 ∧ i = .int .i64 k ∧ BestSt w s g k wr) (fun i _ => 2 - (intOf i).toNat)
  case atStart => exact ⟨0, Nat.zero_le _, rfl, HI.out⟩
  case round =>
    obtain ⟨k, hk, rfl, hS⟩ := hrel
    by_cases hlt : k < 2
    · rcases (show k = 0 ∨ k = 1 by omega) with rfl | rfl
      · clear hlt hk
        have HA2 := Lib.hid (HA.out 3 (by decide) (by decide) wr (HB.out.under hS.1.2))
        have HS := Lib.hid hS
        have HK := Lib.hid (bestK_1 s)
        obtain ⟨db, hdb⟩ : ∃ db, db = formS s 3 := ⟨_, rfl⟩
        obtain ⟨dc, hdc⟩ : ∃ dc, dc = formS s (bestK s 0) := ⟨_, rfl⟩
        obtain ⟨q, hq⟩ : ∃ q, q = bestK s 0 := ⟨_, rfl⟩
        have HX : Hid (db = formS s 3 ∧ dc = formS s (bestK s 0) ∧ q = bestK s 0) := Lib.hid ⟨hdb, hdc, hq⟩
        rw [← hdb] at HA2
        clear hS hdb hdc hq
        go_wp2_with fail
        refine HA2.out.mono ?_
        rintro e w2 ⟨rfl, hb2⟩
        have hS2 := HS.out.under hb2
        have hgl := hS2.2.lt
        have hgl2 : g ≠ w2.heap.size := by omega
        have c1 := hS2.2.cell 1; have c0 := hS2.2.cell 0; have f0 := hS2.2.frozen 0; have f1 := hS2.2.frozen 1
        dsimp at c0 c1
        rw [← HX.out.2.1] at c1
        rw [← HX.out.2.2] at c0
        have HS3 := Lib.hid hS2
        clear hS2 hb2
        by_cases hlt : db.length < dc.length
        · have HP := Lib.hid ((HS3.out.put hgs (k2 := 0 + 1) (f := 3) (by rw [HK.out, ← HX.out.1, ← HX.out.2.1, if_pos hlt])).under ((Below.refl _ _).alloc (Nat.le_refl _) (.cells #[.int .i64 3, .string ⟨db.toArray⟩] 46)))
          have hlt' : (db.length : Int) < dc.length := by omega
          rw [← HX.out.1] at HP
          go_wp2
          refine ⟨⟨1, by omega, by simp, HP.out⟩, by simp [intOf]⟩
        · have HP := Lib.hid ((HS3.out.keep (k2 := 0 + 1) (by rw [HK.out, ← HX.out.1, ← HX.out.2.1, if_neg hlt])).under ((Below.refl _ _).alloc (Nat.le_refl _) (.cells #[.int .i64 3, .string ⟨db.toArray⟩] 46)))
          have hlt' : ¬ (db.length : Int) < dc.length := by omega
          go_wp2
          refine ⟨⟨1, by omega, by simp, HP.out⟩, by simp [intOf]⟩
      · clear hlt hk
        have HA2 := Lib.hid (HA.out 2 (by decide) (by decide) wr (HB.out.under hS.1.2))
        have HS := Lib.hid hS
        have HK := Lib.hid (bestK_2 s)
        obtain ⟨db, hdb⟩ : ∃ db, db = formS s 2 := ⟨_, rfl⟩
        obtain ⟨dc, hdc⟩ : ∃ dc, dc = formS s (bestK s 1) := ⟨_, rfl⟩
        obtain ⟨q, hq⟩ : ∃ q, q = bestK s 1 := ⟨_, rfl⟩
        have HX : Hid (db = formS s 2 ∧ dc = formS s (bestK s 1) ∧ q = bestK s 1) := Lib.hid ⟨hdb, hdc, hq⟩
        rw [← hdb] at HA2
        clear hS hdb hdc hq
        go_wp2_with fail
        refine HA2.out.mono ?_
        rintro e w2 ⟨rfl, hb2⟩
        have hS2 := HS.out.under hb2
        have hgl := hS2.2.lt
        have hgl2 : g ≠ w2.heap.size := by omega
        have c1 := hS2.2.cell 1; have c0 := hS2.2.cell 0; have f0 := hS2.2.frozen 0; have f1 := hS2.2.frozen 1
        dsimp at c0 c1
        rw [← HX.out.2.1] at c1
        rw [← HX.out.2.2] at c0
        have HS3 := Lib.hid hS2
        clear hS2 hb2
        by_cases hlt : db.length < dc.length
        · have HP := Lib.hid ((HS3.out.put hgs (k2 := 1 + 1) (f := 2) (by rw [HK.out, ← HX.out.1, ← HX.out.2.1, if_pos hlt])).under ((Below.refl _ _).alloc (Nat.le_refl _) (.cells #[.int .i64 2, .string ⟨db.toArray⟩] 46)))
          have hlt' : (db.length : Int) < dc.length := by omega
          rw [← HX.out.1] at HP
          go_wp2
          refine ⟨⟨2, by omega, by simp, HP.out⟩, by simp [intOf]⟩
        · have HP := Lib.hid ((HS3.out.keep (k2 := 1 + 1) (by rw [HK.out, ← HX.out.1, ← HX.out.2.1, if_neg hlt])).under ((Below.refl _ _).alloc (Nat.le_refl _) (.cells #[.int .i64 2, .string ⟨db.toArray⟩] 46)))
          have hlt' : ¬ (db.length : Int) < dc.length := by omega
          go_wp2
          refine ⟨⟨2, by omega, by simp, HP.out⟩, by simp [intOf]⟩
    · obtain rfl : k = 2 := by omega
      have c0 := hS.2.cell 0; have c1 := hS.2.cell 1
      have d0 := hS.1.1.cell 0; have d1 := hS.1.1.cell 1; have f0 := hS.1.1.frozen 0; have f1 := hS.1.1.frozen 1
      dsimp at c0 c1 d0 d1
      have hD := hS.1.done (.int .i64 (bestK s 2 : Nat)) (.string ⟨(formS s (bestK s 2)).toArray⟩)
      clear hS hlt hk
      generalize bestK s 2 = q at *
      generalize formS s q = dq at *
      go_wp2
      exact ret_cont rfl rfl hD.1 rfl ⟨by rw [HD.out], hD.2⟩
end Go.Proofs.YtbfchlfagdhglaaDoor
