/- Small laws of the walk that serve every seat: a scope that is left ahead by a goto; what new blocks leave alone; the row's last step behind 'Below'. -/
import Derived.ScopeJumps
import Derived.WalkMore
import Derived.Below
import Derived.ChangeSame
import Derived.Lib.Hide
import Derived.Deep.Draws
namespace Go.Proofs.Ytpjcndfamhehlaa
open Go.RowKit Go.WideShapes Go.ChangeShapes

/-- Nowhere. -/
def Never (_ : Act) (_ : World) : Prop := False

section
variable {P : Program} {a : Act} {w : World} {Q : Exit → Act → World → Prop}
/-- A scope whose label is jumped to from ahead of it, and never again: the walk goes on behind the label. -/
theorem wp_scope_over {c rest : Code} (l : Nat) (hf : findLabel c l = some rest)
    (h : c.wp P (Exit.jump l (fun a w => rest.wp P (Exit.jump l Never Q) a w) Q) a w) : (Code.scope c).wp P Q a w := by
  refine wp_scope_jumps l (fun a w => rest.wp P (Exit.jump l Never Q) a w) (fun _ _ => 0) hf h ?_
  intro a w hJ
  refine Code.wp_mono ?_ hJ
  intro e a w hq
  cases e with
  | goto l' => exact hq.2.elim
  | normal => exact hq
  | exit id => exact hq
  | ret => exact hq
  | panic ch => exact hq
  | outgrown => exact hq
@[go_sem] theorem Exit.jump_normal {l : Nat} {J : Act → World → Prop} : Exit.jump l J Q .normal a w = Q .normal a w := rfl
@[go_sem] theorem Exit.jump_exit {l : Nat} {J : Act → World → Prop} (id : Nat) : Exit.jump l J Q (.exit id) a w = Q (.exit id) a w := rfl
@[go_sem] theorem Exit.jump_ret {l : Nat} {J : Act → World → Prop} : Exit.jump l J Q .ret a w = Q .ret a w := rfl
theorem Exit.jump_goto {l : Nat} {J : Act → World → Prop} (h : J a w) : Exit.jump l J Q (.goto l) a w := ⟨rfl, h⟩
end

/-- What a world keeps of the cells that lie below B. -/
theorem cell_below {w0 w : World} {B b : Nat} (o : Nat) {v : Value} (h : Below B w0 w) (hb : b < B) (hc : w0.cell? ⟨b, o, none⟩ = some v) : w.cell? ⟨b, o, none⟩ = some v :=
  (h.cell (p := ⟨b, o, none⟩) hb).trans hc
theorem frozen_below {w0 w : World} {B b : Nat} (o : Nat) (h : Below B w0 w) (hb : b < B) (hc : w0.frozen? ⟨b, o, none⟩ = false) : w.frozen? ⟨b, o, none⟩ = false :=
  (h.frozen (p := ⟨b, o, none⟩) hb).trans hc
theorem below_drewN {B : Nat} {a w : World} (h : Below B a w) (n : Nat) : Below B a (w.drewN n) := ⟨h.os, h.tape, h.output, h.size, h.block⟩

/-- What a cell holds. -/
def oldAt (w : World) (a : Addr) : Value := (w.cell? a).getD undef
theorem old_of {w : World} {a : Addr} {v : Value} (h : w.cell? a = some v) : w.cell? a = some (oldAt w a) := by unfold oldAt; rw [h]; rfl
theorem old_below {w0 w : World} {B b : Nat} (o : Nat) (h : Below B w0 w) (hb : b < B) (hc : w0.cell? ⟨b, o, none⟩ = some (oldAt w0 ⟨b, o, none⟩)) : w.cell? ⟨b, o, none⟩ = some (oldAt w ⟨b, o, none⟩) :=
  old_of ((h.cell (p := ⟨b, o, none⟩) hb).trans hc)

theorem set_none {w : World} {p q : Addr} {v : Value} (h : w.cell? q = none) : (w.setCell p v).cell? q = none := by
  by_cases e : p = q
  · subst e
    unfold World.cell? at h ⊢
    simp only [World.setCell, Array.getElem?_modify, if_pos]
    cases hb : w.heap[p.block]? with
    | none => rfl
    | some o =>
      rw [hb] at h
      cases o with
      | cells c t f =>
        simp only [Option.map_some] at h ⊢
        by_cases hs : p.spot.isSome
        · simp [hs]
        · simp only [hs, Bool.false_eq_true, ↓reduceIte] at h ⊢
          rw [Array.getElem?_setIfInBounds]
          have := Array.getElem?_eq_none_iff.1 h
          rw [if_pos rfl, if_neg (by omega)]
      | _ => rfl
  · rw [World.cell?_setCell_other _ _ _ _ e]; exact h
/-- Who reads what has just been stored reads it. -/
theorem set_back {w : World} {p : Addr} {v y : Value} (h : (w.setCell p v).cell? p = some y) : (w.setCell p v).cell? p = some v := by
  cases e : w.cell? p with
  | none => rw [set_none e] at h; cases h
  | some u => exact World.cell?_setCell_same _ _ _ e
theorem set_old {w : World} {p q : Addr} {v : Value} (h : w.cell? q = some (oldAt w q)) : (w.setCell p v).cell? q = some (oldAt (w.setCell p v) q) := by
  by_cases e : p = q
  · subst e; exact old_of (World.cell?_setCell_same _ _ _ h)
  · exact old_of ((World.cell?_setCell_other _ _ _ _ e).trans h)

/-- Block g is just these cells of type t, none frozen. -/
def Blk (w : World) (g : Nat) (t : TypeId) (cs : Array Value) : Prop := w.heap[g]? = some (.cells cs t (0, 0))
section
variable {w w' : World} {g : Nat} {t : TypeId} {cs : Array Value}
theorem Blk.lt (h : Blk w g t cs) : g < w.heap.size := by
  rcases Nat.lt_or_ge g w.heap.size with hlt | hge
  · exact hlt
  · unfold Blk at h; rw [Array.getElem?_eq_none hge] at h; cases h
theorem Blk.cell (h : Blk w g t cs) (i : Nat) : w.cell? ⟨g, i, none⟩ = cs[i]? := by unfold Blk at h; simp [World.cell?, h]
theorem Blk.frozen (h : Blk w g t cs) (i : Nat) : w.frozen? ⟨g, i, none⟩ = false := by
  unfold Blk at h
  simp [World.frozen?, h]
theorem Blk.new (w : World) (t : TypeId) (cs : Array Value) : Blk (w.alloc (.cells cs t)) w.heap.size t cs := (MapKept.heap_alloc w _).1
theorem Blk.drew (h : Blk w g t cs) : Blk w.drew g t cs := h
theorem Blk.drewN (h : Blk w g t cs) (n : Nat) : Blk (w.drewN n) g t cs := h
theorem Blk.alloc (h : Blk w g t cs) (o : Obj) : Blk (w.alloc o) g t cs := (Below.heap_alloc w o g h.lt).trans h
theorem Blk.set_ (h : Blk w g t cs) (i : Nat) (u : Value) : Blk (w.setCell ⟨g, i, none⟩ u) g t (cs.setIfInBounds i u) := by
  unfold Blk at h ⊢
  simp [World.setCell, Array.getElem?_modify, h]
theorem Blk.far (h : Blk w g t cs) {p : Addr} (hp : g ≠ p.block) (u : Value) : Blk (w.setCell p u) g t cs := (Below.heap_setCell w p u g hp).trans h
theorem Blk.below {B : Nat} (h : Blk w g t cs) (hb : Below B w w') (hg : g < B) : Blk w' g t cs := (hb.block g hg).trans h
theorem Blk.under (h : Blk w g t cs) (hb : Below w.heap.size w w') : Blk w' g t cs := h.below hb h.lt
end

/-- A box of two cells, held over a step that makes new blocks alone. -/
theorem hold1 {w a b : World} {B : Nat} {h l : Value} (hS : a.cell? ⟨B, 0, none⟩ = some h ∧ a.cell? ⟨B, 1, none⟩ = some l ∧ B < a.heap.size ∧ Below w.heap.size w a) (hb : Below a.heap.size a b) :
    b.cell? ⟨B, 0, none⟩ = some h ∧ b.cell? ⟨B, 1, none⟩ = some l ∧ B < b.heap.size ∧ Below w.heap.size w b :=
  ⟨cell_below _ hb hS.2.2.1 hS.1, cell_below _ hb hS.2.2.1 hS.2.1, Nat.lt_of_lt_of_le hS.2.2.1 hb.size, hS.2.2.2.trans (hb.mono hS.2.2.2.size)⟩
theorem hold1_end {w a : World} {B : Nat} {h l : Value} (hS : a.cell? ⟨B, 0, none⟩ = some h ∧ a.cell? ⟨B, 1, none⟩ = some l ∧ B < a.heap.size ∧ Below w.heap.size w a) : Below w.heap.size w a := hS.2.2.2
theorem hold1_id {w a : World} {B : Nat} {h l : Value} (hS : a.cell? ⟨B, 0, none⟩ = some h ∧ a.cell? ⟨B, 1, none⟩ = some l ∧ B < a.heap.size ∧ Below w.heap.size w a) : a.cell? ⟨B, 0, none⟩ = some h ∧ a.cell? ⟨B, 1, none⟩ = some l ∧ B < a.heap.size ∧ Below w.heap.size w a := hS
theorem hold2_end {w a : World} {B C : Nat} {h l x y : Value} (hS : a.cell? ⟨B, 0, none⟩ = some h ∧ a.cell? ⟨B, 1, none⟩ = some l ∧ a.cell? ⟨C, 0, none⟩ = some x ∧ a.cell? ⟨C, 1, none⟩ = some y ∧ B < a.heap.size ∧ C < a.heap.size ∧ Below w.heap.size w a) : Below w.heap.size w a := hS.2.2.2.2.2.2
/-- Two boxes. -/
theorem hold2 {w a b : World} {B C : Nat} {h l x y : Value} (hS : a.cell? ⟨B, 0, none⟩ = some h ∧ a.cell? ⟨B, 1, none⟩ = some l ∧ a.cell? ⟨C, 0, none⟩ = some x ∧ a.cell? ⟨C, 1, none⟩ = some y ∧ B < a.heap.size ∧ C < a.heap.size ∧ Below w.heap.size w a) (hb : Below a.heap.size a b) :
    b.cell? ⟨B, 0, none⟩ = some h ∧ b.cell? ⟨B, 1, none⟩ = some l ∧ b.cell? ⟨C, 0, none⟩ = some x ∧ b.cell? ⟨C, 1, none⟩ = some y ∧ B < b.heap.size ∧ C < b.heap.size ∧ Below w.heap.size w b := by
  obtain ⟨h1, h2, h3, h4, h5, h6, h7⟩ := hS
  exact ⟨cell_below _ hb h5 h1, cell_below _ hb h5 h2, cell_below _ hb h6 h3, cell_below _ hb h6 h4, Nat.lt_of_lt_of_le h5 hb.size, Nat.lt_of_lt_of_le h6 hb.size, h7.trans (hb.mono h7.size)⟩

/-- A box that is known whole, held over a region: over new blocks; over a store into another block; where a new block is laid with other cells. -/
theorem holdB {w a b : World} {B : Nat} {t : TypeId} {h l : Value} (hS : a.cell? ⟨B, 0, none⟩ = some h ∧ a.cell? ⟨B, 1, none⟩ = some l ∧ Blk a B t #[h, l] ∧ Below w.heap.size w a) (hb : Below a.heap.size a b) :
    b.cell? ⟨B, 0, none⟩ = some h ∧ b.cell? ⟨B, 1, none⟩ = some l ∧ Blk b B t #[h, l] ∧ Below w.heap.size w b :=
  ⟨(hS.2.2.1.under hb).cell 0, (hS.2.2.1.under hb).cell 1, hS.2.2.1.under hb, hS.2.2.2.trans (hb.mono hS.2.2.2.size)⟩
theorem holdB_start {w a : World} {B : Nat} {t : TypeId} {h l : Value} (b : Blk a B t #[h, l]) (hB : Below w.heap.size w a) :
    a.cell? ⟨B, 0, none⟩ = some h ∧ a.cell? ⟨B, 1, none⟩ = some l ∧ Blk a B t #[h, l] ∧ Below w.heap.size w a := ⟨b.cell 0, b.cell 1, b, hB⟩
theorem holdB_set {w a : World} {B C : Nat} {t : TypeId} {h l x y : Value} (hS : a.cell? ⟨B, 0, none⟩ = some h ∧ a.cell? ⟨B, 1, none⟩ = some l ∧ Blk a B t #[h, l] ∧ Below w.heap.size w a) (hne : B ≠ C) (hC : w.heap.size ≤ C) :
    ((a.setCell ⟨C, 0, none⟩ x).setCell ⟨C, 1, none⟩ y).cell? ⟨B, 0, none⟩ = some h ∧ ((a.setCell ⟨C, 0, none⟩ x).setCell ⟨C, 1, none⟩ y).cell? ⟨B, 1, none⟩ = some l ∧ Blk ((a.setCell ⟨C, 0, none⟩ x).setCell ⟨C, 1, none⟩ y) B t #[h, l] ∧ Below w.heap.size w ((a.setCell ⟨C, 0, none⟩ x).setCell ⟨C, 1, none⟩ y) := by
  have b := (hS.2.2.1.far (p := ⟨C, 0, none⟩) hne x).far (p := ⟨C, 1, none⟩) hne y
  exact ⟨b.cell 0, b.cell 1, b, (hS.2.2.2.setCell (p := ⟨C, 0, none⟩) hC x).setCell (p := ⟨C, 1, none⟩) hC y⟩
theorem holdB_other {w a : World} {B : Nat} {t : TypeId} {h l : Value} {o o' : Obj} (hS : (a.alloc o).cell? ⟨B, 0, none⟩ = some h ∧ (a.alloc o).cell? ⟨B, 1, none⟩ = some l ∧ Blk (a.alloc o) B t #[h, l] ∧ Below w.heap.size w (a.alloc o)) (hlt : B < a.heap.size) (hw : w.heap.size ≤ a.heap.size) :
    (a.alloc o').cell? ⟨B, 0, none⟩ = some h ∧ (a.alloc o').cell? ⟨B, 1, none⟩ = some l ∧ Blk (a.alloc o') B t #[h, l] ∧ Below w.heap.size w (a.alloc o') := by
  have b0 : Blk a B t #[h, l] := (Below.heap_alloc a o B hlt).symm.trans hS.2.2.1
  have b := b0.alloc o'
  have h4 := hS.2.2.2
  exact ⟨b.cell 0, b.cell 1, b, ⟨h4.os, h4.tape, h4.output, by simp; omega, fun k hk => (Below.heap_alloc a o' k (by omega)).trans ((Below.heap_alloc a o k (by omega)).symm.trans (h4.block k hk))⟩⟩
theorem holdB_end {w a : World} {B : Nat} {t : TypeId} {h l : Value} (hS : a.cell? ⟨B, 0, none⟩ = some h ∧ a.cell? ⟨B, 1, none⟩ = some l ∧ Blk a B t #[h, l] ∧ Below w.heap.size w a) : Blk a B t #[h, l] ∧ Below w.heap.size w a := hS.2.2

section
variable {H : Type} {enc : TypeId × Value → H} {P : Program}
/-- The row's last step, where 'Below' alone is known of the world behind the call. -/
theorem post_below {f : Func} {s : ChangeSpec} {apart fresh handsOn again : Bool} {W W' : World} {args : Array Value} {v : Value} {ds gs : List (DataW H)} {before pa pv : List MemPlace}
    (hW : DataW.Whole enc P f.params.toList s.vars apart W args.toList ds gs before)
    (hres : ∀ (b : Nat) (sp : Nat → Bool) (hd : Bool), DataW.TrodAll enc P W' b sp hd f.resultTypes.toList (v.resultList f.resultTypes.size) (s.fn H (ds ++ gs)).results [])
    (hargs : ∀ sp : Nat → Bool, (∀ p ∈ before, sp p.block = true) → DataW.TrodAll enc P W' 0 sp true f.params.toList args.toList (s.fn H (ds ++ gs)).args pa)
    (hvars : ∀ sp : Nat → Bool, (∀ p ∈ before, sp p.block = true) → DataW.TrodVars enc P W' sp s.vars (s.fn H (ds ++ gs)).vars pv)
    (hps : before = pa ++ pv) (hb : Below W.heap.size W W')
    (hok : ∀ (j : Nat) (t : TypeId) (r : Value), f.resultTypes[j]? = some t → (v.resultList f.resultTypes.size)[j]? = some r → Value.okWide P W' .any 0 t r) :
    s.post enc P f apart fresh handsOn again W args v W' := by
  have hlt : ∀ p ∈ before, p.block < W.heap.size := fun p hp => hW.lt p hp
  have hold : ∀ p ∈ before, (fun b => decide (b < W.heap.size)) p.block = true := fun p hp => by simpa using hlt p hp
  refine ⟨ds, gs, before, [], pa, pv, hW, hres _ _ _, hargs _ hold, hvars _ hold, World.keptBut_mono (fun p hp => ⟨hp, ?_⟩) (hb.frame (· ∈ before)), fun _ => ?_⟩
  · rw [hps, List.mem_append] at hp
    exact Or.inr hp
  · obtain ⟨_, _, _, _, _, hz, hn⟩ := hW
    refine ⟨hok, _, _, ([] ++ pa) ++ pv, ⟨[] ++ pa, pv, trodAll_append (hargs _ (fun _ _ => rfl)) (hres _ _ _), hvars _ (fun _ _ => rfl), rfl, ?_, ?_⟩, ?_⟩
    · intro b off hp
      have hin : MemPlace.cell b off ∈ before := by rw [hps]; simpa using hp
      rw [hb.frozen (hlt _ hin)]
      exact hz b off hin
    · intro ha
      have := hn ha
      rw [hps] at this
      simpa using this
    · intro p hp _
      rw [hps]
      simpa using hp
end
end Go.Proofs.Ytpjcndfamhehlaa
