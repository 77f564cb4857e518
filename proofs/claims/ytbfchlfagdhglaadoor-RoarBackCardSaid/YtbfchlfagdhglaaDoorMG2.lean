import Derived.Test.YtbfchlfagdhglaaDoorMG1
import Derived.ScopeJumps
import Derived.WalkMore
import Derived.Below
import Derived.ChangeSame
import Derived.Lib.Hide
import Derived.Deep.Draws
import Derived.Test.YtbfchlfagdhglaaDoorProg
import Derived.WalkKit
import Derived.WalkSpells
import Derived.Laws.Externs
import Derived.Lib.SmallJoins
import Derived.Deep.RegionHeld3
import Derived.Outline
import Derived.Deep.MidRow
import Derived.Deep.WholeRow
import Derived.Deep.RegionWith
import Derived.Laws.OwnMore
import Derived.Laws.IdiomStrings
import Derived.RegionTactic
import Derived.Laws.MakeOwn
import Derived.OwnWalk
import Derived.Deep.Onto
/- Bitmaps: sets of numbers below 65536, in chunks of 256: pure mathematics. -/
namespace Go.Proofs.YtbfchlfagdhglaaDoor

/-- A chunk: its key, its container's form and bytes. -/
abbrev Ch := Int × Int × List UInt8
/-- A chunk as it can come. -/
def OkCh (c : Ch) : Prop := (-9223372036854775808 ≤ c.1 ∧ c.1 ≤ 9223372036854775807) ∧ (-9223372036854775808 ≤ c.2.1 ∧ c.2.1 ≤ 9223372036854775807) ∧ c.2.2.length ≤ 9223372036854775807
/-- Two sets are one, of the numbers below 65536. -/
def SameZ (s t : Bs) : Prop := ∀ n, n < 65536 → s n = t n
theorem SameZ.symm {s t : Bs} (h : SameZ s t) : SameZ t s := fun n hn => (h n hn).symm
theorem SameZ.trans {s t u : Bs} (h : SameZ s t) (k : SameZ t u) : SameZ s u := fun n hn => (h n hn).trans (k n hn)
theorem SameZ.refl (s : Bs) : SameZ s s := fun _ _ => rfl
/-- The numbers of chunk k. -/
def part (s : Bs) (k : Nat) : Bs := fun i => s (256 * k + i)
theorem part_same {s t : Bs} {k : Nat} (hk : k < 256) (h : SameZ s t) : Same (part s k) (part t k) := fun i hi => h _ (by omega)
/-- The chunk k of a set. -/
def chunk (t : Bs) (k : Nat) : Ch := ((k : Int), (bestF t : Nat), bestD t)
theorem chunk_congr {s t : Bs} (h : Same s t) (k : Nat) : chunk s k = chunk t k := by unfold chunk; rw [bestF_congr h, bestD_congr h]
/-- The bitmap of a set, of the chunks below k. -/
def ofTo (s : Bs) : Nat → List Ch
  | 0 => []
  | k + 1 => if vals (part s k) = [] then ofTo s k else ofTo s k ++ [chunk (part s k) k]
def ofS (s : Bs) : List Ch := ofTo s 256
theorem ofTo_none {s : Bs} {k : Nat} (h : vals (part s k) = []) : ofTo s (k + 1) = ofTo s k := if_pos h
theorem ofTo_some {s : Bs} {k : Nat} (h : vals (part s k) ≠ []) : ofTo s (k + 1) = ofTo s k ++ [chunk (part s k) k] := if_neg h
theorem ofTo_length (s : Bs) (k : Nat) : (ofTo s k).length ≤ k := by
  induction k with
  | zero => exact Nat.le_refl _
  | succ k ih =>
    by_cases h : vals (part s k) = []
    · rw [ofTo_none h]; omega
    · rw [ofTo_some h, List.length_append, List.length_singleton]; omega
theorem ofS_length (s : Bs) : (ofS s).length ≤ 256 := ofTo_length s 256
theorem ofTo_congr {s t : Bs} (k : Nat) (hk : k ≤ 256) (h : SameZ s t) : ofTo s k = ofTo t k := by
  induction k with
  | zero => rfl
  | succ k ih =>
    have hp := part_same (k := k) (by omega) h
    simp only [ofTo]
    rw [ih (by omega), vals_congr hp, chunk_congr hp]
theorem ofS_congr {s t : Bs} (h : SameZ s t) : ofS s = ofS t := ofTo_congr 256 (Nat.le_refl _) h
/-- Has a chunk the number? -/
def hasCh (c : Ch) (n : Nat) : Bool := decide (c.1 = ((n / 256 : Nat) : Int)) && setOf c.2.1.toNat c.2.2 (n % 256)
/-- Which numbers chunks have. -/
def setZ (r : List Ch) : Bs := fun n => r.any fun c => hasCh c n
theorem setZ_nil (n : Nat) : setZ [] n = false := rfl
theorem setZ_append (r q : List Ch) (n : Nat) : setZ (r ++ q) n = (setZ r n || setZ q n) := by unfold setZ; rw [List.any_append]
theorem setZ_one (c : Ch) (n : Nat) : setZ [c] n = hasCh c n := by simp [setZ]
theorem hasCh_chunk (t : Bs) (k n : Nat) : hasCh (chunk t k) n = (decide (k = n / 256) && t (n % 256)) := by
  unfold hasCh chunk
  simp only [Int.toNat_natCast]
  rw [best_set t _ (Nat.mod_lt _ (by decide))]
  congr 1
  exact decide_eq_decide.2 (by omega)
theorem vals_nil {t : Bs} (h : vals t = []) (i : Nat) (hi : i < 256) : t i = false := by
  cases e : t i with
  | false => rfl
  | true =>
    have : i ∈ vals t := mem_valsTo.2 ⟨hi, e⟩
    rw [h] at this; cases this
theorem set_ofTo (s : Bs) (k n : Nat) : setZ (ofTo s k) n = (decide (n < 256 * k) && s n) := by
  induction k with
  | zero => rw [show decide (n < 256 * 0) = false by simp, Bool.false_and]; rfl
  | succ k ih =>
    have e : 256 * (n / 256) + n % 256 = n := Nat.div_add_mod n 256
    by_cases h : vals (part s k) = []
    · rw [ofTo_none h, ih]
      by_cases hn : n < 256 * k
      · rw [decide_eq_true hn, decide_eq_true (show n < 256 * (k + 1) by omega)]
      · rw [decide_eq_false hn, Bool.false_and]
        by_cases hn2 : n < 256 * (k + 1)
        · have h0 := vals_nil h (n % 256) (Nat.mod_lt _ (by decide))
          have h1 : part s k (n % 256) = s n := by unfold part; congr 1; omega
          rw [h1] at h0
          rw [h0, Bool.and_false]
        · rw [decide_eq_false hn2, Bool.false_and]
    · rw [ofTo_some h, setZ_append, setZ_one, hasCh_chunk, ih]
      by_cases hk : k = n / 256
      · have h1 : part s k (n % 256) = s n := by unfold part; congr 1; omega
        rw [decide_eq_true hk, Bool.true_and, h1, decide_eq_true (show n < 256 * (k + 1) by omega), decide_eq_false (show ¬ n < 256 * k by omega)]
        rfl
      · rw [decide_eq_false hk, Bool.false_and, Bool.or_false]
        congr 1
        exact decide_eq_decide.2 (by omega)
theorem set_of (s : Bs) : SameZ (setZ (ofS s)) s := fun n hn => by
  unfold ofS; rw [set_ofTo, decide_eq_true (by omega), Bool.true_and]
theorem setZ_over (s : Bs) (n : Nat) (hn : 65536 ≤ n) : setZ (ofS s) n = false := by
  unfold ofS; rw [set_ofTo, decide_eq_false (by omega), Bool.false_and]
/-- A bitmap: that of its numbers. -/
def RightZ (r : List Ch) : Prop := r.length ≤ 256 ∧ r = ofS (setZ r)
instance (r : List Ch) : Decidable (RightZ r) := by unfold RightZ; infer_instance
theorem right_of (s : Bs) : RightZ (ofS s) := ⟨ofS_length s, (ofS_congr (set_of s)).symm⟩
/-- Two bitmaps of the same numbers are one. -/
theorem right_one {r q : List Ch} (h : RightZ r) (k : RightZ q) (hs : SameZ (setZ r) (setZ q)) : r = q := by
  rw [h.2, k.2]; exact ofS_congr hs
/-- Its chunks. -/
theorem mem_ofTo {s : Bs} {k : Nat} {c : Ch} (h : c ∈ ofTo s k) : ∃ j, j < k ∧ c = chunk (part s j) j ∧ vals (part s j) ≠ [] := by
  induction k with
  | zero => cases h
  | succ k ih =>
    by_cases hv : vals (part s k) = []
    · rw [ofTo_none hv] at h
      obtain ⟨j, hj, e⟩ := ih h
      exact ⟨j, by omega, e⟩
    · rw [ofTo_some hv] at h
      rcases List.mem_append.1 h with h | h
      · obtain ⟨j, hj, e⟩ := ih h
        exact ⟨j, by omega, e⟩
      · exact ⟨k, by omega, List.mem_singleton.1 h, hv⟩
theorem ofTo_asc (s : Bs) (k : Nat) : (ofTo s k).Pairwise fun a b => a.1 < b.1 := by
  induction k with
  | zero => exact List.Pairwise.nil
  | succ k ih =>
    by_cases hv : vals (part s k) = []
    · rw [ofTo_none hv]; exact ih
    · rw [ofTo_some hv]
      refine List.pairwise_append.2 ⟨ih, List.pairwise_singleton _ _, fun a ha b hb => ?_⟩
      rw [List.mem_singleton.1 hb]
      obtain ⟨j, hj, e, _⟩ := mem_ofTo ha
      rw [e]
      show (j : Int) < k
      omega
/-- The set of chunks that have come, and of one more, up to number m of it. -/
def setM (r : List Ch) (c : Ch) (m : Nat) : Bs := fun n => setZ r n || (decide (n % 256 < m) && hasCh c n)
theorem setM_zero (r : List Ch) (c : Ch) (n : Nat) : setM r c 0 n = setZ r n := by
  unfold setM
  rw [show decide (n % 256 < 0) = false by simp, Bool.false_and, Bool.or_false]
theorem setM_all (r : List Ch) (c : Ch) (n : Nat) : setM r c 256 n = setZ (r ++ [c]) n := by
  unfold setM
  rw [decide_eq_true (Nat.mod_lt n (by decide)), Bool.true_and, setZ_append, setZ_one]
theorem setM_far {r : List Ch} {c : Ch} (m : Nat) (h : c.1 < 0 ∨ 256 ≤ c.1) (n : Nat) (hn : n < 65536) : setM r c m n = setZ (r ++ [c]) n := by
  unfold setM
  rw [setZ_append, setZ_one]
  have : hasCh c n = false := by
    unfold hasCh
    rw [decide_eq_false (by omega), Bool.false_and]
  rw [this, Bool.and_false]
theorem setM_put (r : List Ch) (c : Ch) (k m : Nat) (hk : c.1 = (k : Int)) (hm : m < 256) (n : Nat) :
    (if n = 256 * k + m then (setM r c m (256 * k + m) || setOf c.2.1.toNat c.2.2 m) else setM r c m n) = setM r c (m + 1) n := by
  have e : (256 * k + m) % 256 = m := by omega
  have e2 : (256 * k + m) / 256 = k := by omega
  by_cases h : n = 256 * k + m
  · subst h
    rw [if_pos rfl]
    unfold setM
    rw [e, decide_eq_false (Nat.lt_irrefl m), Bool.false_and, Bool.or_false, decide_eq_true (Nat.lt_succ_self m), Bool.true_and]
    unfold hasCh
    rw [e, e2, decide_eq_true hk, Bool.true_and]
  · rw [if_neg h]
    unfold setM
    by_cases h2 : n % 256 = m
    · have : hasCh c n = false := by
        unfold hasCh
        rw [decide_eq_false (by omega), Bool.false_and]
      rw [this, Bool.and_false, Bool.and_false]
    · congr 2
      exact decide_eq_decide.2 (by omega)
end Go.Proofs.YtbfchlfagdhglaaDoor
/- Small laws of the walk that serve every seat: a scope that is left ahead by a goto; what new blocks leave alone; the row's last step behind 'Below'. -/
namespace Go.Proofs.YtbfchlfagdhglaaDoor
open Go.RowKit Go.WideShapes Go.ChangeShapes

/-- Nowhere. -/
def Never (_ : Act) (_ : World) : Prop := False

section
variable {P : Program} {a : Act} {w : World} {Q : Exit → Act → World → Prop}
/-- A scope whose label is jumped to from ahead of it, and never again: the walk goes on behind the label. -/
theorem wp_scope_over {c rest : Code} (l : Nat) (hf : findLabel c l = some rest)
    (h : c.wp P (Exit.jump l (fun a w => rest.wp P (Exit.jump l Never Q) a w) Q) a w) : (Code.scope c).wp P Q a w := by
  refine wp_scope_jumps l (fun a w => rest.wp P (Exit.jump l Never Q) a w) (fun _ _ => 0) hf h ?_
  intro a w hJ
  refine Code.wp_mono ?_ hJ
  intro e a w hq
  cases e with
  | goto l' => exact hq.2.elim
  | normal => exact hq
  | exit id => exact hq
  | ret => exact hq
  | panic ch => exact hq
  | outgrown => exact hq
@[go_sem] theorem Exit.jump_normal {l : Nat} {J : Act → World → Prop} : Exit.jump l J Q .normal a w = Q .normal a w := rfl
@[go_sem] theorem Exit.jump_exit {l : Nat} {J : Act → World → Prop} (id : Nat) : Exit.jump l J Q (.exit id) a w = Q (.exit id) a w := rfl
@[go_sem] theorem Exit.jump_ret {l : Nat} {J : Act → World → Prop} : Exit.jump l J Q .ret a w = Q .ret a w := rfl
theorem Exit.jump_goto {l : Nat} {J : Act → World → Prop} (h : J a w) : Exit.jump l J Q (.goto l) a w := ⟨rfl, h⟩
end

/-- What a world keeps of the cells that lie below B. -/
theorem cell_below {w0 w : World} {B b : Nat} (o : Nat) {v : Value} (h : Below B w0 w) (hb : b < B) (hc : w0.cell? ⟨b, o, none⟩ = some v) : w.cell? ⟨b, o, none⟩ = some v :=
  (h.cell (p := ⟨b, o, none⟩) hb).trans hc
theorem frozen_below {w0 w : World} {B b : Nat} (o : Nat) (h : Below B w0 w) (hb : b < B) (hc : w0.frozen? ⟨b, o, none⟩ = false) : w.frozen? ⟨b, o, none⟩ = false :=
  (h.frozen (p := ⟨b, o, none⟩) hb).trans hc
theorem below_drewN {B : Nat} {a w : World} (h : Below B a w) (n : Nat) : Below B a (w.drewN n) := ⟨h.os, h.tape, h.output, h.size, h.block⟩

/-- What a cell holds. -/
def oldAt (w : World) (a : Addr) : Value := (w.cell? a).getD undef
theorem old_of {w : World} {a : Addr} {v : Value} (h : w.cell? a = some v) : w.cell? a = some (oldAt w a) := by unfold oldAt; rw [h]; rfl
theorem old_below {w0 w : World} {B b : Nat} (o : Nat) (h : Below B w0 w) (hb : b < B) (hc : w0.cell? ⟨b, o, none⟩ = some (oldAt w0 ⟨b, o, none⟩)) : w.cell? ⟨b, o, none⟩ = some (oldAt w ⟨b, o, none⟩) :=
  old_of ((h.cell (p := ⟨b, o, none⟩) hb).trans hc)

theorem set_none {w : World} {p q : Addr} {v : Value} (h : w.cell? q = none) : (w.setCell p v).cell? q = none := by
  by_cases e : p = q
  · subst e
    unfold World.cell? at h ⊢
    simp only [World.setCell, Array.getElem?_modify, if_pos]
    cases hb : w.heap[p.block]? with
    | none => rfl
    | some o =>
      rw [hb] at h
      cases o with
      | cells c t f =>
        simp only [Option.map_some] at h ⊢
        by_cases hs : p.spot.isSome
        · simp [hs]
        · simp only [hs, Bool.false_eq_true, ↓reduceIte] at h ⊢
          rw [Array.getElem?_setIfInBounds]
          have := Array.getElem?_eq_none_iff.1 h
          rw [if_pos rfl, if_neg (by omega)]
      | _ => rfl
  · rw [World.cell?_setCell_other _ _ _ _ e]; exact h
/-- Who reads what has just been stored reads it. -/
theorem set_back {w : World} {p : Addr} {v y : Value} (h : (w.setCell p v).cell? p = some y) : (w.setCell p v).cell? p = some v := by
  cases e : w.cell? p with
  | none => rw [set_none e] at h; cases h
  | some u => exact World.cell?_setCell_same _ _ _ e
theorem set_old {w : World} {p q : Addr} {v : Value} (h : w.cell? q = some (oldAt w q)) : (w.setCell p v).cell? q = some (oldAt (w.setCell p v) q) := by
  by_cases e : p = q
  · subst e; exact old_of (World.cell?_setCell_same _ _ _ h)
  · exact old_of ((World.cell?_setCell_other _ _ _ _ e).trans h)

/-- Block g is just these cells of type t, none frozen. -/
def Blk (w : World) (g : Nat) (t : TypeId) (cs : Array Value) : Prop := w.heap[g]? = some (.cells cs t (0, 0))
section
variable {w w' : World} {g : Nat} {t : TypeId} {cs : Array Value}
theorem Blk.lt (h : Blk w g t cs) : g < w.heap.size := by
  rcases Nat.lt_or_ge g w.heap.size with hlt | hge
  · exact hlt
  · unfold Blk at h; rw [Array.getElem?_eq_none hge] at h; cases h
theorem Blk.cell (h : Blk w g t cs) (i : Nat) : w.cell? ⟨g, i, none⟩ = cs[i]? := by unfold Blk at h; simp [World.cell?, h]
theorem Blk.frozen (h : Blk w g t cs) (i : Nat) : w.frozen? ⟨g, i, none⟩ = false := by
  unfold Blk at h
  simp [World.frozen?, h]
theorem Blk.new (w : World) (t : TypeId) (cs : Array Value) : Blk (w.alloc (.cells cs t)) w.heap.size t cs := (MapKept.heap_alloc w _).1
theorem Blk.drew (h : Blk w g t cs) : Blk w.drew g t cs := h
theorem Blk.drewN (h : Blk w g t cs) (n : Nat) : Blk (w.drewN n) g t cs := h
theorem Blk.alloc (h : Blk w g t cs) (o : Obj) : Blk (w.alloc o) g t cs := (Below.heap_alloc w o g h.lt).trans h
theorem Blk.set_ (h : Blk w g t cs) (i : Nat) (u : Value) : Blk (w.setCell ⟨g, i, none⟩ u) g t (cs.setIfInBounds i u) := by
  unfold Blk at h ⊢
  simp [World.setCell, Array.getElem?_modify, h]
theorem Blk.far (h : Blk w g t cs) {p : Addr} (hp : g ≠ p.block) (u : Value) : Blk (w.setCell p u) g t cs := (Below.heap_setCell w p u g hp).trans h
theorem Blk.below {B : Nat} (h : Blk w g t cs) (hb : Below B w w') (hg : g < B) : Blk w' g t cs := (hb.block g hg).trans h
theorem Blk.under (h : Blk w g t cs) (hb : Below w.heap.size w w') : Blk w' g t cs := h.below hb h.lt
end

/-- A box of two cells, held over a step that makes new blocks alone. -/
theorem hold1 {w a b : World} {B : Nat} {h l : Value} (hS : a.cell? ⟨B, 0, none⟩ = some h ∧ a.cell? ⟨B, 1, none⟩ = some l ∧ B < a.heap.size ∧ Below w.heap.size w a) (hb : Below a.heap.size a b) :
    b.cell? ⟨B, 0, none⟩ = some h ∧ b.cell? ⟨B, 1, none⟩ = some l ∧ B < b.heap.size ∧ Below w.heap.size w b :=
  ⟨cell_below _ hb hS.2.2.1 hS.1, cell_below _ hb hS.2.2.1 hS.2.1, Nat.lt_of_lt_of_le hS.2.2.1 hb.size, hS.2.2.2.trans (hb.mono hS.2.2.2.size)⟩
theorem hold1_end {w a : World} {B : Nat} {h l : Value} (hS : a.cell? ⟨B, 0, none⟩ = some h ∧ a.cell? ⟨B, 1, none⟩ = some l ∧ B < a.heap.size ∧ Below w.heap.size w a) : Below w.heap.size w a := hS.2.2.2
theorem hold1_id {w a : World} {B : Nat} {h l : Value} (hS : a.cell? ⟨B, 0, none⟩ = some h ∧ a.cell? ⟨B, 1, none⟩ = some l ∧ B < a.heap.size ∧ Below w.heap.size w a) : a.cell? ⟨B, 0, none⟩ = some h ∧ a.cell? ⟨B, 1, none⟩ = some l ∧ B < a.heap.size ∧ Below w.heap.size w a := hS
theorem hold2_end {w a : World} {B C : Nat} {h l x y : Value} (hS : a.cell? ⟨B, 0, none⟩ = some h ∧ a.cell? ⟨B, 1, none⟩ = some l ∧ a.cell? ⟨C, 0, none⟩ = some x ∧ a.cell? ⟨C, 1, none⟩ = some y ∧ B < a.heap.size ∧ C < a.heap.size ∧ Below w.heap.size w a) : Below w.heap.size w a := hS.2.2.2.2.2.2
/-- Two boxes. -/
theorem hold2 {w a b : World} {B C : Nat} {h l x y : Value} (hS : a.cell? ⟨B, 0, none⟩ = some h ∧ a.cell? ⟨B, 1, none⟩ = some l ∧ a.cell? ⟨C, 0, none⟩ = some x ∧ a.cell? ⟨C, 1, none⟩ = some y ∧ B < a.heap.size ∧ C < a.heap.size ∧ Below w.heap.size w a) (hb : Below a.heap.size a b) :
    b.cell? ⟨B, 0, none⟩ = some h ∧ b.cell? ⟨B, 1, none⟩ = some l ∧ b.cell? ⟨C, 0, none⟩ = some x ∧ b.cell? ⟨C, 1, none⟩ = some y ∧ B < b.heap.size ∧ C < b.heap.size ∧ Below w.heap.size w b := by
  obtain ⟨h1, h2, h3, h4, h5, h6, h7⟩ := hS
  exact ⟨cell_below _ hb h5 h1, cell_below _ hb h5 h2, cell_below _ hb h6 h3, cell_below _ hb h6 h4, Nat.lt_of_lt_of_le h5 hb.size, Nat.lt_of_lt_of_le h6 hb.size, h7.trans (hb.mono h7.size)⟩

/-- A box that is known whole, held over a region: over new blocks; over a store into another block; where a new block is laid with other cells. -/
theorem holdB {w a b : World} {B : Nat} {t : TypeId} {h l : Value} (hS : a.cell? ⟨B, 0, none⟩ = some h ∧ a.cell? ⟨B, 1, none⟩ = some l ∧ Blk a B t #[h, l] ∧ Below w.heap.size w a) (hb : Below a.heap.size a b) :
    b.cell? ⟨B, 0, none⟩ = some h ∧ b.cell? ⟨B, 1, none⟩ = some l ∧ Blk b B t #[h, l] ∧ Below w.heap.size w b :=
  ⟨(hS.2.2.1.under hb).cell 0, (hS.2.2.1.under hb).cell 1, hS.2.2.1.under hb, hS.2.2.2.trans (hb.mono hS.2.2.2.size)⟩
theorem holdB_start {w a : World} {B : Nat} {t : TypeId} {h l : Value} (b : Blk a B t #[h, l]) (hB : Below w.heap.size w a) :
    a.cell? ⟨B, 0, none⟩ = some h ∧ a.cell? ⟨B, 1, none⟩ = some l ∧ Blk a B t #[h, l] ∧ Below w.heap.size w a := ⟨b.cell 0, b.cell 1, b, hB⟩
theorem holdB_set {w a : World} {B C : Nat} {t : TypeId} {h l x y : Value} (hS : a.cell? ⟨B, 0, none⟩ = some h ∧ a.cell? ⟨B, 1, none⟩ = some l ∧ Blk a B t #[h, l] ∧ Below w.heap.size w a) (hne : B ≠ C) (hC : w.heap.size ≤ C) :
    ((a.setCell ⟨C, 0, none⟩ x).setCell ⟨C, 1, none⟩ y).cell? ⟨B, 0, none⟩ = some h ∧ ((a.setCell ⟨C, 0, none⟩ x).setCell ⟨C, 1, none⟩ y).cell? ⟨B, 1, none⟩ = some l ∧ Blk ((a.setCell ⟨C, 0, none⟩ x).setCell ⟨C, 1, none⟩ y) B t #[h, l] ∧ Below w.heap.size w ((a.setCell ⟨C, 0, none⟩ x).setCell ⟨C, 1, none⟩ y) := by
  have b := (hS.2.2.1.far (p := ⟨C, 0, none⟩) hne x).far (p := ⟨C, 1, none⟩) hne y
  exact ⟨b.cell 0, b.cell 1, b, (hS.2.2.2.setCell (p := ⟨C, 0, none⟩) hC x).setCell (p := ⟨C, 1, none⟩) hC y⟩
theorem holdB_other {w a : World} {B : Nat} {t : TypeId} {h l : Value} {o o' : Obj} (hS : (a.alloc o).cell? ⟨B, 0, none⟩ = some h ∧ (a.alloc o).cell? ⟨B, 1, none⟩ = some l ∧ Blk (a.alloc o) B t #[h, l] ∧ Below w.heap.size w (a.alloc o)) (hlt : B < a.heap.size) (hw : w.heap.size ≤ a.heap.size) :
    (a.alloc o').cell? ⟨B, 0, none⟩ = some h ∧ (a.alloc o').cell? ⟨B, 1, none⟩ = some l ∧ Blk (a.alloc o') B t #[h, l] ∧ Below w.heap.size w (a.alloc o') := by
  have b0 : Blk a B t #[h, l] := (Below.heap_alloc a o B hlt).symm.trans hS.2.2.1
  have b := b0.alloc o'
  have h4 := hS.2.2.2
  exact ⟨b.cell 0, b.cell 1, b, ⟨h4.os, h4.tape, h4.output, by simp; omega, fun k hk => (Below.heap_alloc a o' k (by omega)).trans ((Below.heap_alloc a o k (by omega)).symm.trans (h4.block k hk))⟩⟩
theorem holdB_end {w a : World} {B : Nat} {t : TypeId} {h l : Value} (hS : a.cell? ⟨B, 0, none⟩ = some h ∧ a.cell? ⟨B, 1, none⟩ = some l ∧ Blk a B t #[h, l] ∧ Below w.heap.size w a) : Blk a B t #[h, l] ∧ Below w.heap.size w a := hS.2.2

section
variable {H : Type} {enc : TypeId × Value → H} {P : Program}
/-- The row's last step, where 'Below' alone is known of the world behind the call. -/
theorem post_below {f : Func} {s : ChangeSpec} {apart fresh handsOn again : Bool} {W W' : World} {args : Array Value} {v : Value} {ds gs : List (DataW H)} {before pa pv : List MemPlace}
    (hW : DataW.Whole enc P f.params.toList s.vars apart W args.toList ds gs before)
    (hres : ∀ (b : Nat) (sp : Nat → Bool) (hd : Bool), DataW.TrodAll enc P W' b sp hd f.resultTypes.toList (v.resultList f.resultTypes.size) (s.fn H (ds ++ gs)).results [])
    (hargs : ∀ sp : Nat → Bool, (∀ p ∈ before, sp p.block = true) → DataW.TrodAll enc P W' 0 sp true f.params.toList args.toList (s.fn H (ds ++ gs)).args pa)
    (hvars : ∀ sp : Nat → Bool, (∀ p ∈ before, sp p.block = true) → DataW.TrodVars enc P W' sp s.vars (s.fn H (ds ++ gs)).vars pv)
    (hps : before = pa ++ pv) (hb : Below W.heap.size W W')
    (hok : ∀ (j : Nat) (t : TypeId) (r : Value), f.resultTypes[j]? = some t → (v.resultList f.resultTypes.size)[j]? = some r → Value.okWide P W' .any 0 t r) :
    s.post enc P f apart fresh handsOn again W args v W' := by
  have hlt : ∀ p ∈ before, p.block < W.heap.size := fun p hp => hW.lt p hp
  have hold : ∀ p ∈ before, (fun b => decide (b < W.heap.size)) p.block = true := fun p hp => by simpa using hlt p hp
  refine ⟨ds, gs, before, [], pa, pv, hW, hres _ _ _, hargs _ hold, hvars _ hold, World.keptBut_mono (fun p hp => ⟨hp, ?_⟩) (hb.frame (· ∈ before)), fun _ => ?_⟩
  · rw [hps, List.mem_append] at hp
    exact Or.inr hp
  · obtain ⟨_, _, _, _, _, hz, hn⟩ := hW
    refine ⟨hok, _, _, ([] ++ pa) ++ pv, ⟨[] ++ pa, pv, trodAll_append (hargs _ (fun _ _ => rfl)) (hres _ _ _), hvars _ (fun _ _ => rfl), rfl, ?_, ?_⟩, ?_⟩
    · intro b off hp
      have hin : MemPlace.cell b off ∈ before := by rw [hps]; simpa using hp
      rw [hb.frozen (hlt _ hin)]
      exact hz b off hin
    · intro ha
      have := hn ha
      rw [hps] at this
      simpa using this
    · intro p hp _
      rw [hps]
      simpa using hp
end
end Go.Proofs.YtbfchlfagdhglaaDoor
/- The contracts of package varint's functions that have no loop, over this program. -/
namespace Go.Proofs.YtbfchlfagdhglaaDoor
open Go.RowKit

theorem u64_wrap (n : Int) : IntKind.u64.wrap n = n % 18446744073709551616 := by
  simp [IntKind.wrap, IntKind.bits, IntKind.signed]

theorem ret_int {k : IntKind} {a b : Int} (h : a = b) : Ending.returned (.int k a) = .returned (.int k b) := by rw [h]
theorem ret_bs {a b : ByteArray} (h : a = b) : Ending.returned (.string a) = .returned (.string b) := by rw [h]
/-- A part of a string of bytes. -/
theorem ext_mk (l : List UInt8) (a b : Nat) : (ByteArray.mk l.toArray).extract a b = ⟨((l.take b).drop a).toArray⟩ := by
  apply ByteArray.ext
  rw [ByteArray.data_extract]
  rw [List.extract_toArray, List.extract_eq_take_drop, List.drop_take]
theorem app_mk (a b : List UInt8) : ByteArray.mk a.toArray ++ ByteArray.mk b.toArray = ⟨(a ++ b).toArray⟩ := by
  rw [ByteArray.mk_append_mk, ← List.append_toArray]
theorem mk_str {a b : List UInt8} (h : a = b) : ByteArray.mk a.toArray = ⟨b.toArray⟩ := by rw [h]

end Go.Proofs.YtbfchlfagdhglaaDoor
/- Containers: values, whole arrays of 256 truths. -/
namespace Go.Proofs.YtbfchlfagdhglaaDoor
open Go.RowKit

/-- The cells of a set. -/
def bcl (s : Bs) : Array Value := ((List.range 256).map fun n => Value.bool (s n)).toArray
theorem bcl_size (s : Bs) : (bcl s).size = 256 := by simp [bcl]
theorem bcl_get {s : Bs} {n : Nat} (h : n < 256) : (bcl s)[n]? = some (.bool (s n)) := by
  unfold bcl
  rw [List.getElem?_toArray, List.getElem?_map, List.getElem?_range h]; rfl
theorem bcl_congr {s t : Bs} (h : Same s t) : bcl s = bcl t := by
  unfold bcl
  congr 1
  exact List.map_congr_left fun n hn => by rw [h n (List.mem_range.1 hn)]
theorem bcl_set (s : Bs) (n : Nat) (b : Bool) : (bcl s).setIfInBounds n (.bool b) = bcl (put1 s n b) := by
  apply Array.ext_getElem?
  intro k
  rw [Array.getElem?_setIfInBounds]
  by_cases hk : k < 256
  · rw [bcl_get hk, bcl_get hk]
    unfold put1
    by_cases e : n = k
    · subst e; rw [if_pos rfl, if_pos (by rw [bcl_size]; exact hk), if_pos rfl]
    · rw [if_neg e, if_neg (fun h => e h.symm)]
  · rw [Array.getElem?_eq_none (by rw [bcl_size]; omega), Array.getElem?_eq_none (by rw [bcl_size]; omega)]
    split
    · rw [if_neg (by rw [bcl_size]; omega)]
    · rfl
theorem bcl_zero : (Array.replicate 256 (Value.bool false)) = bcl (fun _ => false) := by
  apply Array.ext_getElem?
  intro k
  by_cases hk : k < 256
  · rw [bcl_get hk, Array.getElem?_replicate, if_pos hk]
  · rw [Array.getElem?_eq_none (by simp; omega), Array.getElem?_eq_none (by rw [bcl_size]; omega)]
theorem bcl_one (s : Bs) : (bcl s).all (·.oneCell') = true := by
  rw [Array.all_eq_true]
  intro i hi
  have h2 : i < 256 := by rw [bcl_size] at hi; exact hi
  have := bcl_get (s := s) h2
  rw [Array.getElem?_eq_getElem hi] at this
  injection this with this
  rw [this]; rfl
/-- Byte k of a text. -/
def byteC (d : List UInt8) (k : Nat) : Nat := (d[k]?.getD 0).toNat
theorem byteC_lt (d : List UInt8) (k : Nat) : byteC d k < 256 := UInt8.toNat_lt _
theorem byteC_get (s : List UInt8) (k : Nat) (h : k < s.length) : ((⟨s.toArray⟩ : ByteArray)[k]'(show k < s.toArray.size by simpa using h)).toNat = byteC s k := by
  unfold byteC
  rw [List.getElem?_eq_getElem h]; rfl
/-- A container's value. -/
def contV (f : Int) (d : List UInt8) : Value := .agg #[.int .i64 f, .string ⟨d.toArray⟩]
theorem info_b256 : (Tryd.prog.info? 94).map (fun i => (i.zero, i.size)) = some (some (.agg (Array.replicate 256 (.bool false))), 256) := by kernel_rfl
theorem zero_b256 (w : World) : (zeroValue 94).run Tryd.prog w = .ok (.agg (bcl fun _ => false)) w := by rw [← bcl_zero]; exact (zero_of_info info_b256).1 w
theorem size_b256 : (Tryd.prog.info? 94).map (·.size) = some 256 := (zero_of_info info_b256).2
/-- A whole set out of its block. -/
theorem load_set {w : World} {g : Nat} {s : Bs} (h : Blk w g 94 (bcl s)) : (Instr.loadAt 94 (.pointer (some ⟨g, 0, none⟩))).run Tryd.prog w = .ok (.agg (bcl s)) w := by
  have := run_loadAt_mid (P := Tryd.prog) w g 0 94 (bcl s).toList _ (fun j v hv => by rw [Nat.zero_add, h.cell j]; simpa using hv) Tryd.underlying94 rfl (by rw [size_b256]; simp [bcl_size])
  simpa using this
theorem load_var {w : World} {g : Nat} {s : Bs} (h : Blk w g 94 (bcl s)) : (loadVar 94 ⟨g, 0, none⟩).run Tryd.prog w = .ok (.agg (bcl s)) w := by
  have := run_loadVar_mid (P := Tryd.prog) w g 0 94 (bcl s).toList _ (fun j v hv => by rw [Nat.zero_add, h.cell j]; simpa using hv) Tryd.underlying94 rfl (by rw [size_b256]; simp [bcl_size])
  simpa using this
/-- A whole set into its block. -/
theorem store_set {w : World} {g : Nat} {s : Bs} (h : Blk w g 94 (bcl s)) (t : Bs) : (Instr.storeAt 94 (.pointer (some ⟨g, 0, none⟩)) (.agg (bcl t))).run Tryd.prog w = .ok () (w.setRow g (bcl t)) := by
  simp only [Instr.storeAt, Instr.sureAddr, Sem.run_bind, Sem.run_pure, Result.andThen]
  exact run_storeVar_row w g _ 94 (bcl s) (bcl t) h (by rw [bcl_size]; exact size_b256) (by rw [bcl_size, bcl_size]) (bcl_one t)
theorem store_cells {w : World} {g : Nat} {s : Bs} (h : Blk w g 94 (bcl s)) (t : Bs) : (storeCells ⟨g, 0, none⟩ (bcl t).toList).run Tryd.prog w = .ok () (w.setRow g (bcl t)) := by
  have := run_storeCells_from (P := Tryd.prog) g 94 (bcl t).toList 0 (bcl s) w h (by simp [bcl_size]) (fun v hv => (Array.all_eq_true_iff_forall_mem.1 (bcl_one t)) v (by simpa using hv))
  simpa using this
theorem Blk.setRow {w : World} {g : Nat} {t : TypeId} {cs : Array Value} (h : Blk w g t cs) (cs' : Array Value) : Blk (w.setRow g cs') g t cs' := by
  unfold Blk at h ⊢
  simp [World.setRow, Array.getElem?_modify, h]
theorem Blk.farRow {w : World} {g g' : Nat} {t : TypeId} {cs : Array Value} (h : Blk w g t cs) (cs' : Array Value) (hne : g ≠ g') : Blk (w.setRow g' cs') g t cs := by
  unfold Blk at h ⊢
  simp [World.setRow, Array.getElem?_modify, h, Ne.symm hne]
theorem below_setRow {B : Nat} {a w : World} (h : Below B a w) {g : Nat} (hg : B ≤ g) (cs : Array Value) : Below B a (w.setRow g cs) :=
  ⟨h.os, h.tape, h.output, by simpa [World.setRow] using h.size, fun k hk => by
    have := h.block k hk
    simp [World.setRow, Array.getElem?_modify, show ¬ g = k by omega, this]⟩
theorem wp_load_set {op : Oper} {a : Act} {w : World} {K : Act → World → Prop} {Q : Exit → Act → World → Prop} (x : Operand) (ho : op.op = .load 94 x) (g : Nat) (hx : a.eval x = .pointer (some ⟨g, 0, none⟩)) (s : Bs)
    (hb : Blk w g 94 (bcl s)) (h : K (a.put op.dst (.agg (bcl s))) w) : op.wp Tryd.prog a w K Q := by
  unfold Oper.wp execOp
  simp only [ho, hx, Sem.run_bind, Sem.run_pure, Result.andThen_ok, load_set hb]
  exact h
theorem wp_store_set {op : Oper} {a : Act} {w : World} {K : Act → World → Prop} {Q : Exit → Act → World → Prop} (x y : Operand) (ho : op.op = .store 94 x y) (g : Nat) (hx : a.eval x = .pointer (some ⟨g, 0, none⟩)) (s t : Bs) (hy : a.eval y = .agg (bcl t))
    (hb : Blk w g 94 (bcl s)) (h : K (a.put op.dst undef) (w.setRow g (bcl t))) : op.wp Tryd.prog a w K Q := by
  unfold Oper.wp execOp
  simp only [ho, hx, hy, Sem.run_bind, Sem.run_pure, Result.andThen_ok, store_set hb t]
  exact h
end Go.Proofs.YtbfchlfagdhglaaDoor
/- Slices of numbers. -/
namespace Go.Proofs.YtbfchlfagdhglaaDoor
open Go.RowKit

/-- The slice value sv holds the numbers zs, in a block below n₀; or there are none. -/
def Ints (n₀ : Nat) (W : World) (sv : Value) (zs : List Int) : Prop :=
  ((∃ x cap, sv = .slice x 0 cap) ∧ zs = []) ∨ ∃ b off cap, sv = .slice (some ⟨b, off, none⟩) zs.length cap ∧ b < n₀ ∧ ∀ j, j < zs.length → W.cell? ⟨b, off + j, none⟩ = some (.int .i64 (zs[j]?.getD 0))
theorem Ints.below {n₀ : Nat} {A B : World} (h : Below n₀ A B) {sv : Value} {zs : List Int} : Ints n₀ A sv zs → Ints n₀ B sv zs
  | .inl e => .inl e
  | .inr ⟨b, off, cap, e, hb, hc⟩ => .inr ⟨b, off, cap, e, hb, fun j hj => (h.cell (p := ⟨b, off + j, none⟩) hb).trans (hc j hj)⟩
theorem Ints.more {n₀ n₁ : Nat} {A : World} (h : n₀ ≤ n₁) {sv : Value} {zs : List Int} : Ints n₀ A sv zs → Ints n₁ A sv zs
  | .inl e => .inl e
  | .inr ⟨b, off, cap, e, hb, hc⟩ => .inr ⟨b, off, cap, e, Nat.lt_of_lt_of_le hb h, hc⟩
/-- Each is a number of 64 bits. -/
def In64 (zs : List Int) : Prop := ∀ j : Nat, -9223372036854775808 ≤ zs[j]?.getD 0 ∧ zs[j]?.getD 0 ≤ 9223372036854775807
/-- The cell of number j, where there is one. -/
theorem Ints.at_ {n₀ : Nat} {W : World} {x : Option Addr} {len cap : Nat} {zs : List Int} (h : Ints n₀ W (.slice x len cap) zs) {j : Nat} (hj : j < len) : ∃ b off, x = some ⟨b, off, none⟩ ∧ b < n₀ ∧ W.cell? ⟨b, off + j, none⟩ = some (.int .i64 (zs[j]?.getD 0)) := by
  rcases h with ⟨⟨x', cap', e⟩, _⟩ | ⟨b, off, cap', e, hb, hc⟩
  · cases e; omega
  · cases e
    exact ⟨b, off, rfl, hb, hc j hj⟩

end Go.Proofs.YtbfchlfagdhglaaDoor
/- What is answered, and what lies in memory: numbers, containers (no function of the program). -/
namespace Go.Proofs.YtbfchlfagdhglaaDoor
open Go.RowKit

theorem none_or (t : Bs) : (fun n => (fun _ => false : Bs) n || t n) = t := by funext n; exact Bool.false_or _
theorem ofL_take (zs : List Int) (k : Nat) (h : k < zs.length) (z : Nat) (hz : zs[k]?.getD 0 = z) (s : Bs) : put1 (fun n => s n || ofL (zs.take k) n) z true = fun n => s n || ofL (zs.take (k + 1)) n := by
  funext n
  unfold put1 ofL
  have e : zs[k]? = some (z : Int) := by
    rw [List.getElem?_eq_getElem h] at hz ⊢
    simpa using hz
  rw [List.take_add_one, e, List.any_append]
  by_cases h : n = z
  · subst h; simp
  · rw [if_neg h]
    have : ((z : Int) == (n : Int)) = false := by rw [beq_eq_false_iff_ne]; omega
    simp [this]
/-- What Make answers. -/
def makeV (zs : List Int) : Value := if ∀ z ∈ zs, goodZ z = true then .tuple #[contV (bestF (ofL zs) : Nat) (bestD (ofL zs)), .int .i64 0] else .tuple #[contV 0 [], .int .i64 60]
def noV : Value := .tuple #[.agg #[.int .i64 0, .string ⟨#[]⟩], .int .i64 60]
def AllGood (zs : List Int) : Prop := ∀ z ∈ zs, goodZ z = true
theorem make_good {zs : List Int} (h : AllGood zs) : makeV zs = .tuple #[.agg #[.int .i64 (bestF (ofL zs) : Nat), .string ⟨(bestD (ofL zs)).toArray⟩], .int .i64 0] := by
  unfold AllGood at h
  unfold makeV
  rw [if_pos h]; rfl
theorem make_bad {zs : List Int} (h : ¬ AllGood zs) : makeV zs = .tuple #[.agg #[.int .i64 0, .string ⟨#[]⟩], .int .i64 60] := by
  unfold AllGood at h
  unfold makeV
  rw [if_neg h]; rfl
def intVs (l : List Nat) : List Value := l.map fun (n : Nat) => Value.int .i64 (n : Int)
theorem intVs_length (l : List Nat) : (intVs l).length = l.length := by simp [intVs]
theorem info_int : (Tryd.prog.info? 3).map (fun i => (i.zero, i.size, i.bytes)) = some (some (.int .i64 0), 1, 8) := by kernel_rfl
def zsOf (l : List Nat) : List Int := l.map fun (n : Nat) => (n : Int)
theorem zsOf_length (l : List Nat) : (zsOf l).length = l.length := by simp [zsOf]
theorem zsOf_get (l : List Nat) (j : Nat) : (zsOf l)[j]?.getD 0 = (l.getD j 0 : Nat) := by
  unfold zsOf
  rw [List.getD_eq_getElem?_getD, List.getElem?_map]
  cases l[j]? <;> rfl
theorem valsTo_yes {s : Bs} {k : Nat} (h : s k = true) : intVs (valsTo s (k + 1)) = intVs (valsTo s k) ++ [Value.int .i64 (k : Nat)] ∧ (valsTo s (k + 1)).length = (valsTo s k).length + 1 := by
  rw [valsTo_succ, if_pos h]
  exact ⟨by simp [intVs], by simp⟩
theorem valsTo_no {s : Bs} {k : Nat} (h : s k = false) : valsTo s (k + 1) = valsTo s k := by
  rw [valsTo_succ, if_neg (by rw [h]; decide)]
/-- A row of numbers that is owned is a list of numbers. -/
theorem row_zs {w : World} {base : Nat} {x : Option Addr} {n cap : Nat} {l : List Nat} (hn : l.length = n) (h : w.ownsRow base 3 1 (.slice x n cap) n (intVs l)) : Ints w.heap.size w (.slice x n cap) (zsOf l) := by
  rcases h.2 with ⟨e, h0⟩ | ⟨g, c2, cur, e, _, hg, _⟩
  · subst h0
    exact .inl ⟨⟨x, cap, rfl⟩, List.eq_nil_of_length_eq_zero (by rw [zsOf_length]; exact hn)⟩
  · cases e
    refine .inr ⟨g, 0, cap, by rw [zsOf_length, hn], (Array.getElem?_eq_some_iff.1 hg).1, fun j hj => ?_⟩
    rw [zsOf_length, hn] at hj
    have := h.cells (g := g) rfl j (.int .i64 (l.getD j 0 : Nat)) (by
      have hl : j < l.length := by omega
      unfold intVs
      rw [List.getElem?_map, List.getD_eq_getElem?_getD, List.getElem?_eq_getElem hl]; rfl)
    rw [Nat.zero_add, zsOf_get]
    rwa [show (⟨g, 0, none⟩ : Addr).add j = ⟨g, j, none⟩ by unfold Addr.add; split <;> simp_all] at this
theorem row_ints {W : World} {base : Nat} {v : Value} {m : Nat} {l : List Nat} (hl : l.length = m) (h : W.ownsRow base 3 1 v m (intVs l)) : ∃ x c, v = .slice x m c ∧ Ints W.heap.size W (.slice x m c) (zsOf l) := by
  rcases h.2 with ⟨rfl, h0⟩ | ⟨g, c2, cur, rfl, _⟩
  · subst h0
    exact ⟨none, 0, rfl, row_zs hl h⟩
  · exact ⟨_, _, rfl, row_zs hl h⟩
theorem ints_on {A B : World} {v : Value} {zs : List Int} (h : Ints A.heap.size A v zs) (hb : Below A.heap.size A B) : Ints B.heap.size B v zs := (h.below hb).more hb.size
/-- A container's numbers make it again. -/
theorem make_vals (S : Bs) : makeV (zsOf (vals S)) = .tuple #[.agg #[.int .i64 (bestF S : Nat), .string ⟨(bestD S).toArray⟩], .int .i64 0] := by
  have hg : AllGood (zsOf (vals S)) := by
    intro z hz
    obtain ⟨m, hm, rfl⟩ := List.mem_map.1 hz
    have := (mem_valsTo.1 hm).1
    unfold goodZ; simp; omega
  have hs : Same (ofL (zsOf (vals S))) S := ofL_vals S
  rw [make_good hg, bestF_congr hs, bestD_congr hs]
theorem in64_zsOf {l : List Nat} (h : ∀ n ∈ l, n < 256) : In64 (zsOf l) := by
  intro j
  rw [zsOf_get]
  rw [List.getD_eq_getElem?_getD]
  cases hj : l[j]? with
  | none => simp
  | some x =>
    have := h x (List.mem_of_getElem? hj)
    simp; omega
theorem vals_small (S : Bs) : ∀ n ∈ vals S, n < 256 := fun _ h => (mem_valsTo.1 h).1
theorem setRow_new (w : World) (t : TypeId) (a b : Array Value) : (w.alloc (.cells a t)).setRow w.heap.size b = w.alloc (.cells b t) := by
  unfold World.setRow
  cases w with
  | mk heap tape drawn os output =>
    simp only [World.alloc, World.mk.injEq, and_true]
    apply Array.ext_getElem?
    intro k
    rw [Array.getElem?_modify, Array.getElem?_push, Array.getElem?_push]
    by_cases e : heap.size = k
    · subst e; simp
    · rw [if_neg e, if_neg (fun h => e h.symm), if_neg (fun h => e h.symm)]
end Go.Proofs.YtbfchlfagdhglaaDoor
/- Results that lie in a cell: containers, sets. -/
namespace Go.Proofs.YtbfchlfagdhglaaDoor
open Go.RowKit

theorem results_cell {fn : Func} {t : Tmp} {ty : TypeId} (h : fn.results = #[.cell t ty]) {tmps : Array Value} {w : World} {g : Nat} {v : Value} (hp : tmps.getD t undef = .pointer (some ⟨g, 0, none⟩)) (hv : (loadVar ty ⟨g, 0, none⟩).run Tryd.prog w = .ok v w) :
    (results fn tmps).run Tryd.prog w = .ok v w := by
  rw [Array.getD_eq_getD_getElem?] at hp
  simp [results, h, hp, asAddr, hv]
theorem results_cell2 {fn : Func} {t u : Tmp} {ty : TypeId} (h : fn.results = #[.cell t ty, .tmp u]) {tmps : Array Value} {w : World} {g : Nat} {v : Value} (hp : tmps.getD t undef = .pointer (some ⟨g, 0, none⟩)) (hv : (loadVar ty ⟨g, 0, none⟩).run Tryd.prog w = .ok v w) :
    (results fn tmps).run Tryd.prog w = .ok (.tuple #[v, tmps.getD u undef]) w := by
  rw [Array.getD_eq_getD_getElem?] at hp
  simp [results, h, hp, asAddr, hv, Result.andThen]
theorem info_cont : (Tryd.prog.info? 46).map (fun i => (i.zero, i.size)) = some (some (.agg #[.int .i64 0, .string ⟨#[]⟩]), 2) := by kernel_rfl
theorem size_cont : (Tryd.prog.info? 46).map (·.size) = some 2 := (zero_of_info info_cont).2
theorem load_cont {w : World} {g : Nat} {x y : Value} (h : Blk w g 46 #[x, y]) : (loadVar 46 ⟨g, 0, none⟩).run Tryd.prog w = .ok (.agg #[x, y]) w := by
  have := run_loadVar_mid (P := Tryd.prog) w g 0 46 [x, y] _ (fun j v hv => by rw [Nat.zero_add, h.cell j]; simpa using hv) Tryd.underlying46 rfl (by rw [size_cont]; simp)
  simpa using this
section
variable {fn : Func} {t u : Tmp} {Q : Ending → World → Prop} {a : Act} {w : World} {g : Nat}
/-- The return of a container. -/
theorem ret_cont {x y : Value} (h : fn.results = #[.cell t 46]) (hp : a.tmps.getD t undef = .pointer (some ⟨g, 0, none⟩)) (hb : Blk w g 46 #[x, y]) (hd : a.defers = []) (hQ : Q (.returned (.agg #[x, y])) w) : bodyPost Tryd.prog fn Q .ret a w :=
  bodyPost_ret (results_cell h hp (load_cont hb)) hd hQ
theorem ret_cont2 {x y : Value} (h : fn.results = #[.cell t 46, .tmp u]) (hp : a.tmps.getD t undef = .pointer (some ⟨g, 0, none⟩)) (hb : Blk w g 46 #[x, y]) (hd : a.defers = []) (hQ : Q (.returned (.tuple #[.agg #[x, y], a.tmps.getD u undef])) w) : bodyPost Tryd.prog fn Q .ret a w :=
  bodyPost_ret (results_cell2 h hp (load_cont hb)) hd hQ
theorem ret_256 {s : Bs} (h : fn.results = #[.cell t 94]) (hp : a.tmps.getD t undef = .pointer (some ⟨g, 0, none⟩)) (hb : Blk w g 94 (bcl s)) (hd : a.defers = []) (hQ : Q (.returned (.agg (bcl s))) w) : bodyPost Tryd.prog fn Q .ret a w :=
  bodyPost_ret (results_cell h hp (load_var hb)) hd hQ
end
/-- Two cells stored one by one. -/
theorem Blk.set2 {w : World} {g : Nat} {ty : TypeId} {a b : Value} (h : Blk w g ty #[a, b]) (x y : Value) : Blk ((w.setCell ⟨g, 0, none⟩ x).setCell ⟨g, 1, none⟩ y) g ty #[x, y] := (h.set_ 0 x).set_ 1 y
end Go.Proofs.YtbfchlfagdhglaaDoor
