/- What the laws of this layer lean on: what the calls answer, one behind the other. -/
import Derived.Test.YtpjcndfamhehlaaCRow
namespace Go.Proofs.Ytpjcndfamhehlaa
open Go.RowKit

/-- Three containers' cells, held over a region. -/
theorem hold6 {w a b : World} {g1 g2 g3 : Nat} {x1 y1 x2 y2 x3 y3 : Value}
    (hS : a.cell? ⟨g1, 0, none⟩ = some x1 ∧ a.cell? ⟨g1, 1, none⟩ = some y1 ∧ a.cell? ⟨g2, 0, none⟩ = some x2 ∧ a.cell? ⟨g2, 1, none⟩ = some y2 ∧ a.cell? ⟨g3, 0, none⟩ = some x3 ∧ a.cell? ⟨g3, 1, none⟩ = some y3 ∧ g1 < a.heap.size ∧ g2 < a.heap.size ∧ g3 < a.heap.size ∧ Below w.heap.size w a)
    (hb : Below a.heap.size a b) :
    b.cell? ⟨g1, 0, none⟩ = some x1 ∧ b.cell? ⟨g1, 1, none⟩ = some y1 ∧ b.cell? ⟨g2, 0, none⟩ = some x2 ∧ b.cell? ⟨g2, 1, none⟩ = some y2 ∧ b.cell? ⟨g3, 0, none⟩ = some x3 ∧ b.cell? ⟨g3, 1, none⟩ = some y3 ∧ g1 < b.heap.size ∧ g2 < b.heap.size ∧ g3 < b.heap.size ∧ Below w.heap.size w b := by
  obtain ⟨h1, h2, h3, h4, h5, h6, k1, k2, k3, hB⟩ := hS
  exact ⟨cell_below _ hb k1 h1, cell_below _ hb k1 h2, cell_below _ hb k2 h3, cell_below _ hb k2 h4, cell_below _ hb k3 h5, cell_below _ hb k3 h6, Nat.lt_of_lt_of_le k1 hb.size, Nat.lt_of_lt_of_le k2 hb.size, Nat.lt_of_lt_of_le k3 hb.size, hB.trans (hb.mono hB.size)⟩
theorem hold6_end {w a : World} {g1 g2 g3 : Nat} {x1 y1 x2 y2 x3 y3 : Value}
    (hS : a.cell? ⟨g1, 0, none⟩ = some x1 ∧ a.cell? ⟨g1, 1, none⟩ = some y1 ∧ a.cell? ⟨g2, 0, none⟩ = some x2 ∧ a.cell? ⟨g2, 1, none⟩ = some y2 ∧ a.cell? ⟨g3, 0, none⟩ = some x3 ∧ a.cell? ⟨g3, 1, none⟩ = some y3 ∧ g1 < a.heap.size ∧ g2 < a.heap.size ∧ g3 < a.heap.size ∧ Below w.heap.size w a) : Below w.heap.size w a := hS.2.2.2.2.2.2.2.2.2
-- Hold6
def cv (f : Int) (d : List UInt8) : Value := .agg #[.int .i64 f, .string ⟨d.toArray⟩]
def noV : Value := .tuple #[.agg #[.int .i64 0, .string ⟨#[]⟩], .int .i64 60]
def AllGood (zs : List Int) : Prop := ∀ z ∈ zs, goodZ z = true
theorem make_good {zs : List Int} (h : AllGood zs) : makeV zs = .tuple #[.agg #[.int .i64 (bestF (ofL zs) : Nat), .string ⟨(bestD (ofL zs)).toArray⟩], .int .i64 0] := by
  unfold AllGood at h
  unfold makeV
  rw [if_pos h]; rfl
theorem make_bad {zs : List Int} (h : ¬ AllGood zs) : makeV zs = .tuple #[.agg #[.int .i64 0, .string ⟨#[]⟩], .int .i64 60] := by
  unfold AllGood at h
  unfold makeV
  rw [if_neg h]; rfl
/-- Form and bytes as they can come. -/
def OkC (f : Int) (d : List UInt8) : Prop := -9223372036854775808 ≤ f ∧ f ≤ 9223372036854775807 ∧ d.length ≤ 9223372036854775807
theorem okC_best (S : Bs) : OkC (bestF S : Nat) (bestD S) := by
  have h1 := bestF_form S; have h2 := best_32 S
  unfold OkC; omega
theorem count_all_any (f : Int) (d : List UInt8) (h : OkC f d) (W : World) : Calls Try.prog 23 #[.agg #[.int .i64 f, .string ⟨d.toArray⟩]] W fun e w' => e = .returned (.int .i64 ((vals (readS f d)).length : Nat)) ∧ Below W.heap.size W w' := countC_any f h.1 h.2.1 d h.2.2 W
theorem has_all_any (f : Int) (d : List UInt8) (h : OkC f d) (n : Int) (hn1 : -9223372036854775808 ≤ n) (hn2 : n ≤ 9223372036854775807) (W : World) : Calls Try.prog 24 #[.agg #[.int .i64 f, .string ⟨d.toArray⟩], .int .i64 n] W fun e w' => e = .returned (.bool (goodZ n && readS f d n.toNat)) ∧ Below W.heap.size W w' := has_any f h.1 h.2.1 d h.2.2 n hn1 hn2 W
theorem right_all_any (f : Int) (d : List UInt8) (h : OkC f d) (W : World) : Calls Try.prog 19 #[.agg #[.int .i64 f, .string ⟨d.toArray⟩]] W fun e w' => e = .returned (.bool (decide (RightC f d))) ∧ Below W.heap.size W w' := right_any f h.1 h.2.1 d h.2.2 W
theorem op_all_any (op f : Int) (d : List UInt8) (h : OkC f d) (g : Int) (e : List UInt8) (k : OkC g e) (W : World) : Calls Try.prog 26 #[.int .i64 op, .agg #[.int .i64 f, .string ⟨d.toArray⟩], .agg #[.int .i64 g, .string ⟨e.toArray⟩]] W fun en w' => en = .returned (opCV op f d g e) ∧ Below W.heap.size W w' := opC_any f h.1 h.2.1 d h.2.2 g k.1 k.2.1 e k.2.2 W op
def okR (a b : Int) : Prop := 0 ≤ a ∧ a ≤ 256 ∧ 0 ≤ b ∧ b ≤ 256
theorem flip_best {S : Bs} {a b : Int} (h : okR a b) : flipV (bestF S : Nat) (bestD S) a b = .tuple #[.agg #[.int .i64 (bestF (flipS S a b) : Nat), .string ⟨(bestD (flipS S a b)).toArray⟩], .int .i64 0] := by
  have hS : Same (flipS (setOf ((bestF S : Nat) : Int).toNat (bestD S)) a b) (flipS S a b) := by
    rw [Int.toNat_natCast]; exact flip_congr (best_set S) a b
  unfold flipV
  rw [if_pos ⟨best_right S, h⟩, bestF_congr hS, bestD_congr hS]; rfl
theorem flip_range {f : Int} {d : List UInt8} {a b : Int} (h : ¬ okR a b) : flipV f d a b = .tuple #[.agg #[.int .i64 0, .string ⟨#[]⟩], .int .i64 60] := by
  unfold flipV
  rw [if_neg (fun k => h k.2)]; rfl
theorem right_none {d : List UInt8} : ¬ RightC 0 d := fun h => absurd h.1 (by decide)
theorem flip_none {d : List UInt8} {a b : Int} : flipV 0 d a b = .tuple #[.agg #[.int .i64 0, .string ⟨#[]⟩], .int .i64 60] := by
  unfold flipV
  rw [if_neg (fun k => right_none k.1)]; rfl
theorem read_best (S : Bs) : Same (readS (bestF S : Nat) (bestD S)) S := by
  unfold readS
  rw [if_pos (best_right S), Int.toNat_natCast]; exact best_set S
theorem read_none {d : List UInt8} : readS 0 d = fun _ => false := by
  unfold readS
  rw [if_neg right_none]
theorem best_bnd (S : Bs) : -9223372036854775808 ≤ ((bestF S : Nat) : Int) ∧ ((bestF S : Nat) : Int) ≤ 9223372036854775807 ∧ (bestD S).length ≤ 9223372036854775807 := by
  have h1 := bestF_form S; have h2 := best_32 S
  omega
theorem op_best {S T : Bs} {op : Nat} (h : okOp op = true) : opCV op (bestF S : Nat) (bestD S) (bestF T : Nat) (bestD T) = .tuple #[.agg #[.int .i64 (bestF (opS op S T) : Nat), .string ⟨(bestD (opS op S T)).toArray⟩], .int .i64 0] := by
  have hS : Same (opS op (setOf ((bestF S : Nat) : Int).toNat (bestD S)) (setOf ((bestF T : Nat) : Int).toNat (bestD T))) (opS op S T) := by
    rw [Int.toNat_natCast, Int.toNat_natCast]; exact op_congr (best_set S) (best_set T) op
  unfold opCV
  rw [if_pos ⟨h, best_right S, best_right T⟩, Int.toNat_natCast, bestF_congr hS, bestD_congr hS]; rfl
end Go.Proofs.Ytpjcndfamhehlaa
