/- What the laws of this layer lean on: what the calls answer, one behind the other. -/
import Derived.Test.YtpjcndfamhehlaaCRow
namespace Go.Proofs.Ytpjcndfamhehlaa
open Go.RowKit

def cv (f : Int) (d : List UInt8) : Value := .agg #[.int .i64 f, .string ⟨d.toArray⟩]
def noV : Value := .tuple #[.agg #[.int .i64 0, .string ⟨#[]⟩], .int .i64 60]
def AllGood (zs : List Int) : Prop := ∀ z ∈ zs, goodZ z = true
theorem make_good {zs : List Int} (h : AllGood zs) : makeV zs = .tuple #[.agg #[.int .i64 (bestF (ofL zs) : Nat), .string ⟨(bestD (ofL zs)).toArray⟩], .int .i64 0] := by
  unfold AllGood at h
  unfold makeV
  rw [if_pos h]; rfl
theorem make_bad {zs : List Int} (h : ¬ AllGood zs) : makeV zs = .tuple #[.agg #[.int .i64 0, .string ⟨#[]⟩], .int .i64 60] := by
  unfold AllGood at h
  unfold makeV
  rw [if_neg h]; rfl
def okR (a b : Int) : Prop := 0 ≤ a ∧ a ≤ 256 ∧ 0 ≤ b ∧ b ≤ 256
theorem flip_best {S : Bs} {a b : Int} (h : okR a b) : flipV (bestF S : Nat) (bestD S) a b = .tuple #[.agg #[.int .i64 (bestF (flipS S a b) : Nat), .string ⟨(bestD (flipS S a b)).toArray⟩], .int .i64 0] := by
  have hS : Same (flipS (setOf ((bestF S : Nat) : Int).toNat (bestD S)) a b) (flipS S a b) := by
    rw [Int.toNat_natCast]; exact flip_congr (best_set S) a b
  unfold flipV
  rw [if_pos ⟨best_right S, h⟩, bestF_congr hS, bestD_congr hS]; rfl
theorem flip_range {f : Int} {d : List UInt8} {a b : Int} (h : ¬ okR a b) : flipV f d a b = .tuple #[.agg #[.int .i64 0, .string ⟨#[]⟩], .int .i64 60] := by
  unfold flipV
  rw [if_neg (fun k => h k.2)]; rfl
theorem right_none {d : List UInt8} : ¬ RightC 0 d := fun h => absurd h.1 (by decide)
theorem flip_none {d : List UInt8} {a b : Int} : flipV 0 d a b = .tuple #[.agg #[.int .i64 0, .string ⟨#[]⟩], .int .i64 60] := by
  unfold flipV
  rw [if_neg (fun k => right_none k.1)]; rfl
theorem read_best (S : Bs) : Same (readS (bestF S : Nat) (bestD S)) S := by
  unfold readS
  rw [if_pos (best_right S), Int.toNat_natCast]; exact best_set S
theorem read_none {d : List UInt8} : readS 0 d = fun _ => false := by
  unfold readS
  rw [if_neg right_none]
theorem best_bnd (S : Bs) : -9223372036854775808 ≤ ((bestF S : Nat) : Int) ∧ ((bestF S : Nat) : Int) ≤ 9223372036854775807 ∧ (bestD S).length ≤ 9223372036854775807 := by
  have h1 := bestF_form S; have h2 := best_32 S
  omega
theorem op_best {S T : Bs} {op : Nat} (h : okOp op = true) : opCV op (bestF S : Nat) (bestD S) (bestF T : Nat) (bestD T) = .tuple #[.agg #[.int .i64 (bestF (opS op S T) : Nat), .string ⟨(bestD (opS op S T)).toArray⟩], .int .i64 0] := by
  have hS : Same (opS op (setOf ((bestF S : Nat) : Int).toNat (bestD S)) (setOf ((bestF T : Nat) : Int).toNat (bestD T))) (opS op S T) := by
    rw [Int.toNat_natCast, Int.toNat_natCast]; exact op_congr (best_set S) (best_set T) op
  unfold opCV
  rw [if_pos ⟨h, best_right S, best_right T⟩, Int.toNat_natCast, bestF_congr hS, bestD_congr hS]; rfl
end Go.Proofs.Ytpjcndfamhehlaa
