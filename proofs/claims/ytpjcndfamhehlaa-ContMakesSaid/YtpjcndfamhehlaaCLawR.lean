/- What the laws on ranks and places lean on. -/
import Derived.Test.YtpjcndfamhehlaaCLawM
import Derived.Test.YtpjcndfamhehlaaCRank
import Derived.Test.YtpjcndfamhehlaaCSel
namespace Go.Proofs.Ytpjcndfamhehlaa
open Go.RowKit

theorem rank_all_any (f : Int) (d : List UInt8) (h : OkC f d) (n : Int) (W : World) : Calls Try.prog 25 #[.agg #[.int .i64 f, .string ⟨d.toArray⟩], .int .i64 n] W fun e w' => e = .returned (.int .i64 (rankS (readS f d) n : Nat)) ∧ Below W.heap.size W w' := rankC_any f h.1 h.2.1 d h.2.2 n W
theorem select_all_any (f : Int) (d : List UInt8) (h : OkC f d) (p : Int) (W : World) : Calls Try.prog 18 #[.agg #[.int .i64 f, .string ⟨d.toArray⟩], .int .i64 p] W fun e w' => e = .returned (selV (readS f d) p) ∧ Below W.heap.size W w' := select_any f h.1 h.2.1 d h.2.2 p W
theorem okC_zero : OkC 0 [] := ⟨by decide, by decide, by decide⟩
theorem sel_in {s : Bs} {p : Int} (h0 : 0 ≤ p) (h1 : p < (vals s).length) : ∃ n : Nat, n < 256 ∧ s n = true ∧ selV s p = .tuple #[.int .i64 (n : Nat), .bool true] ∧ (rankS s n : Int) = p + 1 ∧ (rankS s ((n : Int) - 1) : Int) = p := by
  obtain ⟨k, rfl⟩ : ∃ k : Nat, p = k := ⟨p.toNat, by omega⟩
  have hk : k < (vals s).length := by omega
  have he : (vals s)[k]? = some (vals s)[k] := List.getElem?_eq_getElem hk
  obtain ⟨g1, g2, g3⟩ := place_rank s he
  refine ⟨(vals s)[k], g1, g2, sel_hit g1 g2 (by rw [g3]), ?_⟩
  have hr : rankS s (((vals s)[k] : Nat) - 1 : Int) = k := by
    unfold rankS
    rw [show min 256 ((((vals s)[k] : Nat) : Int) - 1 + 1).toNat = (vals s)[k] by omega]
    exact g3
  have hs := rank_step s (vals s)[k] g1
  rw [if_pos g2, hr] at hs
  refine ⟨?_, ?_⟩
  · rw [hs]; omega
  · rw [hr]
theorem sel_out {s : Bs} {p : Int} (h : p < 0 ∨ (vals s).length ≤ p) : selV s p = .tuple #[.int .i64 0, .bool false] := sel_miss fun j hj e => by omega
theorem rank_last (s : Bs) : rankS s 255 = (vals s).length := by unfold rankS vals; rfl
theorem rank_first (s : Bs) : rankS s (-1) = 0 := by unfold rankS valsTo; rfl
theorem vals_none : vals (fun _ => false) = [] := by
  unfold vals valsTo
  rw [List.filter_eq_nil_iff]
  intro n _; simp
theorem good_nat {n : Nat} (h : n < 256) : goodZ (n : Int) = true := by unfold goodZ; simp; omega
end Go.Proofs.Ytpjcndfamhehlaa
