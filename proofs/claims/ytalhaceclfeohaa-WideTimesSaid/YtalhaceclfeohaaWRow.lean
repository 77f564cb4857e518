/- What the rows of this layer's laws share: what an argument reads as. -/
import Derived.Test.YtalhaceclfeohaaRows
import Derived.Test.YtalhaceclfeohaaWMath
import Derived.Test.YtalhaceclfeohaaWKit
import Derived.ProofKit
import Derived.OpenShut
import Derived.Lib.SmallJoins
namespace Go.Proofs.Ytalhaceclfeohaa
open Go.ChangeShapes Go.WideShapes Go.ChangeAt Go.RowKit Go.Joins

theorem own : ownKnob Try.prog.godebug = none := by kernel_rfl
theorem cellsW : Try.prog.cellsOf 24 = 2 := by kernel_rfl
theorem i64_of_wf {n : Int} (h : (Lit.int .i64 n).wf = true) : -9223372036854775808 ≤ n ∧ n ≤ 9223372036854775807 := by
  simp only [Lit.wf, Bool.and_eq_true, decide_eq_true_eq] at h; exact h
theorem u64_of_wf {n : Int} (h : (Lit.int .u64 n).wf = true) : 0 ≤ n ∧ n ≤ 18446744073709551615 := by
  simp only [Lit.wf, Bool.and_eq_true, decide_eq_true_eq] at h; exact h

section
variable {H : Type} {enc : TypeId × Value → H} {w : World} {base : Nat} {spare : Nat → Bool} {held : Bool}
/-- A wide number by value: a pair of halves; it reads as two numbers, wherever it is read. -/
theorem open_wide {r : Reach} {b0 : Nat} {v : Value} {d : DataW H} {p : List MemPlace} (hv : Value.okWide Try.prog w r b0 24 v) (h : DataW.Trod enc Try.prog w base spare held 24 v d p) :
    ∃ z : Int, -170141183460469231731687303715884105728 ≤ z ∧ z ≤ 170141183460469231731687303715884105727 ∧ v = (.agg #[.int .i64 (wHi (z)), .int .u64 (wLo (z))]) ∧ p = [] ∧
      ∀ (w' : World) (base' : Nat) (sp : Nat → Bool) (hd : Bool), DataW.Trod enc Try.prog w' base' sp hd 24 (.agg #[.int .i64 (wHi (z)), .int .u64 (wLo (z))]) d [] := by
  obtain ⟨c0, c1, y0, y1, m, rfl, rfl, rfl, hy0, hy1⟩ := open_agg2 Try.underlying24 (by kernel_rfl) cellsW hv h
  obtain ⟨a, e0, rfl, wa⟩ := DataW.trod_int Try.underlying2 hy0
  obtain ⟨b, e1, rfl, wb⟩ := DataW.trod_int Try.underlying22 hy1
  simp at e0 e1
  subst e0 e1
  obtain ⟨z, rfl, rfl, hz1, hz2⟩ := w_of a b (i64_of_wf wa).1 (i64_of_wf wa).2 (u64_of_wf wb).1 (u64_of_wf wb).2
  refine ⟨z, hz1, hz2, rfl, rfl, fun w' base' sp hd => ?_⟩
  exact shut_agg2 (y0 := (.lit (.int .i64 (wHi z)), [])) (y1 := (.lit (.int .u64 (wLo z)), [])) Try.underlying24 (by kernel_rfl) cellsW ⟨1, by simp [DataW.trod, Try.underlying2, wa]⟩ ⟨1, by simp [DataW.trod, Try.underlying22, wb]⟩
end
end Go.Proofs.Ytalhaceclfeohaa
