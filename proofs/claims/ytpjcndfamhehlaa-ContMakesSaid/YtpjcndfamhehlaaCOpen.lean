/- A container as a law's argument: a pair of a number and a string. -/
import Derived.Test.YtpjcndfamhehlaaCRow
import Derived.Deep.Onto
namespace Go.Proofs.Ytpjcndfamhehlaa
open Go.ChangeShapes Go.WideShapes Go.ChangeAt Go.RowKit Go.Joins
open Go.ChangeMaps (open_string shut_string)

theorem cellsC : Try.prog.cellsOf 23 = 2 := by kernel_rfl
section
variable {H : Type} {enc : TypeId × Value → H} {w : World} {base : Nat} {spare : Nat → Bool} {held : Bool}
theorem open_cont {r : Reach} {b0 : Nat} {v : Value} {d : DataW H} {p : List MemPlace} (hv : Value.okWide Try.prog w r b0 23 v) (h : DataW.Trod enc Try.prog w base spare held 23 v d p) :
    ∃ (f : Int) (e : List UInt8), -9223372036854775808 ≤ f ∧ f ≤ 9223372036854775807 ∧ e.length ≤ 9223372036854775807 ∧ v = .agg #[.int .i64 f, .string ⟨e.toArray⟩] ∧ p = [] ∧
      ∀ (w' : World) (base' : Nat) (sp : Nat → Bool) (hd : Bool), DataW.Trod enc Try.prog w' base' sp hd 23 (.agg #[.int .i64 f, .string ⟨e.toArray⟩]) d [] := by
  obtain ⟨c0, c1, y0, y1, m, rfl, rfl, rfl, hy0, hy1⟩ := open_agg2 Try.underlying23 (by kernel_rfl) cellsC hv h
  obtain ⟨f, e0, rfl, wa⟩ := DataW.trod_int Try.underlying3 hy0
  obtain ⟨s, e1, rfl, hs⟩ := DataW.trod_string Try.underlying9 hy1
  simp at e0 e1
  subst e0 e1
  have e : (⟨s.data.toList.toArray⟩ : ByteArray) = s := by cases s; simp
  have hl : s.data.toList.length ≤ 9223372036854775807 := by
    unfold maxLen at hs
    rw [Array.length_toList]
    exact hs
  refine ⟨f, s.data.toList, (i64_of_wf wa).1, (i64_of_wf wa).2, hl, by rw [e], rfl, fun w' base' sp hd => ?_⟩
  rw [e]
  exact shut_agg2 (y0 := (.lit (.int .i64 f), [])) (y1 := (.lit (.string s.data.toList), [])) Try.underlying23 (by kernel_rfl) cellsC ⟨1, by simp [DataW.trod, Try.underlying3, wa]⟩ ⟨1, by simp [DataW.trod, Try.underlying9, hs]⟩
end
end Go.Proofs.Ytpjcndfamhehlaa
