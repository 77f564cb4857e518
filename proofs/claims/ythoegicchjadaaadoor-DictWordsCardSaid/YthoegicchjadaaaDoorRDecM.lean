/- What is told of a dictionary, case by case. -/
import Derived.Test.YthoegicchjadaaaDoorRWord
namespace Go.Proofs.YthoegicchjadaaaDoor
open Go.RowKit

/-- What Decode of the document answers is what the program's does. -/
theorem DecPost.bad {s : List UInt8} {w w' : World} {c : Int} (h : dcode s = c) (h0 : c ≠ 0) (hb : Below w.heap.size w w') : DecPost s w (.returned (.tuple #[.slice none 0 0, .string ⟨s.toArray⟩, .int .i64 c])) w' := by
  subst h
  have h1 : drest s = s := by unfold drest; rw [if_neg h0]
  have h2 : dlist s = [] := by unfold dlist; rw [if_neg h0]
  refine ⟨hb, _, by rw [h1], ?_⟩
  rw [h2]
  exact Lst.none
theorem dcode_1 {s : List UInt8} (h : vcode s ≠ 0) : dcode s = vcode s := by unfold dcode; rw [if_pos h]
theorem dcode_2 {s : List UInt8} (h : vcode s = 0) (h2 : 1000 < vnum s) : dcode s = 50 := by unfold dcode; rw [if_neg (by simp [h]), if_pos h2]
theorem dcode_3 {s : List UInt8} (h : vcode s = 0) (h2 : ¬ 1000 < vnum s) (h3 : rcodes (vnum s) [] (vrest s) ≠ 0) : dcode s = rcodes (vnum s) [] (vrest s) := by unfold dcode; rw [if_neg (by simp [h]), if_neg h2, if_pos h3]
theorem dcode_4 {s : List UInt8} (h : vcode s = 0) (h2 : ¬ 1000 < vnum s) (h3 : rcodes (vnum s) [] (vrest s) = 0) : dcode s = if dok s then 0 else 50 := by unfold dcode; rw [if_neg (by simp [h]), if_neg h2, if_neg (by simp [h3])]
theorem rcodes_bad {n : Nat} {last s : List UInt8} (h : wc last s ≠ 0) : rcodes (n + 1) last s = wc last s := by rw [rcodes, if_neg h]
theorem rcodes_ok {n : Nat} {last s : List UInt8} (h : wc last s = 0) : rcodes (n + 1) last s = rcodes n (ww last s) (wrr s) := by rw [rcodes, if_pos h]
theorem rlist_ok {n : Nat} {last s : List UInt8} (h : wc last s = 0) : rlist (n + 1) last s = ww last s :: rlist n (ww last s) (wrr s) := by rw [rlist, if_pos h]
theorem rrests_go {n : Nat} {last s : List UInt8} (h : wc last s = 0) : rrests (n + 1) last s = rrests n (ww last s) (wrr s) := by rw [rrests, if_pos h]
end Go.Proofs.YthoegicchjadaaaDoor
