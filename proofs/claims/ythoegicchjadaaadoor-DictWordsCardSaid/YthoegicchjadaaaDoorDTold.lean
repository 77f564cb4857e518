/- What the laws are told, each answer a list that lies somewhere. -/
import Derived.Test.YthoegicchjadaaaDoorDFew
import Derived.Test.YthoegicchjadaaaDoorRBuild
import Derived.Test.YthoegicchjadaaaDoorRFind
namespace Go.Proofs.YthoegicchjadaaaDoor
open Go.RowKit

/-- A list of words that lies somewhere: its slice. -/
structure Wrds (W : World) (x : Option Addr) (n cap : Nat) (ls : List (List UInt8)) : Prop where
  len : ls.length = n
  lc : n ≤ cap
  cm : cap ≤ 9223372036854775807
  strs : Strs W.heap.size W (.slice x n cap) ls
theorem Wrds.next {W W' : World} {x : Option Addr} {n cap : Nat} {ls : List (List UInt8)} (h : Wrds W x n cap ls) (hb : Below W.heap.size W W') : Wrds W' x n cap ls := ⟨h.len, h.lc, h.cm, (h.strs.below hb).mono hb.size⟩
theorem wrds_lst {W : World} {v : Value} {ls : List (List UInt8)} (h : Lst W.heap.size W v ls) : ∃ x n cap, v = .slice x n cap ∧ Wrds W x n cap ls := by
  obtain ⟨x, cap, e, h1, h2, h3⟩ := h
  exact ⟨x, ls.length, cap, e, rfl, h1, h2, by rw [← e]; exact h3⟩
def bcode (ls : List (List UInt8)) : Nat := if RightL (uniq ls) then 0 else 50
def blist (ls : List (List UInt8)) : List (List UInt8) := if RightL (uniq ls) then uniq ls else []
theorem right_blist (ls : List (List UInt8)) : RightL (blist ls) := by
  unfold blist
  split
  · assumption
  · exact right_nil
theorem build_told {ls : List (List UInt8)} {w : World} {e : Ending} {w' : World} (h : BuildPost ls w e w') :
    ∃ x n cap, e = .returned (.tuple #[.slice x n cap, .int .i64 (bcode ls : Nat)]) ∧ Wrds w' x n cap (blist ls) ∧ Below w.heap.size w w' := by
  obtain ⟨hb, ⟨hr, v, he, hl⟩ | ⟨hr, he⟩⟩ := h
  · obtain ⟨x, n, cap, rfl, hL⟩ := wrds_lst hl
    refine ⟨x, n, cap, ?_, ?_, hb⟩
    · unfold bcode; rw [if_pos hr]; exact he
    · unfold blist; rw [if_pos hr]; exact hL
  · obtain ⟨x, n, cap, hv, hL⟩ := wrds_lst (Lst.none (n₀ := w'.heap.size) (W := w'))
    refine ⟨x, n, cap, ?_, ?_, hb⟩
    · unfold bcode; rw [if_neg hr, ← hv]; exact he
    · unfold blist; rw [if_neg hr]; exact hL
theorem dec_told {s : List UInt8} {w : World} {e : Ending} {w' : World} (h : DecPost s w e w') :
    ∃ x n cap, e = .returned (.tuple #[.slice x n cap, .string ⟨(drest s).toArray⟩, .int .i64 (dcode s)]) ∧ Wrds w' x n cap (dlist s) ∧ Below w.heap.size w w' := by
  obtain ⟨hb, v, he, hl⟩ := h
  obtain ⟨x, n, cap, rfl, hL⟩ := wrds_lst hl
  exact ⟨x, n, cap, he, hL, hb⟩
theorem few_told (x : Option Addr) (len cap : Nat) (ls : List (List UInt8)) (hls : ∀ j : Nat, (ls[j]?.getD []).length ≤ 9223372036854775807) (w : World) (hI : Wrds w x len cap ls) :
    Calls Tryd.prog 11 #[.slice x len cap, .int .i64 100] w fun e w' => ∃ x n cap, e = .returned (.slice x n cap) ∧ Wrds w' x n cap (fewS ls) ∧ Below w.heap.size w w' := by
  refine (few_any x len cap ls hI.len (by have := hI.lc; have := hI.cm; omega) hls w hI.strs).mono ?_
  rintro e w' ⟨v, rfl, hO, hb⟩
  obtain ⟨x, n, cap, rfl, hL⟩ := wrds_lst (lst_own hO)
  exact ⟨x, n, cap, rfl, hL, hb⟩
theorem few_short (ls : List (List UInt8)) (j : Nat) : ((fewS ls)[j]?.getD []).length ≤ 110 := by
  by_cases hj : j < (fewS ls).length
  · exact fewS_le ls _ (getD_mem hj)
  · rw [List.getElem?_eq_none (by omega)]; simp
theorem uniq_short {ls : List (List UInt8)} (h : ∀ j : Nat, (ls[j]?.getD []).length ≤ 110) (j : Nat) : ((uniq ls)[j]?.getD []).length ≤ 110 := by
  by_cases hj : j < (uniq ls).length
  · obtain ⟨i, _, e⟩ := mem_getD (mem_uniq.1 (getD_mem hj))
    rw [← e]; exact h i
  · rw [List.getElem?_eq_none (by omega)]; simp
theorem blist_short (ls : List (List UInt8)) (j : Nat) : ((blist ls)[j]?.getD []).length ≤ 100 := by
  by_cases hj : j < (blist ls).length
  · exact right_len (right_blist ls) (getD_mem hj)
  · rw [List.getElem?_eq_none (by omega)]; simp
theorem blist_length (ls : List (List UInt8)) : (blist ls).length ≤ ls.length := by
  unfold blist
  split
  · exact uniq_length ls
  · simp
theorem few_length (ls : List (List UInt8)) : (fewS ls).length ≤ 100 := by rw [fewS_length]; omega
theorem dlist_right (s : List UInt8) : RightL (dlist s) := by
  by_cases h : dcode s = 0
  · exact (dec_enc h).1
  · unfold dlist; rw [if_neg h]; exact right_nil
end Go.Proofs.YthoegicchjadaaaDoor
