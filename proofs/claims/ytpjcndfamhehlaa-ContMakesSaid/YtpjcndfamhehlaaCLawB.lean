/- What the law on numbers back leans on. -/
import Derived.Test.YtpjcndfamhehlaaCLawM
import Derived.Test.YtpjcndfamhehlaaCVals
import Derived.Test.YtpjcndfamhehlaaPSame
namespace Go.Proofs.Ytpjcndfamhehlaa
open Go.RowKit

/-- A container of which everything is known. -/
structure OkB (f : Int) (d : List UInt8) (l : List Nat) (n : Int) (b : Bool) : Prop where
  ok : OkC f d
  vs : vals (readS f d) = l
  has : (goodZ n && readS f d n.toNat) = b
  right : RightC f d

theorem row_ints {W : World} {base : Nat} {v : Value} {m : Nat} {l : List Nat} (hl : l.length = m) (h : W.ownsRow base 3 1 v m (intVs l)) : ∃ x c, v = .slice x m c ∧ Ints W.heap.size W (.slice x m c) (zsOf l) := by
  rcases h.2 with ⟨rfl, h0⟩ | ⟨g, c2, cur, rfl, _⟩
  · subst h0
    exact ⟨none, 0, rfl, row_zs hl h⟩
  · exact ⟨_, _, rfl, row_zs hl h⟩
theorem ints_on {A B : World} {v : Value} {zs : List Int} (h : Ints A.heap.size A v zs) (hb : Below A.heap.size A B) : Ints B.heap.size B v zs := (h.below hb).more hb.size
section
variable {f : Int} {d : List UInt8} {l : List Nat} {n : Int} {b : Bool}
theorem vals_b {m : Nat} (hm : l.length = m) (f : Int) (d : List UInt8) (h : OkB f d l n b) (W : World) : Calls Try.prog 22 #[.agg #[.int .i64 f, .string ⟨d.toArray⟩]] W fun e w' => ∃ x c, e = .returned (.slice x m c) ∧ Ints w'.heap.size w' (.slice x m c) (zsOf l) ∧ Below W.heap.size W w' := by
  refine (values_any f h.ok.1 h.ok.2.1 d h.ok.2.2 W).mono ?_
  rintro e w' ⟨v, rfl, ho, hb⟩
  rw [h.vs, hm] at ho
  obtain ⟨x, c, rfl, hI⟩ := row_ints hm ho
  exact ⟨x, c, rfl, hI, hb⟩
theorem count_b {m : Nat} (hm : l.length = m) (f : Int) (d : List UInt8) (h : OkB f d l n b) (W : World) : Calls Try.prog 23 #[.agg #[.int .i64 f, .string ⟨d.toArray⟩]] W fun e w' => e = .returned (.int .i64 (m : Nat)) ∧ Below W.heap.size W w' := by
  have := count_all_any f d h.ok W
  rwa [h.vs, hm] at this
theorem has_b (hn1 : -9223372036854775808 ≤ n) (hn2 : n ≤ 9223372036854775807) (f : Int) (d : List UInt8) (h : OkB f d l n b) (W : World) : Calls Try.prog 24 #[.agg #[.int .i64 f, .string ⟨d.toArray⟩], .int .i64 n] W fun e w' => e = .returned (.bool b) ∧ Below W.heap.size W w' := by
  have := has_all_any f d h.ok n hn1 hn2 W
  rwa [h.has] at this
theorem right_b (f : Int) (d : List UInt8) (h : OkB f d l n b) (W : World) : Calls Try.prog 19 #[.agg #[.int .i64 f, .string ⟨d.toArray⟩]] W fun e w' => e = .returned (.bool true) ∧ Below W.heap.size W w' := by
  have := right_all_any f d h.ok W
  rwa [decide_eq_true h.right] at this
end
theorem okB_best {zt : List Int} {n : Int} (hg : AllGood zt) : OkB (bestF (ofL zt) : Nat) (bestD (ofL zt)) (vals (ofL zt)) n (decide (n ∈ zt)) where
  ok := okC_best _
  vs := vals_congr (read_best _)
  right := best_right _
  has := by
    by_cases hn : goodZ n = true
    · have hn' : 0 ≤ n ∧ n < 256 := by unfold goodZ at hn; simpa using hn
      rw [hn, Bool.true_and, read_best _ _ (by omega), Bool.eq_iff_iff]
      unfold ofL
      rw [List.any_eq_true, decide_eq_true_iff]
      constructor
      · rintro ⟨z, hz, e⟩
        have e2 : z = (n.toNat : Int) := by simpa using e
        rw [Int.toNat_of_nonneg hn'.1] at e2
        rwa [← e2]
      · intro h
        exact ⟨n, h, by simp [Int.toNat_of_nonneg hn'.1]⟩
    · rw [Bool.eq_false_iff.mpr hn, Bool.false_and]
      exact (decide_eq_false fun h => hn (hg n h)).symm
theorem read_right {f : Int} {d : List UInt8} (h : RightC f d) : readS f d = setOf f.toNat d := by
  unfold readS
  rw [if_pos h]
theorem okB_form {f : Int} {d : List UInt8} {l : List Nat} {n : Int} {b : Bool} (h : OkB f d l n b) {g : Nat} (h1 : 1 ≤ g) (h3 : g ≤ 3) : OkB (g : Nat) (formS (readS f d) g) l n b := by
  have hr := right_form (readS f d) h1 h3
  have hl := form_length (readS f d) g
  have hs : Same (readS (g : Nat) (formS (readS f d) g)) (readS f d) := by
    rw [read_right hr, Int.toNat_natCast]; exact set_form _ g h1 h3
  refine ⟨⟨by omega, by omega, by omega⟩, by rw [vals_congr hs, h.vs], ?_, hr⟩
  rw [← h.has]
  by_cases hn : goodZ n = true
  · have hn' : 0 ≤ n ∧ n < 256 := by unfold goodZ at hn; simpa using hn
    rw [hs _ (by omega)]
  · rw [Bool.eq_false_iff.mpr hn]; rfl
/-- The form asked for. -/
theorem as_best {S : Bs} {g : Nat} (h1 : 1 ≤ g) (h3 : g ≤ 3) : asCV (bestF S : Nat) (bestD S) (g : Nat) = .tuple #[.agg #[.int .i64 (g : Nat), .string ⟨(formS (readS (bestF S : Nat) (bestD S)) g).toArray⟩], .int .i64 0] := by
  unfold asCV readS
  rw [if_pos ⟨best_right S, by unfold okF; omega⟩, if_pos (best_right S), Int.toNat_natCast, Int.toNat_natCast]
  rfl
theorem form_ge {S : Bs} {g : Nat} (h1 : 1 ≤ g) (h3 : g ≤ 3) : (bestD S).length ≤ (formS (readS (bestF S : Nat) (bestD S)) g).length := by
  rw [form_congr (read_best S)]; exact best_le S h1 h3
/-- A container's numbers make it again. -/
theorem make_vals (S : Bs) : makeV (zsOf (vals S)) = .tuple #[.agg #[.int .i64 (bestF S : Nat), .string ⟨(bestD S).toArray⟩], .int .i64 0] := by
  have hg : AllGood (zsOf (vals S)) := by
    intro z hz
    obtain ⟨m, hm, rfl⟩ := List.mem_map.1 hz
    have := (mem_valsTo.1 hm).1
    unfold goodZ; simp; omega
  have hs : Same (ofL (zsOf (vals S))) S := ofL_vals S
  rw [make_good hg, bestF_congr hs, bestD_congr hs]
theorem in64_zsOf {l : List Nat} (h : ∀ n ∈ l, n < 256) : In64 (zsOf l) := by
  intro j
  rw [zsOf_get]
  rw [List.getD_eq_getElem?_getD]
  cases hj : l[j]? with
  | none => simp
  | some x =>
    have := h x (List.mem_of_getElem? hj)
    simp; omega
theorem vals_small (S : Bs) : ∀ n ∈ vals S, n < 256 := fun _ h => (mem_valsTo.1 h).1
theorem mem_take_succ {zt : List Int} {n : Int} {k : Nat} (hk : k < zt.length) : decide (n ∈ zt.take (k + 1)) = (decide (n ∈ zt.take k) || decide (zt[k]?.getD 0 = n)) := by
  rw [List.getElem?_eq_getElem hk, Option.getD_some, List.take_succ_eq_append_getElem hk, Bool.eq_iff_iff]
  rw [Bool.or_eq_true, decide_eq_true_iff, decide_eq_true_iff, decide_eq_true_iff, List.mem_append, List.mem_singleton, eq_comm (a := n)]
theorem mem_take_none {zt : List Int} {n : Int} : decide (n ∈ zt.take 0) = false := by simp
end Go.Proofs.Ytpjcndfamhehlaa
