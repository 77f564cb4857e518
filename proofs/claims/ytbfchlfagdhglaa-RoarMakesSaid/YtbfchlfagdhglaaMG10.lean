import Derived.Test.YtbfchlfagdhglaaMG6
import Derived.Test.YtbfchlfagdhglaaMG9
import Derived.Test.YtbfchlfagdhglaaMG7
import Derived.DeepKeys
/- The program's way: chunks gone through, parted, joined: pure mathematics. -/
namespace Go.Proofs.Ytbfchlfagdhglaa

/-! ### The container of no numbers -/
theorem bestF_none : bestF (fun _ => false) = 1 := by decide +kernel
theorem bestD_none : bestD (fun _ => false) = [] := by decide +kernel
theorem ofL_nil : ofL [] = fun _ => false := by funext n; rfl
theorem set_empty (n : Nat) : setOf 1 [] n = false := rfl
theorem vals_none_same {t : Bs} (h : vals t = []) : Same t (fun _ => false) := fun n hn => vals_nil h n hn
/-- A container in its best form is the empty one just if it has no numbers. -/
theorem best_empty (t : Bs) : ((bestF t : Nat) = (1 : Int) ∧ bestD t = []) ↔ vals t = [] := by
  constructor
  · rintro ⟨h1, h2⟩
    have hs := best_set t
    rw [h2, show bestF t = 1 by omega] at hs
    unfold vals valsTo
    rw [List.filter_eq_nil_iff]
    intro n hn
    rw [← hs n (List.mem_range.1 hn), set_empty]; decide
  · intro h
    have hs := vals_none_same h
    rw [bestF_congr hs, bestD_congr hs, bestF_none, bestD_none]
    exact ⟨rfl, rfl⟩
theorem read_bestZ (t : Bs) : Same (readS (bestF t : Nat) (bestD t)) t := by
  unfold readS
  rw [if_pos (best_right t), Int.toNat_natCast]; exact best_set t
theorem read_empty : readS 1 [] = fun _ => false := by
  unfold readS
  split
  · funext n; exact set_empty n
  · rfl
/-- What no chunk of a bitmap is. -/
def EmC (c : Ch) : Prop := c.2.1 = 1 ∧ c.2.2 = []
instance (c : Ch) : Decidable (EmC c) := by unfold EmC; infer_instance
/-- A chunk that is made again as it stood. -/
def BestC (c : Ch) : Prop := c.2.1 = (bestF (readS c.2.1 c.2.2) : Nat) ∧ c.2.2 = bestD (readS c.2.1 c.2.2)
instance (c : Ch) : Decidable (BestC c) := by unfold BestC; infer_instance
theorem emC_chunk (t : Bs) (k : Nat) : EmC (chunk t k) ↔ vals t = [] := best_empty t
theorem bestC_chunk (t : Bs) (k : Nat) : BestC (chunk t k) := by
  unfold BestC chunk
  simp only
  rw [bestF_congr (read_bestZ t), bestD_congr (read_bestZ t)]
  exact ⟨rfl, rfl⟩
theorem BestC.right {c : Ch} (h : BestC c) : RightC c.2.1 c.2.2 := by
  have := best_right (readS c.2.1 c.2.2)
  rw [← h.1, ← h.2] at this
  exact this
theorem BestC.read {c : Ch} (h : BestC c) : readS c.2.1 c.2.2 = setOf c.2.1.toNat c.2.2 := by unfold readS; rw [if_pos h.right]
theorem BestC.vals {c : Ch} (h : BestC c) (he : ¬ EmC c) : vals (setOf c.2.1.toNat c.2.2) ≠ [] := fun hv => by
  rw [← h.read] at hv
  have := (best_empty _).2 hv
  rw [← h.1, ← h.2] at this
  exact he this
theorem BestC.chunk {c : Ch} (h : BestC c) {t : Bs} (hs : Same t (setOf c.2.1.toNat c.2.2)) {k : Nat} (hk : c.1 = (k : Int)) : chunk t k = c := by
  unfold Proofs.Ytbfchlfagdhglaa.chunk
  rw [← h.read] at hs
  rw [bestF_congr hs, bestD_congr hs, ← h.1, ← h.2, ← hk]

/-! ### Which chunks are a bitmap's -/
/-- The key of the chunk ahead. -/
def aheadK (r : List Ch) : Nat → Int
  | 0 => -1
  | k + 1 => (r.getD k noCh).1
def StepOk (r : List Ch) (j : Nat) : Prop := aheadK r j < (r.getD j noCh).1 ∧ (r.getD j noCh).1 < 256 ∧ ¬ EmC (r.getD j noCh) ∧ BestC (r.getD j noCh)
def AllOk (r : List Ch) (k : Nat) : Prop := ∀ j, j < k → StepOk r j
theorem AllOk.zero (r : List Ch) : AllOk r 0 := fun j hj => by omega
theorem AllOk.succ {r : List Ch} {k : Nat} (h : AllOk r k) (hs : StepOk r k) : AllOk r (k + 1) := fun j hj => by
  by_cases e : j = k
  · rw [e]; exact hs
  · exact h j (by omega)
theorem aheadK_ge {r : List Ch} {k : Nat} (h : AllOk r k) : -1 ≤ aheadK r k := by
  induction k with
  | zero => exact Int.le_refl _
  | succ k ih =>
    have h1 := ih fun j hj => h j (by omega)
    have h2 := (h k (by omega)).1
    show -1 ≤ (r.getD k noCh).1
    omega
theorem AllOk.key {r : List Ch} {k : Nat} (h : AllOk r k) {j : Nat} (hj : j < k) : 0 ≤ (r.getD j noCh).1 := by
  have h1 := aheadK_ge (k := j) fun i hi => h i (by omega)
  have h2 := (h j hj).1
  omega
theorem AllOk.lt {r : List Ch} {k : Nat} (h : AllOk r k) : ∀ {i j : Nat}, i < j → j < k → (r.getD i noCh).1 < (r.getD j noCh).1 := by
  intro i j
  induction j with
  | zero => intro h; omega
  | succ j ih =>
    intro h1 h2
    have h3 : (r.getD j noCh).1 < (r.getD (j + 1) noCh).1 := (h (j + 1) h2).1
    by_cases e : i = j
    · rw [e]; exact h3
    · have := ih (by omega) (by omega)
      omega
theorem getD_get {r : List Ch} {j : Nat} (h : j < r.length) : r.getD j noCh = r[j] := by rw [List.getD_eq_getElem?_getD, List.getElem?_eq_getElem h]; rfl
/-- Good chunks that rise. -/
structure Rises (r : List Ch) : Prop where
  asc : r.Pairwise fun a b => a.1 < b.1
  key : ∀ c ∈ r, 0 ≤ c.1 ∧ c.1 < 256
  full : ∀ c ∈ r, ¬ EmC c
  best : ∀ c ∈ r, BestC c
theorem AllOk.rises {r : List Ch} (h : AllOk r r.length) : Rises r := by
  have g : ∀ c ∈ r, ∃ j, j < r.length ∧ c = r.getD j noCh := fun c hc => by
    obtain ⟨j, hj, e⟩ := List.mem_iff_getElem.1 hc
    exact ⟨j, hj, by rw [getD_get hj, e]⟩
  refine ⟨List.pairwise_iff_getElem.2 fun i j hi hj hij => ?_, fun c hc => ?_, fun c hc => ?_, fun c hc => ?_⟩
  · have := h.lt hij hj
    rwa [getD_get hi, getD_get hj] at this
  · obtain ⟨j, hj, rfl⟩ := g c hc
    exact ⟨h.key hj, (h j hj).2.1⟩
  · obtain ⟨j, hj, rfl⟩ := g c hc
    exact (h j hj).2.2.1
  · obtain ⟨j, hj, rfl⟩ := g c hc
    exact (h j hj).2.2.2
theorem Rises.all {r : List Ch} (h : Rises r) : AllOk r r.length := fun j hj => by
  have hm : r.getD j noCh ∈ r := by rw [getD_get hj]; exact List.getElem_mem hj
  refine ⟨?_, (h.key _ hm).2, h.full _ hm, h.best _ hm⟩
  cases j with
  | zero => have := (h.key _ hm).1; show (-1 : Int) < _; omega
  | succ j =>
    show (r.getD j noCh).1 < _
    rw [getD_get hj, getD_get (show j < r.length by omega)]
    exact List.pairwise_iff_getElem.1 h.asc j (j + 1) (by omega) hj (by omega)
theorem Rises.tail {c : Ch} {r : List Ch} (h : Rises (c :: r)) : Rises r :=
  ⟨(List.pairwise_cons.1 h.asc).2, fun d hd => h.key d (List.mem_cons_of_mem _ hd), fun d hd => h.full d (List.mem_cons_of_mem _ hd), fun d hd => h.best d (List.mem_cons_of_mem _ hd)⟩
/-- The numbers of the chunk of one key. -/
theorem setZ_at {r : List Ch} (ha : r.Pairwise fun a b => a.1 < b.1) {c : Ch} (hc : c ∈ r) {k : Nat} (hk : c.1 = (k : Int)) {i : Nat} (hi : i < 256) : setZ r (256 * k + i) = setOf c.2.1.toNat c.2.2 i := by
  have e1 : (256 * k + i) / 256 = k := by omega
  have e2 : (256 * k + i) % 256 = i := by omega
  have one : hasCh c (256 * k + i) = setOf c.2.1.toNat c.2.2 i := by
    unfold hasCh
    rw [e1, e2, decide_eq_true hk, Bool.true_and]
  have other : ∀ d : Ch, d.1 ≠ (k : Int) → hasCh d (256 * k + i) = false := fun d hd => by
    unfold hasCh
    rw [e1, decide_eq_false hd, Bool.false_and]
  induction r with
  | nil => cases hc
  | cons d r ih =>
    have h1 := List.pairwise_cons.1 ha
    show (hasCh d _ || setZ r _) = _
    rcases List.mem_cons.1 hc with rfl | hc
    · have : setZ r (256 * k + i) = false := by
        unfold setZ
        rw [List.any_eq_false]
        intro x hx
        have := h1.1 x hx
        rw [other x (by omega)]; decide
      rw [one, this, Bool.or_false]
    · have := h1.1 c hc
      rw [other d (by omega), Bool.false_or]
      exact ih h1.2 hc
theorem setZ_no {r : List Ch} {k : Nat} (hk : ∀ c ∈ r, c.1 ≠ (k : Int)) {i : Nat} (hi : i < 256) : setZ r (256 * k + i) = false := by
  unfold setZ
  rw [List.any_eq_false]
  intro x hx
  unfold hasCh
  rw [show (256 * k + i) / 256 = k by omega, decide_eq_false (hk x hx), Bool.false_and]; decide
theorem filt_succ {r : List Ch} (ha : r.Pairwise fun a b => a.1 < b.1) {c : Ch} (hc : c ∈ r) {k : Nat} (hk : c.1 = (k : Int)) : r.filter (fun d => decide (d.1 < ((k + 1 : Nat) : Int))) = r.filter (fun d => decide (d.1 < (k : Int))) ++ [c] := by
  induction r with
  | nil => cases hc
  | cons d r ih =>
    have h1 := List.pairwise_cons.1 ha
    rcases List.mem_cons.1 hc with rfl | hc
    · have e1 : r.filter (fun d => decide (d.1 < ((k + 1 : Nat) : Int))) = [] := by
        rw [List.filter_eq_nil_iff]; intro x hx; have := h1.1 x hx; rw [decide_eq_true_iff]; omega
      have e2 : r.filter (fun d => decide (d.1 < (k : Int))) = [] := by
        rw [List.filter_eq_nil_iff]; intro x hx; have := h1.1 x hx; rw [decide_eq_true_iff]; omega
      rw [List.filter_cons_of_pos (by rw [decide_eq_true_iff]; omega), List.filter_cons_of_neg (by rw [decide_eq_true_iff]; omega), e1, e2]; rfl
    · have := h1.1 c hc
      rw [List.filter_cons_of_pos (by rw [decide_eq_true_iff]; omega), List.filter_cons_of_pos (by rw [decide_eq_true_iff]; omega), ih h1.2 hc]; rfl
theorem Rises.ofTo {r : List Ch} (h : Rises r) (k : Nat) : ofTo (setZ r) k = r.filter fun d => decide (d.1 < (k : Int)) := by
  induction k with
  | zero =>
    symm
    show r.filter _ = []
    rw [List.filter_eq_nil_iff]
    intro c hc
    have := (h.key c hc).1
    rw [decide_eq_true_iff]; omega
  | succ k ih =>
    by_cases hx : ∃ c ∈ r, c.1 = (k : Int)
    · obtain ⟨c, hc, hk⟩ := hx
      have hs : Same (part (setZ r) k) (setOf c.2.1.toNat c.2.2) := fun i hi => setZ_at h.asc hc hk hi
      have hv : vals (part (setZ r) k) ≠ [] := by rw [vals_congr hs]; exact (h.best c hc).vals (h.full c hc)
      rw [ofTo_some hv, ih, filt_succ h.asc hc hk, (h.best c hc).chunk hs hk]
    · have hn : ∀ c ∈ r, c.1 ≠ (k : Int) := fun c hc e => hx ⟨c, hc, e⟩
      have hv : vals (part (setZ r) k) = [] := by
        unfold vals valsTo
        rw [List.filter_eq_nil_iff]
        intro i hi
        show ¬ (part (setZ r) k i = true)
        unfold part
        rw [setZ_no hn (List.mem_range.1 hi)]; decide
      rw [ofTo_none hv, ih]
      refine List.filter_congr fun c hc => ?_
      have := hn c hc
      exact decide_eq_decide.2 (by omega)
theorem Rises.right {r : List Ch} (h : Rises r) : RightZ r := by
  have e : ofS (setZ r) = r := by
    unfold ofS
    rw [h.ofTo, List.filter_eq_self]
    intro c hc
    have := (h.key c hc).2
    rw [decide_eq_true_iff]; omega
  exact ⟨by rw [← e]; exact ofS_length _, e.symm⟩
theorem rises_of (s : Bs) : Rises (ofS s) := by
  refine ⟨ofTo_asc s 256, fun c hc => ?_, fun c hc => ?_, fun c hc => ?_⟩
  · obtain ⟨j, hj, rfl, _⟩ := mem_ofTo hc
    show 0 ≤ (j : Int) ∧ (j : Int) < 256
    omega
  · obtain ⟨j, hj, rfl, hv⟩ := mem_ofTo hc
    exact fun he => hv ((emC_chunk _ _).1 he)
  · obtain ⟨j, hj, rfl, _⟩ := mem_ofTo hc
    exact bestC_chunk _ _
theorem right_rises {r : List Ch} (h : RightZ r) : Rises r := by rw [h.2]; exact rises_of _
theorem right_iff {r : List Ch} : RightZ r ↔ AllOk r r.length := ⟨fun h => (right_rises h).all, fun h => h.rises.right⟩
theorem not_right {r : List Ch} {k : Nat} (hk : k < r.length) (h : ¬ StepOk r k) : ¬ RightZ r := fun hr => h (right_iff.1 hr k hk)

/-! ### The numbers, chunk by chunk -/
def valsC (c : Ch) : List Nat := (vals (readS c.2.1 c.2.2)).map fun n => 256 * c.1.toNat + n
def valsR (r : List Ch) : List Nat := r.flatMap valsC
theorem valsR_nil : valsR [] = [] := rfl
theorem valsR_snoc (r : List Ch) (c : Ch) : valsR (r ++ [c]) = valsR r ++ valsC c := by unfold valsR; rw [List.flatMap_append]; simp
theorem valsC_chunk (t : Bs) (k : Nat) : valsC (chunk t k) = (vals t).map fun n => 256 * k + n := by
  unfold valsC chunk
  simp only [Int.toNat_natCast]
  rw [vals_congr (read_bestZ t)]
theorem valsTo_part (s : Bs) (k : Nat) : valsTo s (256 * (k + 1)) = valsTo s (256 * k) ++ (vals (part s k)).map fun n => 256 * k + n := by
  unfold vals valsTo part
  rw [show 256 * (k + 1) = 256 * k + 256 by omega, List.range_add, List.filter_append, List.filter_map]
  rfl
theorem valsR_ofTo (s : Bs) (k : Nat) : valsR (ofTo s k) = valsTo s (256 * k) := by
  induction k with
  | zero => rfl
  | succ k ih =>
    rw [valsTo_part]
    by_cases h : vals (part s k) = []
    · rw [ofTo_none h, ih, h]; simp
    · rw [ofTo_some h, valsR_snoc, ih, valsC_chunk]
theorem valsR_right {r : List Ch} (h : RightZ r) : valsR r = valsZ r := by
  have e := valsR_ofTo (setZ r) 256
  rw [valsZ_good h, h.2]
  show valsR (ofTo (setZ r) 256) = valsTo (setZ (ofS (setZ r))) 65536
  rw [e]
  exact valsTo_congr fun n hn => (set_of (setZ r) n hn).symm
theorem valsC_length (c : Ch) : (valsC c).length = (vals (readS c.2.1 c.2.2)).length := by unfold valsC; rw [List.length_map]
theorem valsC_le (c : Ch) : (valsC c).length ≤ 256 := by rw [valsC_length]; exact valsTo_le _ 256
theorem valsR_le : ∀ r : List Ch, (valsR r).length ≤ 256 * r.length
  | [] => Nat.zero_le _
  | c :: r => by
    show (valsC c ++ valsR r).length ≤ _
    have h1 := valsC_le c
    have h2 := valsR_le r
    rw [List.length_append, List.length_cons]; omega

/-! ### Has -/
theorem has_hit {r : List Ch} (h : RightZ r) {c : Ch} (hc : c ∈ r) {n : Int} (hk : c.1 = n / 256) : hasZ r n = readS c.2.1 c.2.2 (n % 256).toNat := by
  have hr := right_rises h
  have h1 := hr.key c hc
  have hb := (hr.best c hc).read
  unfold hasZ goodQ
  rw [decide_eq_true (show 0 ≤ n by omega), decide_eq_true (show n < 65536 by omega), readZ_good h, hb]
  rw [show n.toNat = 256 * c.1.toNat + (n % 256).toNat by omega]
  show setZ r _ = _
  exact setZ_at hr.asc hc (show c.1 = (c.1.toNat : Int) by omega) (by omega)
theorem has_miss {r : List Ch} {n : Int} (hk : ∀ c ∈ r, c.1 ≠ n / 256) : hasZ r n = false := by
  unfold hasZ goodQ
  by_cases hn : 0 ≤ n ∧ n < 65536
  · have : readZ r n.toNat = false := by
      unfold readZ
      rw [show n.toNat = 256 * (n / 256).toNat + (n % 256).toNat by omega, setZ_no (fun c hc e => hk c hc (by rw [e]; omega)) (by omega), Bool.and_false]
    rw [this, Bool.and_false]
  · have : (decide (0 ≤ n) && decide (n < 65536)) = false := by
      rw [Bool.and_eq_false_iff, decide_eq_false_iff_not, decide_eq_false_iff_not]; omega
    rw [this, Bool.false_and]
theorem has_bad {r : List Ch} (h : ¬ RightZ r) (n : Int) : hasZ r n = false := by
  unfold hasZ; rw [readZ_bad h, Bool.and_false]

/-! ### Rank -/
def rankL (l : List Nat) (n : Int) : Nat := (l.filter fun (v : Nat) => decide ((v : Int) ≤ n)).length
theorem rankL_append (l m : List Nat) (n : Int) : rankL (l ++ m) n = rankL l n + rankL m n := by unfold rankL; rw [List.filter_append, List.length_append]
theorem rankL_right {r : List Ch} (h : RightZ r) (n : Int) : rankL (valsR r) n = rankN (readZ r) 65536 n := by
  rw [valsR_right h, valsZ_read]
  exact rankN_count _ _ _
theorem rankL_chunk {c : Ch} (h0 : 0 ≤ c.1) (n : Int) : rankL (valsC c) n = rankN (readS c.2.1 c.2.2) 256 (n - 256 * c.1) := by
  rw [← rankN_count]
  unfold rankL valsC vals
  rw [List.filter_map, List.length_map]
  congr 1
  refine List.filter_congr fun v _ => ?_
  show decide (((256 * c.1.toNat + v : Nat) : Int) ≤ n) = _
  exact decide_eq_decide.2 (by omega)
theorem rankL_over {c : Ch} {n : Int} (hk : n / 256 < c.1) : rankL (valsC c) n = 0 := by
  unfold rankL valsC
  rw [List.filter_map, List.length_map, List.length_eq_zero_iff, List.filter_eq_nil_iff]
  intro v _
  show ¬ decide (((256 * c.1.toNat + v : Nat) : Int) ≤ n) = true
  rw [decide_eq_true_iff]; omega
theorem rankL_rest {r : List Ch} {n : Int} (h : ∀ c ∈ r, n / 256 < c.1) : rankL (valsR r) n = 0 := by
  induction r with
  | nil => rfl
  | cons c r ih =>
    show rankL (valsC c ++ valsR r) n = 0
    rw [rankL_append, rankL_over (h c (List.mem_cons_self ..)), ih fun d hd => h d (List.mem_cons_of_mem _ hd)]
theorem rank_bad {r : List Ch} (h : ¬ RightZ r) (n : Int) : rankN (readZ r) 65536 n = 0 := by
  rw [readZ_bad h]
  unfold rankN
  rw [valsTo_none]; rfl
/-- The rank where the loop is left. -/
theorem rank_break {r pre post : List Ch} {c : Ch} (h : RightZ r) (e : r = pre ++ c :: post) {n : Int} (hk : n / 256 < c.1) : rankL (valsR pre) n = rankN (readZ r) 65536 n := by
  have ha := (right_rises h).asc
  rw [← rankL_right h, e]
  rw [e] at ha
  have h2 := (List.pairwise_append.1 ha).2.1
  have h3 : rankL (valsR (c :: post)) n = 0 := rankL_rest fun d hd => by
    rcases List.mem_cons.1 hd with rfl | hd
    · exact hk
    · have := (List.pairwise_cons.1 h2).1 d hd
      omega
  rw [show valsR (pre ++ c :: post) = valsR pre ++ valsR (c :: post) by unfold valsR; rw [List.flatMap_append], rankL_append, h3]; rfl

/-! ### Chunks of keys -/
theorem asc_ext : ∀ {l m : List Nat}, l.Pairwise (· < ·) → m.Pairwise (· < ·) → (∀ x, x ∈ l ↔ x ∈ m) → l = m
  | [], [], _, _, _ => rfl
  | [], y :: m, _, _, h => by have := (h y).2 (List.mem_cons_self ..); cases this
  | x :: l, [], _, _, h => by have := (h x).1 (List.mem_cons_self ..); cases this
  | x :: l, y :: m, hl, hm, h => by
    have h1 := List.pairwise_cons.1 hl
    have h2 := List.pairwise_cons.1 hm
    have e : x = y := by
      rcases List.mem_cons.1 ((h x).1 (List.mem_cons_self ..)) with e | hx
      · exact e
      · rcases List.mem_cons.1 ((h y).2 (List.mem_cons_self ..)) with e | hy
        · exact e.symm
        · have := h1.1 y hy; have := h2.1 x hx; omega
    subst e
    rw [asc_ext h1.2 h2.2 fun z => ⟨fun hz => ?_, fun hz => ?_⟩]
    · rcases List.mem_cons.1 ((h z).1 (List.mem_cons_of_mem _ hz)) with e | hz2
      · have := h1.1 z hz; omega
      · exact hz2
    · rcases List.mem_cons.1 ((h z).2 (List.mem_cons_of_mem _ hz)) with e | hz2
      · have := h2.1 z hz; omega
      · exact hz2
theorem ofTo_range (s : Bs) (k : Nat) : ofTo s k = ((List.range k).filter fun j => decide (vals (part s j) ≠ [])).map fun j => chunk (part s j) j := by
  induction k with
  | zero => rfl
  | succ k ih =>
    rw [List.range_succ, List.filter_append, List.map_append, ← ih]
    by_cases h : vals (part s k) = []
    · rw [ofTo_none h]; simp [h]
    · rw [ofTo_some h]; simp [h]
/-- Chunks of keys that rise, the empty ones left out, are a bitmap, if no key is lacking. -/
theorem ofS_keys {s : Bs} {ks : List Nat} (ha : ks.Pairwise (· < ·)) (hk : ∀ k ∈ ks, k < 256) (hc : ∀ k, k < 256 → k ∉ ks → vals (part s k) = []) {l : List Ch} (hl : l = ks.map fun k => chunk (part s k) k) : l.filter (fun c => !decide (EmC c)) = ofS s := by
  subst hl
  unfold ofS
  rw [ofTo_range, List.filter_map]
  congr 1
  refine asc_ext (List.Pairwise.filter _ ha) (List.Pairwise.filter _ List.pairwise_lt_range) fun x => ?_
  rw [List.mem_filter, List.mem_filter, List.mem_range]
  have e : ((fun c => !decide (EmC c)) ∘ fun k => chunk (part s k) k) x = decide (vals (part s x) ≠ []) := by
    show (!decide (EmC (chunk (part s x) x))) = _
    rw [← decide_not]
    exact decide_eq_decide.2 (not_congr (emC_chunk _ _))
  rw [e, decide_eq_true_iff]
  constructor
  · rintro ⟨h1, h2⟩; exact ⟨hk x h1, h2⟩
  · rintro ⟨h1, h2⟩
    refine ⟨?_, h2⟩
    by_cases hx : x ∈ ks
    · exact hx
    · exact absurd (hc x h1 hx) h2
end Go.Proofs.Ytbfchlfagdhglaa
/- roar.keyOf, number. -/
namespace Go.Proofs.Ytbfchlfagdhglaa
open Go.RowKit

theorem key_any (n : Int) (w : World) :
    Calls Try.prog 30 #[.int .i64 n] w fun e w' => e = .returned (.int .i64 (n / 256)) ∧ w = w' := by
  go_enter Try.func30, Try.ntmps30
  go_wp2
  go_ret
  exact ⟨rfl, rfl⟩
theorem or_num (k n : Nat) (hk : k ≤ 256) (hn : n < 256) : bits .or .i64 ((k : Int) * 256) (n : Int) = ((256 * k + n : Nat) : Int) := by
  show IntKind.i64.wrap ((BitVec.ofInt 64 ((k : Int) * 256) ||| BitVec.ofInt 64 (n : Int)).toNat : Int) = _
  have e : (k : Int) * 256 = ((256 * k : Nat) : Int) := by omega
  have h : 256 * k ||| n = 256 * k + n := by
    have := Nat.two_pow_add_eq_or_of_lt (i := 8) (b := n) (by simpa using hn) k
    rw [show (256 : Nat) = 2 ^ 8 from rfl]; exact this.symm
  rw [e, BitVec.toNat_or, BitVec.ofInt_natCast, BitVec.ofInt_natCast, BitVec.toNat_ofNat, BitVec.toNat_ofNat, Nat.mod_eq_of_lt (by omega), Nat.mod_eq_of_lt (by omega), h, IntKind.wrap_i64]
  omega
theorem num_any (k n : Nat) (hk : k ≤ 256) (hn : n < 256) (w : World) :
    Calls Try.prog 36 #[.int .i64 (k : Nat), .int .i64 (n : Nat)] w fun e w' => e = .returned (.int .i64 ((256 * k + n : Nat) : Int)) ∧ w = w' := by
  have H := or_num k n hk hn
  generalize ((256 * k + n : Nat) : Int) = m at *
  go_enter Try.func36, Try.ntmps36
  go_wp2
  go_ret
  exact ⟨rfl, rfl⟩
end Go.Proofs.Ytbfchlfagdhglaa
/- cont.Count. -/
namespace Go.Proofs.Ytbfchlfagdhglaa
open Go.RowKit

theorem st_new (w : World) (t : Bs) : (storeCells ⟨w.heap.size, 0, none⟩ (scl t).toList).run Try.prog (w.alloc (.cells (scl fun _ => false) 92)) = .ok () (w.alloc (.cells (scl t) 92)) := by
  rw [st_cells (Blk.new w 92 _) t, setRow_new]

section
variable (f : Int) (hf1 : -9223372036854775808 ≤ f) (hf2 : f ≤ 9223372036854775807) (d : List UInt8) (hd : d.length ≤ 9223372036854775807) (w : World)
include hf1 hf2 hd

set_option maxRecDepth 100000 in
theorem countC_any : Calls Try.prog 37 #[contV f d] w fun e w' => e = .returned (.int .i64 ((vals (readS f d)).length : Nat)) ∧ Below w.heap.size w w' := by
  have hz := zero_set
  have hss := scl_size
  have hst := st_new
  have hB0 := (Below.refl _ w).alloc (Nat.le_refl _) (.cells #[.int .i64 f, .string ⟨d.toArray⟩] 52)
  have HR := Lib.hid (read_any f hf1 hf2 d hd (w.alloc (.cells #[.int .i64 f, .string ⟨d.toArray⟩] 52)))
  unfold readV contV at HR
  unfold contV
  generalize readS f d = s at *
  generalize decide (RightC f d) = b at *
  go_enter Try.func37, Try.ntmps37
  go_wp2_with fail
  refine HR.out.mono ?_
  rintro e w1 ⟨rfl, hb1⟩
  have hB1 := hB0.trans (hb1.mono hB0.size)
  have hB2 := hB1.alloc hB1.size (.cells (scl s) 92)
  have HC := Lib.hid (count_any w1.heap.size s _ (Blk.new w1 92 (scl s)))
  go_wp2_with fail
  refine HC.out.mono ?_
  rintro e w2 ⟨rfl, hb2⟩
  have hB3 := hB2.trans (hb2.mono hB2.size)
  go_wp2
  go_ret
  exact ⟨rfl, hB3⟩

end
end Go.Proofs.Ytbfchlfagdhglaa
/- Two of the program's sets held against each other. -/
namespace Go.Proofs.Ytbfchlfagdhglaa
open Go.RowKit

theorem scl_inj {s t : Bs} (h : scl s = scl t) : Same s t := by
  intro n hn
  have hk : n / 8 < 32 := by omega
  have h1 := scl_get (s := s) hk
  have h2 := scl_get (s := t) hk
  rw [h] at h1
  rw [h1] at h2
  have h5 : Value.int .u8 (byteS s 256 (n / 8) : Nat) = Value.int .u8 (byteS t 256 (n / 8) : Nat) := Option.some.inj h2
  have e : ((byteS s 256 (n / 8) : Nat) : Int) = (byteS t 256 (n / 8) : Nat) := by injection h5
  have e2 : byteS s 256 (n / 8) = byteS t 256 (n / 8) := Int.ofNat.inj e
  have h3 := byteS_bit s (n / 8) (n % 8) hk
  have h4 := byteS_bit t (n / 8) (n % 8) hk
  rw [e2, h4, show 8 * (n / 8) + n % 8 = n by omega] at h3
  have h8 : n % 8 < 8 := by omega
  rw [decide_eq_true h8, Bool.true_and, Bool.true_and] at h3
  exact h3.symm
theorem mapM_some {α β : Type} {l : List α} {f : α → Option β} {g : α → β} (h : ∀ x ∈ l, f x = some (g x)) : l.mapM f = some (l.map g) := by
  induction l with
  | nil => rfl
  | cons x r ih =>
    rw [List.mapM_cons, h x (List.mem_cons_self ..), ih fun y hy => h y (List.mem_cons_of_mem _ hy)]; rfl
def litS (s : Bs) : List Lit := (List.range 32).map fun k => Lit.int .u8 (byteS s 256 k : Nat)
theorem cells_set : Try.prog.cellsOf 92 = 32 := by kernel_rfl
theorem cells_u8 : Try.prog.cellsOf 5 = 1 := by kernel_rfl
theorem litS_inj {s t : Bs} : litS s = litS t ↔ scl s = scl t := by
  have key : ∀ u : Bs, (scl u).toList = (litS u).map fun l => match l with | .int q n => Value.int q n | _ => undef := fun u => by
    unfold scl litS
    rw [List.map_map]; rfl
  constructor
  · intro h
    apply Array.ext'
    rw [key, key, h]
  · intro h
    have hs := scl_inj h
    unfold litS
    exact List.map_congr_left fun k _ => congrArg (fun n : Nat => Lit.int .u8 (n : Int)) (byteS_same hs k)
theorem flat_one (l : List Lit) : (l.map fun x => [x]).flatten = l := by
  induction l with
  | nil => rfl
  | cons x r ih => simp [ih]
theorem lits_set (s : Bs) : Try.prog.keyLits 2 92 (scl s).toList = some (litS s) := by
  have hm : (List.range 32).mapM (fun i => Try.prog.keyLits 1 5 (((scl s).toList.drop (i * 1)).take 1)) = some ((List.range 32).map fun k => [Lit.int .u8 (byteS s 256 k : Nat)]) := mapM_some fun k hk => by
    have hk' := List.mem_range.1 hk
    have e : ((scl s).toList.drop (k * 1)).take 1 = [Value.int .u8 (byteS s 256 k : Nat)] := by
      have h1 : (scl s).toList[k]? = some (Value.int .u8 (byteS s 256 k : Nat)) := by rw [Array.getElem?_toList]; exact scl_get hk'
      have hl : k < (scl s).toList.length := by rw [Array.length_toList, scl_size]; exact hk'
      rw [Nat.mul_one, List.drop_eq_getElem_cons hl]
      rw [List.getElem?_eq_getElem hl] at h1
      rw [Option.some.inj h1]; rfl
    rw [e]
    have hlt := byteS_lt s 256 k
    have hw : (Lit.int .u8 (byteS s 256 k : Nat)).wf = true := by
      simp [Lit.wf, IntKind.min, IntKind.max, IntKind.bits, IntKind.signed]; omega
    simp [Program.keyLits, Try.underlying5, hw]
  have hl : (scl s).toList.length = 32 := by rw [Array.length_toList, scl_size]
  unfold Program.keyLits
  simp only [Try.underlying92]
  rw [if_pos (by rw [cells_set, hl]), cells_u8, hm]
  show some _ = _
  rw [← flat_one (litS s)]
  unfold litS
  rw [List.map_map]; rfl
def sameB (s t : Bs) : Bool := (List.range 256).all fun n => s n == t n
theorem sameB_iff {s t : Bs} : sameB s t = true ↔ Same s t := by
  unfold sameB
  rw [List.all_eq_true]
  exact ⟨fun h n hn => eq_of_beq (h n (List.mem_range.2 hn)), fun h n hn => by rw [h n (List.mem_range.1 hn)]; exact beq_self_eq_true _⟩
set_option maxRecDepth 100000 in
/-- Whether they are the same. -/
theorem eql_set (s t : Bs) (w : World) : (binOp .eql 92 (.agg (scl s)) (.agg (scl t))).run Try.prog w = .ok (.bool (sameB s t)) w := by
  obtain ⟨r, hr, hiff⟩ := run_equalIn_deep (P := Try.prog) 9990 10 92 (by kernel_rfl) w 2 2 (.agg (scl s)) (.agg (scl t)) (litS s) (litS t)
    (by simp [Value.formed, Try.underlying92, cells_set, scl_size]) (by simp [Value.formed, Try.underlying92, cells_set, scl_size]) (lits_set s) (lits_set t)
  have e : r = sameB s t := by
    rw [Bool.eq_iff_iff, hiff, litS_inj, sameB_iff]
    exact ⟨scl_inj, scl_congr⟩
  rw [run_eql_struct, hr, e]; rfl
set_option maxRecDepth 100000 in
theorem wpList_eq_set {ops : Array Oper} {rest : List Oper} {op : Oper} {a : Act} {w : World} {Q : Exit → Act → World → Prop} (hw : Region.wanted op (yielded ops a.tmps) = true) (x y : Operand) (t' : TypeId) (ho : op.op = .binOp .eql 92 x y t') (s t : Bs)
    (hx : a.eval x = .agg (scl s)) (hy : a.eval y = .agg (scl t)) (h : wpList Try.prog ops Q rest (a.put op.dst (.bool (sameB s t))) w) : wpList Try.prog ops Q (op :: rest) a w :=
  wpList_step fun K hK => by
    rw [if_pos hw]
    unfold Oper.wp execOp
    simp only [ho, hx, hy, Sem.run_bind, Sem.run_pure, eql_set]
    exact hK _ _ h
set_option maxRecDepth 100000 in
theorem wpList_ld_setG {ops : Array Oper} {rest : List Oper} {op : Oper} {a : Act} {w : World} {Q : Exit → Act → World → Prop} (hw : Region.wanted op (yielded ops a.tmps) = true) (x : Operand) (ho : op.op = .load 92 x) (g : Nat) (hx : a.eval x = .pointer (some ⟨g, 0, none⟩)) (s : Bs)
    (hb : Blk w g 92 (scl s)) (h : wpList Try.prog ops Q rest (a.put op.dst (.agg (scl s))) w) : wpList Try.prog ops Q (op :: rest) a w :=
  wpList_step fun K hK => by
    rw [if_pos hw]
    exact wp_ld_set x ho g hx s hb (hK _ _ h)
end Go.Proofs.Ytbfchlfagdhglaa
/- cont.Make, Has. -/
namespace Go.Proofs.Ytbfchlfagdhglaa
open Go.RowKit


set_option maxRecDepth 100000 in
set_option maxHeartbeats 1000000 in
theorem make_any (x : Option Addr) (len cap : Nat) (zs : List Int) (hlen : zs.length = len) (hcm : len ≤ 9223372036854775807) (hz64 : In64 zs) (w : World) (hI : Ints w.heap.size w (.slice x len cap) zs) :
    Calls Try.prog 50 #[.slice x len cap] w fun e w' => e = .returned (makeV zs) ∧ Below w.heap.size w w' := by
  have hz := zero_set
  have hss := scl_size
  have hB0 : Below w.heap.size w ((w.alloc (.cells #[.int .i64 0, .string ⟨#[]⟩] 52)).alloc (.cells (scl fun _ => false) 92)) := ((Below.refl _ w).alloc (Nat.le_refl _) _).alloc (by simp) _
  have bR : Blk ((w.alloc (.cells #[.int .i64 0, .string ⟨#[]⟩] 52)).alloc (.cells (scl fun _ => false) 92)) (w.heap.size) 52 #[.int .i64 0, .string ⟨#[]⟩] := (Blk.new w _ _).alloc _
  have bS : Blk ((w.alloc (.cells #[.int .i64 0, .string ⟨#[]⟩] 52)).alloc (.cells (scl fun _ => false) 92)) (w.heap.size + 1) 92 (scl fun _ => false) := by
    have := Blk.new (w.alloc (.cells #[.int .i64 0, .string ⟨#[]⟩] 52)) 92 (scl fun _ => false)
    rwa [World.size_alloc] at this
  have hIx : ∀ a, x = some a → 0 < len → a.block ≠ w.heap.size + 1 := fun a e hl => by
    subst e
    obtain ⟨b1, o1, e1, hb1, _⟩ := hI.at_ hl
    cases e1
    show b1 ≠ _
    omega
  have HP := Lib.hid (put_any (w.heap.size + 1) (fun _ => false) x len cap zs hlen hcm hz64 _ ((hI.below hB0).more hB0.size) hIx bS)
  have hbnd : ∀ z ∈ zs, goodZ z = true → True := fun _ _ _ => trivial
  clear bS hIx hI hz64 hlen hbnd
  go_enter Try.func50, Try.ntmps50
  go_wp2_with fail
  refine HP.out.mono ?_
  rintro e w1 ⟨hg, ⟨hgood, rfl, hb⟩ | ⟨hgood, rfl, t, hb, _, _⟩⟩
  · have hB1 : Below w.heap.size w w1 := hB0.trans (grown_below hg (by omega) hB0.size)
    have bR1 := bR.grown hg (by omega)
    rw [none_or] at hb
    have HA := Lib.hid (best_any (w.heap.size + 1) (ofL zs) w1 hb)
    have HV : Hid (makeV zs = .tuple #[.agg #[.int .i64 (bestF (ofL zs) : Nat), .string ⟨(bestD (ofL zs)).toArray⟩], .int .i64 0]) := Lib.hid (by unfold makeV; rw [if_pos hgood]; rfl)
    unfold contV at HA
    clear hg hgood hb bR
    generalize bestF (ofL zs) = q at *
    generalize bestD (ofL zs) = dq at *
    go_wp2_with fail
    refine HA.out.mono ?_
    rintro e w2 ⟨rfl, hb2⟩
    have hB2 := hB1.trans (hb2.mono hB1.size)
    have bR2 := bR1.under hb2
    have c0 := bR2.cell 0; have c1 := bR2.cell 1; have f0 := bR2.frozen 0; have f1 := bR2.frozen 1
    dsimp at c0 c1
    have hE := bR2.set2 (.int .i64 q) (.string ⟨dq.toArray⟩)
    have hB4 := (hB2.setCell (p := ⟨w.heap.size, 0, none⟩) (by simp) (.int .i64 q)).setCell (p := ⟨w.heap.size, 1, none⟩) (by simp) (.string ⟨dq.toArray⟩)
    clear bR1 bR2
    go_wp2
    exact ret_cont2 rfl rfl hE rfl ⟨by rw [HV.out]; rfl, hB4⟩
  · have hB1 : Below w.heap.size w w1 := hB0.trans (grown_below hg (by omega) hB0.size)
    have bR1 := bR.grown hg (by omega)
    have HV : Hid (makeV zs = .tuple #[.agg #[.int .i64 0, .string ⟨#[]⟩], .int .i64 60]) := Lib.hid (by unfold makeV; rw [if_neg hgood]; rfl)
    have c0 := bR1.cell 0; have c1 := bR1.cell 1; have f0 := bR1.frozen 0; have f1 := bR1.frozen 1
    dsimp at c0 c1
    have hE := bR1.set2 (.int .i64 0) (.string ⟨#[]⟩)
    have hB4 := (hB1.setCell (p := ⟨w.heap.size, 0, none⟩) (by simp) (.int .i64 0)).setCell (p := ⟨w.heap.size, 1, none⟩) (by simp) (.string ⟨#[]⟩)
    clear hg hgood hb bR bR1
    go_wp2
    exact ret_cont2 rfl rfl hE rfl ⟨by rw [HV.out]; rfl, hB4⟩

theorem setRow_new1 (w : World) (o : Obj) (t : TypeId) (a b : Array Value) : ((w.alloc o).alloc (.cells a t)).setRow (w.heap.size + 1) b = (w.alloc o).alloc (.cells b t) := by
  have := setRow_new (w.alloc o) t a b
  rwa [World.size_alloc] at this
theorem st_new1 (w : World) (o : Obj) (t : Bs) : (storeCells ⟨w.heap.size + 1, 0, none⟩ (scl t).toList).run Try.prog ((w.alloc o).alloc (.cells (scl fun _ => false) 92)) = .ok () ((w.alloc o).alloc (.cells (scl t) 92)) := by
  have := st_new (w.alloc o) t
  rwa [World.size_alloc] at this
theorem same_put {s : Bs} {k : Nat} (hk : k < 256) : sameB (put1 s k true) s = s k := by
  rw [Bool.eq_iff_iff, sameB_iff]
  constructor
  · intro h
    have := h k hk
    unfold put1 at this
    rw [if_pos rfl] at this
    exact this.symm
  · intro h n _
    unfold put1
    by_cases e : n = k
    · subst e; rw [if_pos rfl, h]
    · rw [if_neg e]
set_option maxRecDepth 100000 in
set_option maxHeartbeats 400000 in
theorem has_any (f : Int) (hf1 : -9223372036854775808 ≤ f) (hf2 : f ≤ 9223372036854775807) (d : List UInt8) (hd : d.length ≤ 9223372036854775807) (n : Int) (hn1 : -9223372036854775808 ≤ n) (hn2 : n ≤ 9223372036854775807) (w : World) :
    Calls Try.prog 40 #[contV f d, .int .i64 n] w fun e w' => e = .returned (.bool (goodZ n && readS f d n.toNat)) ∧ Below w.heap.size w w' := by
  have hz := zero_set
  have hss := scl_size
  have hst := st_new
  have hB0 := (Below.refl _ w).alloc (Nat.le_refl _) (.cells #[.int .i64 f, .string ⟨d.toArray⟩] 52)
  have HR := Lib.hid (read_any f hf1 hf2 d hd (w.alloc (.cells #[.int .i64 f, .string ⟨d.toArray⟩] 52)))
  unfold readV contV at HR
  unfold contV
  generalize readS f d = s at *
  generalize decide (RightC f d) = b at *
  go_enter Try.func40, Try.ntmps40
  go_wp2_with fail
  refine HR.out.mono ?_
  rintro e w1 ⟨rfl, hb1⟩
  have hB1 := hB0.trans (hb1.mono hB0.size)
  have hld := Blk.new w1 92 (scl s)
  have hB2 := hB1.alloc hB1.size (.cells (scl s) 92)
  have hB3 := hB2.alloc hB2.size (.cells (scl s) 92)
  have bW := Blk.new (w1.alloc (.cells (scl s) 92)) 92 (scl s)
  have bS := hld.alloc (.cells (scl s) 92)
  have hw1 := hB1.size
  have hsz3 : ((w1.alloc (.cells (scl s) 92)).alloc (.cells (scl s) 92)).heap.size = w1.heap.size + 1 + 1 := by simp
  rw [World.size_alloc] at bW
  have HP := Lib.hid (put_new (w1.heap.size + 1) s n hn1 hn2 _ bW)
  have HB3 := Lib.hid hB3
  have HbS := Lib.hid bS
  rw [hsz3] at HP
  have hst2 := st_new1
  clear bW bS hB3
  go_wp2_with (refine wpList_ld_set rfl _ rfl _ rfl s ?_ ?_; exact hld)
  refine HP.out.mono ?_
  rintro e w2 ⟨rfl, hg, hb⟩
  have hB4 : Below w.heap.size w w2 := HB3.out.trans (grown_below hg (by omega) (by simp; omega))
  have bS2 := HbS.out.grown hg (by omega)
  have hHB4 := Lib.hid hB4
  clear hB4 hg
  by_cases hgz : goodZ n = true
  · rw [hgz]
    rw [if_pos hgz] at hb
    have hk : n.toNat < 256 := by unfold goodZ at hgz; simp at hgz; omega
    obtain ⟨k, hkn⟩ : ∃ k, k = n.toNat := ⟨_, rfl⟩
    have HV : Hid ((goodZ n && s n.toNat) = sameB (put1 s k true) s) := Lib.hid (by rw [hgz, hkn, same_put hk]; rfl)
    rw [← hkn] at hb
    clear hkn
    go_wp2_with (first | (refine wpList_ld_setG ?_ _ rfl _ rfl (put1 s k true) ?_ ?_; simp [Region.wanted, yielded, Act.put]; exact hb) | (refine wpList_ld_setG ?_ _ rfl _ rfl s ?_ ?_; simp [Region.wanted, yielded, Act.put]; exact bS2) | (refine wpList_eq_set ?_ _ _ _ rfl (put1 s k true) s ?_ ?_ ?_; simp [Region.wanted, yielded, Act.put]; rfl; rfl))
    go_ret
    exact ⟨by rw [HV.out]; rfl, hHB4.out⟩
  · have HV : Hid ((goodZ n && s n.toNat) = false) := Lib.hid (by rw [Bool.eq_false_iff.2 hgz]; rfl)
    rw [Bool.eq_false_iff.2 hgz]
    clear hb
    go_wp2
    go_ret
    exact ⟨by rw [HV.out]; rfl, hHB4.out⟩
end Go.Proofs.Ytbfchlfagdhglaa
