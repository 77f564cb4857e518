/- Dictionaries as lists of lists of bytes: plain mathematics, without the program. -/
import Derived.Test.YthoegicchjadaaaDoorVMath
import Derived.Lib.SlicesCompact
namespace Go.Proofs.YthoegicchjadaaaDoor

/-! ### The order of words -/
theorem w_trans {a b c : List UInt8} (h : a < b) (k : b < c) : a < c := List.lt_trans h k
theorem w_irrefl (a : List UInt8) : ¬ a < a := List.lt_irrefl a
theorem w_asymm {a b : List UInt8} (h : a < b) : ¬ b < a := fun k => w_irrefl a (w_trans h k)
theorem w_eq {a b : List UInt8} (h : ¬ a < b) (k : ¬ b < a) : a = b := List.le_antisymm (List.not_lt.1 k) (List.not_lt.1 h)
theorem w_le_lt {a b c : List UInt8} (h : ¬ b < a) (k : b < c) : a < c := by
  by_cases e : a < b
  · exact w_trans e k
  · rw [w_eq e h]; exact k
theorem w_lt_le {a b c : List UInt8} (h : a < b) (k : ¬ c < b) : a < c := by
  by_cases e : b < c
  · exact w_trans h e
  · rw [← w_eq e k]; exact h
theorem w_le_le {a b c : List UInt8} (h : ¬ b < a) (k : ¬ c < b) : ¬ c < a := fun e => h (w_le_lt k e)

/-! ### Dictionaries -/
/-- Each word has at most a hundred bytes, and is behind the one ahead of it. -/
def Chn (l : List (List UInt8)) : Prop := ∀ j, j < l.length → (l[j]?.getD []).length ≤ 100 ∧ (0 < j → l[j - 1]?.getD [] < l[j]?.getD [])
def RightL (l : List (List UInt8)) : Prop := l.length ≤ 1000 ∧ Chn l
instance (l : List (List UInt8)) : Decidable (Chn l) := by unfold Chn; infer_instance
instance (l : List (List UInt8)) : Decidable (RightL l) := by unfold RightL; infer_instance
/-- Rising. -/
def Asc (l : List (List UInt8)) : Prop := l.Pairwise (· < ·)

theorem getD_at {l : List (List UInt8)} {j : Nat} (h : j < l.length) : l[j]?.getD [] = l[j] := by rw [List.getElem?_eq_getElem h]; rfl
theorem getD_mem {l : List (List UInt8)} {j : Nat} (h : j < l.length) : l[j]?.getD [] ∈ l := by rw [getD_at h]; exact List.getElem_mem h
theorem mem_getD {l : List (List UInt8)} {x : List UInt8} (h : x ∈ l) : ∃ j, j < l.length ∧ l[j]?.getD [] = x := by
  obtain ⟨j, hj, e⟩ := List.getElem_of_mem h
  exact ⟨j, hj, by rw [getD_at hj, e]⟩
theorem asc_iff {l : List (List UInt8)} : Asc l ↔ ∀ i j, i < j → j < l.length → l[i]?.getD [] < l[j]?.getD [] := by
  unfold Asc
  rw [List.pairwise_iff_getElem]
  constructor
  · intro h i j hij hj
    rw [getD_at hj, getD_at (by omega)]
    exact h i j _ _ hij
  · intro h i j hi hj hij
    have := h i j hij hj
    rwa [getD_at hj, getD_at hi] at this
theorem asc_of_next {l : List (List UInt8)} (h : ∀ j, j < l.length → 0 < j → l[j - 1]?.getD [] < l[j]?.getD []) : Asc l := by
  rw [asc_iff]
  intro i j hij
  obtain ⟨d, rfl⟩ : ∃ d, j = i + 1 + d := ⟨j - i - 1, by omega⟩
  induction d with
  | zero => intro hj; simpa using h (i + 1) hj (by omega)
  | succ d ih => intro hj; exact w_trans (ih (by omega) (by omega)) (h (i + 1 + d + 1) hj (by omega))
theorem chn_iff {l : List (List UInt8)} : Chn l ↔ (∀ x ∈ l, x.length ≤ 100) ∧ Asc l := by
  constructor
  · intro h
    refine ⟨fun x hx => ?_, asc_of_next fun j hj h0 => (h j hj).2 h0⟩
    obtain ⟨j, hj, rfl⟩ := mem_getD hx
    exact (h j hj).1
  · rintro ⟨h1, h2⟩ j hj
    exact ⟨h1 _ (getD_mem hj), fun h0 => asc_iff.1 h2 _ _ (by omega) hj⟩
theorem right_len {l : List (List UInt8)} (h : RightL l) {x : List UInt8} (hx : x ∈ l) : x.length ≤ 100 := (chn_iff.1 h.2).1 x hx
theorem right_asc {l : List (List UInt8)} (h : RightL l) : Asc l := (chn_iff.1 h.2).2
theorem right_nil : RightL [] := ⟨by decide, fun j hj => by simp at hj⟩

/-- Two rising lists with the same words are one. -/
theorem asc_ext : ∀ {a b : List (List UInt8)}, Asc a → Asc b → (∀ x, x ∈ a ↔ x ∈ b) → a = b
  | [], [], _, _, _ => rfl
  | [], y :: b, _, _, h => absurd ((h y).2 (List.mem_cons_self ..)) (List.not_mem_nil)
  | x :: a, [], _, _, h => absurd ((h x).1 (List.mem_cons_self ..)) (List.not_mem_nil)
  | x :: a, y :: b, ha, hb, h => by
    obtain ⟨ha1, ha2⟩ := List.pairwise_cons.1 ha
    obtain ⟨hb1, hb2⟩ := List.pairwise_cons.1 hb
    have e : x = y := by
      rcases List.mem_cons.1 ((h x).1 (List.mem_cons_self ..)) with e | hx
      · exact e
      · rcases List.mem_cons.1 ((h y).2 (List.mem_cons_self ..)) with e | hy
        · exact e.symm
        · exact absurd (ha1 _ hy) (w_asymm (hb1 _ hx))
    subst e
    rw [asc_ext ha2 hb2 fun z => ⟨fun hz => ?_, fun hz => ?_⟩]
    · rcases List.mem_cons.1 ((h z).1 (List.mem_cons_of_mem _ hz)) with e | h'
      · exact absurd (ha1 z hz) (by rw [e]; exact w_irrefl _)
      · exact h'
    · rcases List.mem_cons.1 ((h z).2 (List.mem_cons_of_mem _ hz)) with e | h'
      · exact absurd (hb1 z hz) (by rw [e]; exact w_irrefl _)
      · exact h'

/-! ### Sorted, and each word once -/
def sortW (l : List (List UInt8)) : List (List UInt8) := l.mergeSort fun x y => decide (x ≤ y)
def uniq (l : List (List UInt8)) : List (List UInt8) := Lib.compact (sortW l)
theorem sort_le (l : List (List UInt8)) : (sortW l).Pairwise fun a b => ¬ b < a := by
  have h := List.pairwise_mergeSort (le := fun x y : List UInt8 => decide (x ≤ y)) (fun a b c h k => by
    simp only [decide_eq_true_eq] at h k ⊢
    exact List.not_lt.1 (w_le_le (List.not_lt.2 h) (List.not_lt.2 k))) (fun a b => by
    simp only [Bool.or_eq_true, decide_eq_true_eq]
    exact List.le_total a b) l
  exact h.imp fun h => List.not_lt.2 (by simpa using h)
theorem sort_mem {l : List (List UInt8)} {x : List UInt8} : x ∈ sortW l ↔ x ∈ l := List.mem_mergeSort
theorem sort_length (l : List (List UInt8)) : (sortW l).length = l.length := List.length_mergeSort ..
theorem compactUpTo_spec {d : Array (List UInt8)} (hd : ∀ i j, i ≤ j → j < d.size → ¬ d[j]! < d[i]!) : ∀ m, m ≤ d.size →
    Asc (Lib.compactUpTo d m) ∧ (∀ x, x ∈ Lib.compactUpTo d m ↔ ∃ j, j < m ∧ d[j]! = x) := by
  intro m
  induction m with
  | zero => intro _; exact ⟨List.Pairwise.nil, fun x => ⟨fun h => by simp [Lib.compactUpTo] at h, fun ⟨j, hj, _⟩ => absurd hj (Nat.not_lt_zero _)⟩⟩
  | succ m ih =>
    intro hm
    obtain ⟨h1, h2⟩ := ih (by omega)
    rw [Lib.compactUpTo_succ]
    by_cases hk : Lib.keeps d m = true
    · rw [if_pos hk]
      refine ⟨?_, fun x => ?_⟩
      · unfold Asc at h1 ⊢
        rw [List.pairwise_append]
        refine ⟨h1, List.pairwise_singleton _ _, fun a ha b hb => ?_⟩
        rw [List.mem_singleton.1 hb]
        obtain ⟨j, hj, rfl⟩ := (h2 a).1 ha
        have hne : d[m]! ≠ d[m - 1]! := by
          rcases (by simpa [Lib.keeps] using hk : m = 0 ∨ ¬ d[m]! = d[m - 1]!) with e | e
          · omega
          · exact e
        have a1 := hd j (m - 1) (by omega) (by omega)
        have a2 := hd (m - 1) m (by omega) (by omega)
        refine w_le_lt a1 ?_
        by_cases e : d[m - 1]! < d[m]!
        · exact e
        · exact absurd (w_eq a2 e) hne
      · rw [List.mem_append, h2, List.mem_singleton]
        constructor
        · rintro (⟨j, hj, e⟩ | e)
          · exact ⟨j, by omega, e⟩
          · exact ⟨m, by omega, e.symm⟩
        · rintro ⟨j, hj, e⟩
          by_cases hjm : j = m
          · subst hjm; exact .inr e.symm
          · exact .inl ⟨j, by omega, e⟩
    · have hk' : Lib.keeps d m = false := by simpa using hk
      rw [if_neg hk, List.append_nil]
      refine ⟨h1, fun x => ?_⟩
      rw [h2]
      constructor
      · rintro ⟨j, hj, e⟩; exact ⟨j, by omega, e⟩
      · rintro ⟨j, hj, e⟩
        by_cases hjm : j = m
        · subst hjm
          have hk2 : j ≠ 0 ∧ d[j]! = d[j - 1]! := by simpa [Lib.keeps] using hk'
          exact ⟨j - 1, by omega, by rw [← e, hk2.2]⟩
        · exact ⟨j, by omega, e⟩
theorem uniq_spec (l : List (List UInt8)) : Asc (uniq l) ∧ ∀ x, x ∈ uniq l ↔ x ∈ l := by
  have hd : ∀ i j, i ≤ j → j < (sortW l).toArray.size → ¬ (sortW l).toArray[j]! < (sortW l).toArray[i]! := by
    intro i j hij hj
    have hj' : j < (sortW l).length := by simpa using hj
    rw [getElem!_pos _ j hj, getElem!_pos _ i (by omega)]
    simp only [List.getElem_toArray]
    by_cases e : i = j
    · subst e; exact w_irrefl _
    · exact List.pairwise_iff_getElem.1 (sort_le l) i j (by omega) hj' (by omega)
  obtain ⟨h1, h2⟩ := compactUpTo_spec hd (sortW l).length (by simp)
  refine ⟨h1, fun x => ?_⟩
  show x ∈ Lib.compactUpTo _ _ ↔ _
  rw [h2, ← sort_mem]
  constructor
  · rintro ⟨j, hj, rfl⟩
    rw [getElem!_pos _ j (by simpa using hj)]
    simp
  · intro hx
    obtain ⟨j, hj, e⟩ := List.getElem_of_mem hx
    exact ⟨j, hj, by rw [getElem!_pos _ j (by simpa using hj)]; simpa using e⟩
theorem uniq_asc (l : List (List UInt8)) : Asc (uniq l) := (uniq_spec l).1
theorem mem_uniq {l : List (List UInt8)} {x : List UInt8} : x ∈ uniq l ↔ x ∈ l := (uniq_spec l).2 x
theorem uniq_of_asc {l : List (List UInt8)} (h : Asc l) : uniq l = l := asc_ext (uniq_asc l) h fun _ => mem_uniq
theorem compact_length_le (l : List (List UInt8)) : (Lib.compact l).length ≤ l.length := by
  unfold Lib.compact Lib.compactUpTo
  rw [List.length_map]
  exact Nat.le_trans (List.length_filter_le _ _) (by simp)
theorem uniq_length (l : List (List UInt8)) : (uniq l).length ≤ l.length := by
  have := compact_length_le (sortW l)
  rwa [sort_length] at this
theorem right_uniq {l : List (List UInt8)} : RightL (uniq l) ↔ (∀ x ∈ l, x.length ≤ 100) ∧ (uniq l).length ≤ 1000 := by
  unfold RightL
  rw [chn_iff]
  constructor
  · rintro ⟨h1, h2, _⟩; exact ⟨fun x hx => h2 x (mem_uniq.2 hx), h1⟩
  · rintro ⟨h1, h2⟩; exact ⟨h2, fun x hx => h1 x (mem_uniq.1 hx), uniq_asc l⟩

/-! ### Places -/
/-- The place of the first word that q holds of; how many there are, if it holds of none. -/
def firstAt (q : List UInt8 → Bool) (l : List (List UInt8)) : Nat := (l.takeWhile fun x => !q x).length
def notBelow (w : List UInt8) (x : List UInt8) : Bool := !decide (x < w)
/-- How many words stand ahead of w. -/
def placeL (l : List (List UInt8)) (w : List UInt8) : Nat := firstAt (notBelow w) l
theorem firstAt_le (q : List UInt8 → Bool) (l : List (List UInt8)) : firstAt q l ≤ l.length := (List.takeWhile_sublist _).length_le
theorem firstAt_lt {q : List UInt8 → Bool} {l : List (List UInt8)} : ∀ {j}, j < firstAt q l → q (l[j]?.getD []) = false := by
  unfold firstAt
  induction l with
  | nil => intro j hj; simp at hj
  | cons x l ih =>
    intro j hj
    rw [List.takeWhile_cons] at hj
    split at hj
    · rename_i h
      cases j with
      | zero => simpa using h
      | succ j => simpa using ih (by simpa using hj)
    · simp at hj
theorem firstAt_at {q : List UInt8 → Bool} {l : List (List UInt8)} (h : firstAt q l < l.length) : q (l[firstAt q l]?.getD []) = true := by
  unfold firstAt at h ⊢
  induction l with
  | nil => simp at h
  | cons x l ih =>
    rw [List.takeWhile_cons] at h ⊢
    split at h
    · rename_i hb
      rw [if_pos hb]
      simpa using ih (by simpa using h)
    · rename_i hb
      rw [if_neg hb]
      simpa using hb
theorem firstAt_eq {q : List UInt8 → Bool} {l : List (List UInt8)} {k : Nat} (hk : k ≤ l.length) (h : ∀ j, j < k → q (l[j]?.getD []) = false) (hl : k < l.length → q (l[k]?.getD []) = true) : firstAt q l = k := by
  rcases Nat.lt_trichotomy (firstAt q l) k with h1 | h1 | h1
  · have a := h _ h1
    have b := firstAt_at (q := q) (l := l) (by omega)
    rw [a] at b; cases b
  · exact h1
  · have a := firstAt_lt h1
    have := firstAt_le q l
    have b := hl (by omega)
    rw [a] at b; cases b
/-- q holds of all behind one that it holds of. -/
def Mono (q : List UInt8 → Bool) (l : List (List UInt8)) : Prop := ∀ i j, i ≤ j → j < l.length → q (l[i]?.getD []) = true → q (l[j]?.getD []) = true
theorem firstAt_ge {q : List UInt8 → Bool} {l : List (List UInt8)} (hm : Mono q l) {j : Nat} (h : firstAt q l ≤ j) (hj : j < l.length) : q (l[j]?.getD []) = true :=
  hm _ j h hj (firstAt_at (by omega))
theorem notBelow_mono {l : List (List UInt8)} (h : Asc l) (w : List UInt8) : Mono (notBelow w) l := by
  intro i j hij hj hi
  by_cases e : i = j
  · rw [← e]; exact hi
  · have := asc_iff.1 h i j (by omega) hj
    simp only [notBelow, Bool.not_eq_true', decide_eq_false_iff_not] at hi ⊢
    exact fun k => hi (w_trans this k)
theorem placeL_le (l : List (List UInt8)) (w : List UInt8) : placeL l w ≤ l.length := firstAt_le _ _
theorem below_place {l : List (List UInt8)} {w : List UInt8} {j : Nat} (h : j < placeL l w) : l[j]?.getD [] < w := by
  have := firstAt_lt h
  simpa [notBelow] using this
theorem place_below {l : List (List UInt8)} (ha : Asc l) {w : List UInt8} {j : Nat} (h : placeL l w ≤ j) (hj : j < l.length) : ¬ l[j]?.getD [] < w := by
  have := firstAt_ge (notBelow_mono ha w) h hj
  simpa [notBelow] using this
theorem drop_at (l : List (List UInt8)) (p j : Nat) : (l.drop p)[j]?.getD [] = l[p + j]?.getD [] := by rw [List.getElem?_drop]
theorem asc_drop {l : List (List UInt8)} (h : Asc l) (p : Nat) : Asc (l.drop p) := h.sublist (List.drop_sublist _ _)
/-- What a search answers: the place of the first word that is not ahead of w, and of the first one from there on that q holds of. -/
def stA (l : List (List UInt8)) (w : List UInt8) : Nat := if RightL l then placeL l w else 0
def stB (q : List UInt8 → Bool) (l : List (List UInt8)) (w : List UInt8) : Nat := if RightL l then placeL l w + firstAt q (l.drop (placeL l w)) else 0
/-- Another word than w; one that does not begin with w; one behind w. -/
def other (w x : List UInt8) : Bool := !decide (x = w)
def begins (w x : List UInt8) : Bool := decide (w <+: x)
def parts (w x : List UInt8) : Bool := !begins w x
def behind (w x : List UInt8) : Bool := decide (w < x)
/-- Between a beginning and a word that begins with it all begin with it. -/
theorem begins_down : ∀ {w x y : List UInt8}, ¬ x < w → ¬ y < x → w <+: y → w <+: x
  | [], _, _, _, _, _ => List.nil_prefix
  | a :: w, [], y, h, _, _ => absurd (List.nil_lt_cons a w) h
  | a :: w, b :: x, [], _, _, h => by simp at h
  | a :: w, b :: x, c :: y, h1, h2, h3 => by
    rw [List.cons_prefix_cons] at h3 ⊢
    obtain ⟨rfl, h3⟩ := h3
    rw [List.cons_lt_cons_iff] at h1 h2
    have e : a = b := by
      have k1 : ¬ b < a := fun e => h1 (.inl e)
      have k2 : ¬ a < b := fun e => h2 (.inl e)
      exact UInt8.le_antisymm (UInt8.not_lt.1 k1) (UInt8.not_lt.1 k2)
    subst e
    exact ⟨rfl, begins_down (fun k => h1 (.inr ⟨rfl, k⟩)) (fun k => h2 (.inr ⟨rfl, k⟩)) h3⟩
section
variable {l : List (List UInt8)} (ha : Asc l) (w : List UInt8)
include ha
theorem mono_of {q : List UInt8 → Bool} {p : Nat} (h : ∀ x y, x ∈ l.drop p → y ∈ l.drop p → x < y → q x = true → q y = true) : Mono q (l.drop p) := by
  intro i j hij hj hi
  by_cases e : i = j
  · rw [← e]; exact hi
  · exact h _ _ (getD_mem (by omega)) (getD_mem hj) (asc_iff.1 (asc_drop ha p) i j (by omega) hj) hi
theorem mem_drop_place {x : List UInt8} (hx : x ∈ l.drop (placeL l w)) : ¬ x < w := by
  obtain ⟨j, hj, rfl⟩ := mem_getD hx
  rw [drop_at]
  exact place_below ha (Nat.le_add_right _ _) (by rw [List.length_drop] at hj; omega)
theorem other_mono : Mono (other w) (l.drop (placeL l w)) := mono_of ha fun x y hx hy hxy h => by
  simp only [other, Bool.not_eq_true', decide_eq_false_iff_not] at h ⊢
  exact fun e => mem_drop_place ha w hx (by rw [← e]; exact hxy)
theorem parts_mono : Mono (parts w) (l.drop (placeL l w)) := mono_of ha fun x y hx hy hxy h => by
  simp only [parts, begins, Bool.not_eq_true', decide_eq_false_iff_not] at h ⊢
  exact fun e => h (begins_down (mem_drop_place ha w hx) (w_asymm hxy) e)
theorem behind_mono (t : List UInt8) : Mono (behind t) (l.drop (placeL l w)) := mono_of ha fun x y hx hy hxy h => by
  simp only [behind, decide_eq_true_eq] at h ⊢
  exact w_trans h hxy
end
end Go.Proofs.YthoegicchjadaaaDoor
