/- Dictionaries' bytes, and dictionaries of bytes; words put in one by one: plain mathematics, without the program. -/
import Derived.Test.YthoegicchjadaaaDoorDMath
namespace Go.Proofs.YthoegicchjadaaaDoor

/-! ### What two words share -/
def sharedL : List UInt8 → List UInt8 → Nat
  | a :: x, b :: y => if a = b then sharedL x y + 1 else 0
  | _, _ => 0
theorem shared_nil (b : List UInt8) : sharedL [] b = 0 := by cases b <;> rfl
theorem shared_le : ∀ a b : List UInt8, sharedL a b ≤ a.length ∧ sharedL a b ≤ b.length
  | [], b => by simp [shared_nil]
  | a :: x, [] => by simp [sharedL]
  | a :: x, b :: y => by
    have := shared_le x y
    simp only [sharedL, List.length_cons]
    split <;> omega
theorem shared_eq : ∀ {a b : List UInt8} {k : Nat}, k ≤ a.length → k ≤ b.length → (∀ j, j < k → a.getD j 0 = b.getD j 0) → (k < a.length → k < b.length → a.getD k 0 ≠ b.getD k 0) → sharedL a b = k
  | [], b, k, h1, _, _, _ => by simp at h1; simp [shared_nil, h1]
  | a :: x, [], k, _, h2, _, _ => by simp at h2; simp [sharedL, h2]
  | a :: x, b :: y, 0, _, _, _, h => by
    have h := h (by simp) (by simp)
    simp at h
    simp [sharedL, h]
  | a :: x, b :: y, k + 1, h1, h2, h3, h4 => by
    have e : a = b := by simpa using h3 0 (by omega)
    have := shared_eq (a := x) (b := y) (k := k) (by simpa using h1) (by simpa using h2) (fun j hj => by simpa using h3 (j + 1) (by omega)) (fun k1 k2 => by simpa using h4 (by simpa using k1) (by simpa using k2))
    simp [sharedL, e, this]
theorem shared_take : ∀ a b : List UInt8, a.take (sharedL a b) = b.take (sharedL a b)
  | [], b => by simp [shared_nil]
  | a :: x, [] => by simp [sharedL]
  | a :: x, b :: y => by
    simp only [sharedL]
    split
    · rename_i e
      rw [List.take_succ_cons, List.take_succ_cons, shared_take x y, e]
    · rfl
/-- Behind the bytes that are shared the rest is the word's. -/
theorem shared_whole (a b : List UInt8) : a.take (sharedL a b) ++ b.drop (sharedL a b) = b := by rw [shared_take, List.take_append_drop]

/-! ### Bytes -/
def encW (last w : List UInt8) : List UInt8 := vput (sharedL last w) ++ (vput (w.length - sharedL last w) ++ w.drop (sharedL last w))
def encAll : List UInt8 → List (List UInt8) → List UInt8
  | _, [] => []
  | last, w :: r => encW last w ++ encAll w r
def encD (l : List (List UInt8)) : List UInt8 := vput l.length ++ encAll [] l
/-- The word ahead of place k; none is ahead of the first one. -/
def prevW (l : List (List UInt8)) (k : Nat) : List UInt8 := if k = 0 then [] else l[k - 1]?.getD []
theorem prevW_zero (l : List (List UInt8)) : prevW l 0 = [] := rfl
theorem prevW_succ (l : List (List UInt8)) (k : Nat) : prevW l (k + 1) = l[k]?.getD [] := by simp [prevW]
theorem encAll_snoc (last : List UInt8) (l : List (List UInt8)) (w : List UInt8) : encAll last (l ++ [w]) = encAll last l ++ encW (l.getLastD last) w := by
  induction l generalizing last with
  | nil => simp [encAll]
  | cons x l ih =>
    rw [List.cons_append, encAll, ih, encAll, List.append_assoc, List.getLastD_cons]
theorem take_next {l : List (List UInt8)} {k : Nat} (h : k < l.length) : l.take (k + 1) = l.take k ++ [l[k]?.getD []] := by
  rw [List.take_succ_eq_append_getElem h, List.getElem?_eq_getElem h]; rfl
theorem last_take {l : List (List UInt8)} {k : Nat} (h : k ≤ l.length) : (l.take k).getLastD [] = prevW l k := by
  cases k with
  | zero => rfl
  | succ k => rw [take_next (by omega), prevW_succ]; simp
theorem encAll_next {l : List (List UInt8)} {k : Nat} (h : k < l.length) : encAll [] (l.take (k + 1)) = encAll [] (l.take k) ++ encW (prevW l k) (l[k]?.getD []) := by
  rw [take_next h, encAll_snoc, last_take (by omega)]
theorem encW_length {last w : List UInt8} (h : w.length ≤ 1000000) : (encW last w).length ≤ w.length + 20 := by
  have h1 := (shared_le last w).2
  have a := length_put (n := sharedL last w) (by omega)
  have b := length_put (n := w.length - sharedL last w) (by omega)
  unfold encW
  rw [List.length_append, List.length_append, List.length_drop]
  omega
theorem encAll_length {l : List (List UInt8)} (h : ∀ x ∈ l, x.length ≤ 100) : ∀ last, (encAll last l).length ≤ 120 * l.length := by
  induction l with
  | nil => intro _; simp [encAll]
  | cons w l ih =>
    intro last
    have a := h w (List.mem_cons_self ..)
    have b := encW_length (last := last) (w := w) (by omega)
    have c := ih (fun x hx => h x (List.mem_cons_of_mem _ hx)) w
    rw [encAll, List.length_append, List.length_cons]
    omega
theorem encD_length {l : List (List UInt8)} (h : RightL l) : (encD l).length ≤ 120010 := by
  have a := encAll_length (l := l) (fun x hx => right_len h hx) []
  have := h.1
  have b := length_put (n := l.length) (by omega)
  unfold encD
  rw [List.length_append]
  omega

/-! ### Dictionaries of bytes -/
/-- What stands behind a number; what is told of the word behind the word 'last': 0, or the number of what is wrong; that word; what stands behind it. -/
def vrest (s : List UInt8) : List UInt8 := s.drop (vsize s)
def wc (last s : List UInt8) : Int :=
  if vcode s ≠ 0 then vcode s else if last.length < vnum s then 50
  else if vcode (vrest s) ≠ 0 then vcode (vrest s) else if 100 < vnum s + vnum (vrest s) then 50
  else if (vrest (vrest s)).length < vnum (vrest s) then 21 else 0
def ww (last s : List UInt8) : List UInt8 := last.take (vnum s) ++ (vrest (vrest s)).take (vnum (vrest s))
def wrr (s : List UInt8) : List UInt8 := (vrest (vrest s)).drop (vnum (vrest s))
def rcodes : Nat → List UInt8 → List UInt8 → Int
  | 0, _, _ => 0
  | n + 1, last, s => if wc last s = 0 then rcodes n (ww last s) (wrr s) else wc last s
def rlist : Nat → List UInt8 → List UInt8 → List (List UInt8)
  | 0, _, _ => []
  | n + 1, last, s => if wc last s = 0 then ww last s :: rlist n (ww last s) (wrr s) else []
def rrests : Nat → List UInt8 → List UInt8 → List UInt8
  | 0, _, s => s
  | n + 1, last, s => if wc last s = 0 then rrests n (ww last s) (wrr s) else s
/-- The words are right, and these are their bytes. -/
def dok (s : List UInt8) : Prop := RightL (rlist (vnum s) [] (vrest s)) ∧ encD (rlist (vnum s) [] (vrest s)) = s.take (s.length - (rrests (vnum s) [] (vrest s)).length)
instance (s : List UInt8) : Decidable (dok s) := by unfold dok; infer_instance
/-- What is told of the dictionary that s begins with: 0, or the number of what is wrong; its words; what stands behind. -/
def dcode (s : List UInt8) : Int :=
  if vcode s ≠ 0 then vcode s else if 1000 < vnum s then 50
  else if rcodes (vnum s) [] (vrest s) ≠ 0 then rcodes (vnum s) [] (vrest s) else if dok s then 0 else 50
def dlist (s : List UInt8) : List (List UInt8) := if dcode s = 0 then rlist (vnum s) [] (vrest s) else []
def drest (s : List UInt8) : List UInt8 := if dcode s = 0 then rrests (vnum s) [] (vrest s) else s

theorem wc_cases (last s : List UInt8) : wc last s = 0 ∨ wc last s = 20 ∨ wc last s = 21 ∨ wc last s = 50 := by
  have a := vcode_cases s
  have b := vcode_cases (vrest s)
  unfold wc
  repeat' split
  all_goals first | omega | simp
theorem rcodes_cases : ∀ n last s, rcodes n last s = 0 ∨ rcodes n last s = 20 ∨ rcodes n last s = 21 ∨ rcodes n last s = 50
  | 0, _, _ => .inl rfl
  | n + 1, last, s => by
    rw [rcodes]
    split
    · exact rcodes_cases n _ _
    · exact wc_cases last s
theorem dcode_cases (s : List UInt8) : dcode s = 0 ∨ dcode s = 20 ∨ dcode s = 21 ∨ dcode s = 50 := by
  have a := vcode_cases s
  have b := rcodes_cases (vnum s) [] (vrest s)
  unfold dcode
  repeat' split
  all_goals first | omega | simp
theorem ww_length {last s : List UInt8} (h : wc last s = 0) : (ww last s).length ≤ 100 := by
  have a := vcode_cases s
  have b := vcode_cases (vrest s)
  have e : vnum s + vnum (vrest s) ≤ 100 := by
    unfold wc at h
    repeat' split at h
    all_goals first | omega | skip
  unfold ww
  rw [List.length_append, List.length_take, List.length_take]
  omega
theorem rlist_length : ∀ n last s, (rlist n last s).length ≤ n
  | 0, _, _ => Nat.le_refl _
  | n + 1, last, s => by
    rw [rlist]
    split
    · have := rlist_length n (ww last s) (wrr s); simpa using this
    · simp
theorem rlist_short : ∀ n last s, ∀ x ∈ rlist n last s, x.length ≤ 100
  | 0, _, _, x, h => by simp [rlist] at h
  | n + 1, last, s, x, h => by
    rw [rlist] at h
    split at h
    · rename_i e
      rcases List.mem_cons.1 h with rfl | h
      · exact ww_length e
      · exact rlist_short n _ _ x h
    · cases h
/-- What stands behind is the end of what stood ahead. -/
theorem wrr_suffix (s : List UInt8) : wrr s <:+ s := (List.drop_suffix _ _).trans ((List.drop_suffix _ _).trans (List.drop_suffix _ _))
theorem rrests_suffix : ∀ n last s, rrests n last s <:+ s
  | 0, _, _ => List.suffix_refl _
  | n + 1, last, s => by
    rw [rrests]
    split
    · exact (rrests_suffix n _ _).trans (wrr_suffix s)
    · exact List.suffix_refl _
theorem suffix_take {r s : List UInt8} (h : r <:+ s) : s.take (s.length - r.length) ++ r = s := by
  obtain ⟨p, rfl⟩ := h
  rw [List.length_append, Nat.add_sub_cancel, List.take_left' rfl]
theorem drest_suffix (s : List UInt8) : rrests (vnum s) [] (vrest s) <:+ s := (rrests_suffix _ _ _).trans (List.drop_suffix _ _)

/-- A dictionary of bytes: its own bytes, and what stands behind them. -/
theorem dec_enc {s : List UInt8} (h : dcode s = 0) : RightL (dlist s) ∧ encD (dlist s) ++ drest s = s := by
  have hd : dok s := by
    have a := vcode_cases s
    have b := rcodes_cases (vnum s) [] (vrest s)
    unfold dcode at h
    repeat' split at h
    all_goals first | omega | assumption
  unfold dlist drest
  rw [if_pos h, if_pos h]
  exact ⟨hd.1, by rw [hd.2]; exact suffix_take (drest_suffix s)⟩

/-- A word's bytes are read again. -/
theorem word_enc {last w : List UInt8} (hw : w.length ≤ 100) (t : List UInt8) : wc last (encW last w ++ t) = 0 ∧ ww last (encW last w ++ t) = w ∧ wrr (encW last w ++ t) = t := by
  have hs := shared_le last w
  obtain ⟨a1, a2, a3⟩ := put_get (n := sharedL last w) (by omega) (vput (w.length - sharedL last w) ++ w.drop (sharedL last w) ++ t)
  obtain ⟨b1, b2, b3⟩ := put_get (n := w.length - sharedL last w) (by omega) (w.drop (sharedL last w) ++ t)
  have e : encW last w ++ t = vput (sharedL last w) ++ (vput (w.length - sharedL last w) ++ w.drop (sharedL last w) ++ t) := by unfold encW; simp only [List.append_assoc]
  have r1 : vrest (encW last w ++ t) = vput (w.length - sharedL last w) ++ (w.drop (sharedL last w) ++ t) := by
    unfold vrest
    rw [e, a2, List.drop_left' rfl, List.append_assoc]
  have r2 : vrest (vrest (encW last w ++ t)) = w.drop (sharedL last w) ++ t := by
    rw [r1]
    unfold vrest
    rw [b2, List.drop_left' rfl]
  rw [← e] at a1 a3
  rw [← r1] at b1 b3
  have hl : (w.drop (sharedL last w)).length = w.length - sharedL last w := List.length_drop
  refine ⟨?_, ?_, ?_⟩
  · unfold wc
    rw [r2, a1, a3, b1, b3, if_neg (by simp), if_neg (by omega), if_neg (by simp), if_neg (by omega), if_neg (by rw [List.length_append, hl]; omega)]
  · unfold ww
    rw [r2, a3, b3, List.take_left' hl, shared_whole]
  · unfold wrr
    rw [r2, b3, List.drop_left' hl]
theorem words_enc : ∀ (l : List (List UInt8)) (last t : List UInt8), (∀ x ∈ l, x.length ≤ 100) → rcodes l.length last (encAll last l ++ t) = 0 ∧ rlist l.length last (encAll last l ++ t) = l ∧ rrests l.length last (encAll last l ++ t) = t
  | [], _, _, _ => ⟨rfl, rfl, rfl⟩
  | w :: l, last, t, h => by
    obtain ⟨a1, a2, a3⟩ := word_enc (last := last) (h w (List.mem_cons_self ..)) (encAll w l ++ t)
    have ih := words_enc l w t (fun x hx => h x (List.mem_cons_of_mem _ hx))
    rw [encAll, List.append_assoc, List.length_cons, rcodes, rlist, rrests, a1, a2, a3, if_pos rfl, if_pos rfl, if_pos rfl]
    exact ⟨ih.1, by rw [ih.2.1], ih.2.2⟩
/-- A dictionary's bytes are its own, whatever stands behind. -/
theorem enc_dec {l : List (List UInt8)} (h : RightL l) (t : List UInt8) : dcode (encD l ++ t) = 0 ∧ dlist (encD l ++ t) = l ∧ drest (encD l ++ t) = t := by
  have h1 := h.1
  obtain ⟨a1, a2, a3⟩ := put_get (n := l.length) (by omega) (encAll [] l ++ t)
  obtain ⟨b1, b2, b3⟩ := words_enc l [] t (fun x hx => right_len h hx)
  have e : encD l ++ t = vput l.length ++ (encAll [] l ++ t) := by unfold encD; rw [List.append_assoc]
  have r1 : vrest (encD l ++ t) = encAll [] l ++ t := by unfold vrest; rw [e, a2, List.drop_left' rfl]
  rw [← e] at a1 a3
  have hk : dok (encD l ++ t) := by
    unfold dok
    rw [a3, r1, b2, b3, List.length_append, Nat.add_sub_cancel, List.take_left' rfl]
    exact ⟨h, rfl⟩
  have hc : dcode (encD l ++ t) = 0 := by
    unfold dcode
    rw [a1, a3, r1, b1, if_neg (by simp), if_neg (by omega), if_neg (by simp), if_pos hk]
  refine ⟨hc, ?_, ?_⟩
  · unfold dlist; rw [if_pos hc, a3, r1, b2]
  · unfold drest; rw [if_pos hc, a3, r1, b3]

/-! ### Words put in one by one -/
def insW (out : List (List UInt8)) (w : List UInt8) : List (List UInt8) := if w ∈ out then out else out.take (placeL out w) ++ w :: out.drop (placeL out w)
theorem mem_insW {out : List (List UInt8)} {w x : List UInt8} : x ∈ insW out w ↔ x = w ∨ x ∈ out := by
  unfold insW
  split
  · rename_i h
    exact ⟨.inr, fun k => k.elim (fun e => by rw [e]; exact h) id⟩
  · rw [List.mem_append, List.mem_cons]
    constructor
    · rintro (h | h | h)
      · exact .inr (List.mem_of_mem_take h)
      · exact .inl h
      · exact .inr (List.mem_of_mem_drop h)
    · rintro (h | h)
      · exact .inr (.inl h)
      · rw [← List.take_append_drop (placeL out w) out, List.mem_append] at h
        exact h.elim .inl (fun k => .inr (.inr k))
theorem mem_take_place {l : List (List UInt8)} {w x : List UInt8} (h : x ∈ l.take (placeL l w)) : x < w := by
  obtain ⟨j, hj, rfl⟩ := mem_getD h
  rw [List.length_take] at hj
  have : j < placeL l w := by omega
  rw [List.getElem?_take, if_pos this]
  exact below_place this
theorem insW_asc {out : List (List UInt8)} (h : Asc out) (w : List UInt8) : Asc (insW out w) := by
  unfold insW
  split
  · exact h
  · rename_i hn
    have hb : ∀ x ∈ out.drop (placeL out w), w < x := fun x hx => by
      by_cases e : w < x
      · exact e
      · exact absurd (w_eq e (mem_drop_place h w hx)) (fun e => hn (by rw [e]; exact List.mem_of_mem_drop hx))
    unfold Asc at h ⊢
    rw [List.pairwise_append]
    refine ⟨h.sublist (List.take_sublist _ _), List.pairwise_cons.2 ⟨hb, h.sublist (List.drop_sublist _ _)⟩, fun a ha b hb' => ?_⟩
    have := mem_take_place ha
    rcases List.mem_cons.1 hb' with rfl | hb'
    · exact this
    · exact w_trans this (hb b hb')
def insAll (l : List (List UInt8)) : List (List UInt8) := l.foldl insW []
theorem insAll_snoc (l : List (List UInt8)) (w : List UInt8) : insAll (l ++ [w]) = insW (insAll l) w := by simp [insAll]
theorem insAll_spec (l : List (List UInt8)) : Asc (insAll l) ∧ ∀ x, x ∈ insAll l ↔ x ∈ l := by
  have key : ∀ (l out : List (List UInt8)), Asc out → Asc (l.foldl insW out) ∧ ∀ x, x ∈ l.foldl insW out ↔ x ∈ l ∨ x ∈ out := by
    intro l
    induction l with
    | nil => intro out h; exact ⟨h, fun x => by simp⟩
    | cons w l ih =>
      intro out h
      obtain ⟨a, b⟩ := ih (insW out w) (insW_asc h w)
      refine ⟨a, fun x => ?_⟩
      rw [List.foldl_cons, b, mem_insW, List.mem_cons]
      constructor
      · rintro (h | h | h)
        · exact .inl (.inr h)
        · exact .inl (.inl h)
        · exact .inr h
      · rintro ((h | h) | h)
        · exact .inr (.inl h)
        · exact .inl h
        · exact .inr (.inr h)
  obtain ⟨a, b⟩ := key l [] List.Pairwise.nil
  exact ⟨a, fun x => by rw [insAll, b]; simp⟩
theorem insAll_eq (l : List (List UInt8)) : insAll l = uniq l := asc_ext (insAll_spec l).1 (uniq_asc l) fun x => by rw [(insAll_spec l).2, mem_uniq]
/-- The place of a word that is there, in a rising list. -/
theorem place_mem {l : List (List UInt8)} (h : Asc l) {w : List UInt8} (hw : w ∈ l) : placeL l w < l.length ∧ l[placeL l w]?.getD [] = w := by
  obtain ⟨j, hj, e⟩ := mem_getD hw
  have hp : placeL l w = j := firstAt_eq (by omega) (fun i hi => by
    have := asc_iff.1 h i j hi hj
    rw [e] at this
    simpa [notBelow] using this) (fun _ => by
    rw [e]
    simp [notBelow])
  exact ⟨by omega, by rw [hp, e]⟩
end Go.Proofs.YthoegicchjadaaaDoor
