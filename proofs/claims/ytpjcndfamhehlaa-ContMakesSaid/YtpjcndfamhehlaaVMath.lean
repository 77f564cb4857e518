/- Varints as lists of bytes: plain mathematics, without the program. -/
namespace Go.Proofs.Ytpjcndfamhehlaa

/-- The bytes of n's varint. -/
def vput (n : Nat) : List UInt8 :=
  if n < 128 then [UInt8.ofNat n] else UInt8.ofNat (128 + n % 128) :: vput (n / 128)
termination_by n
decreasing_by omega

/-- The number of bytes, seven binary digits each, the least ones first. -/
def digs : List UInt8 → Nat
  | [] => 0
  | b :: r => b.toNat % 128 + 128 * digs r

/-- Each byte but the last one is 128 or more; the last one is less, and is not 0 where another one is ahead of it. -/
def Canon : List UInt8 → Prop
  | [] => False
  | [b] => b.toNat < 128
  | b :: c :: r => 128 ≤ b.toNat ∧ Canon (c :: r) ∧ c :: r ≠ [0]

theorem ofNat_toNat (n : Nat) (h : n < 256) : (UInt8.ofNat n).toNat = n := by simp; omega
theorem vput_lo {n : Nat} (h : n < 128) : vput n = [UInt8.ofNat n] := by rw [vput, if_pos h]
theorem vput_hi {n : Nat} (h : ¬ n < 128) : vput n = UInt8.ofNat (128 + n % 128) :: vput (n / 128) := by rw [vput, if_neg h]
theorem vput_ne (n : Nat) : vput n ≠ [] := by
  by_cases h : n < 128
  · rw [vput_lo h]; simp
  · rw [vput_hi h]; simp
theorem vput_ne0 {n : Nat} (h0 : 0 < n) : vput n ≠ [0] := by
  by_cases h : n < 128
  · rw [vput_lo h]
    intro e
    have := congrArg (fun l : List UInt8 => (l.headD 0).toNat) e
    simp at this
    omega
  · rw [vput_hi h]
    intro e
    have := vput_ne (n / 128)
    simp at e
    exact this e.2

theorem canon_put (n : Nat) : Canon (vput n) := by
  induction n using Nat.strongRecOn with
  | _ n ih =>
    by_cases h : n < 128
    · rw [vput_lo h]
      show (UInt8.ofNat n).toNat < 128
      rw [ofNat_toNat n (by omega)]; exact h
    · have hr := ih (n / 128) (by omega)
      have h0 := vput_ne0 (n := n / 128) (by omega)
      rw [vput_hi h]
      cases e : vput (n / 128) with
      | nil => exact absurd e (vput_ne _)
      | cons c r =>
        rw [e] at hr h0
        refine ⟨?_, hr, h0⟩
        rw [ofNat_toNat _ (by omega)]; omega

theorem digs_put (n : Nat) : digs (vput n) = n := by
  induction n using Nat.strongRecOn with
  | _ n ih =>
    by_cases h : n < 128
    · rw [vput_lo h]
      simp only [digs]
      rw [ofNat_toNat n (by omega)]; omega
    · rw [vput_hi h]
      simp only [digs]
      rw [ofNat_toNat _ (by omega), ih _ (by omega)]; omega

theorem digs_pos {c : UInt8} {r : List UInt8} : Canon (c :: r) → c :: r ≠ [0] → 0 < digs (c :: r) := by
  induction r generalizing c with
  | nil =>
    intro hc hne
    have : c.toNat ≠ 0 := fun e => hne (by rw [← UInt8.toNat_inj.1 (show c.toNat = (0 : UInt8).toNat from e)])
    have h1 : c.toNat < 128 := hc
    simp only [digs]
    omega
  | cons d r ih =>
    intro hc _
    have := ih hc.2.1 hc.2.2
    simp only [digs] at this ⊢
    omega

theorem put_digs {p : List UInt8} : Canon p → vput (digs p) = p := by
  induction p with
  | nil => intro h; exact h.elim
  | cons b r ih =>
    intro h
    cases r with
    | nil =>
      have hb : b.toNat < 128 := h
      have e : digs [b] = b.toNat := by simp only [digs]; omega
      rw [e, vput_lo hb, UInt8.ofNat_toNat]
    | cons c r =>
      have h1 := ih h.2.1
      have h0 := digs_pos h.2.1 h.2.2
      have hb := h.1
      have hb2 := b.toNat_lt
      have e : digs (b :: c :: r) = b.toNat % 128 + 128 * digs (c :: r) := rfl
      have e1 : (b.toNat % 128 + 128 * digs (c :: r)) / 128 = digs (c :: r) := by omega
      have e2 : 128 + (b.toNat % 128 + 128 * digs (c :: r)) % 128 = b.toNat := by omega
      rw [e, vput_hi (by omega), e1, e2, h1, UInt8.ofNat_toNat]

theorem digs_append (a b : List UInt8) : digs (a ++ b) = digs a + 128 ^ a.length * digs b := by
  induction a with
  | nil => simp [digs]
  | cons x a ih => simp only [List.cons_append, digs, List.length_cons, ih, Nat.pow_succ]; rw [Nat.mul_add]; rw [← Nat.mul_assoc, Nat.mul_comm 128 (128 ^ a.length)]; omega
theorem digs_lt (a : List UInt8) : digs a < 128 ^ a.length := by
  induction a with
  | nil => simp [digs]
  | cons x a ih => simp only [digs, List.length_cons, Nat.pow_succ]; omega

/-- 128 or more. -/
def hiB (b : UInt8) : Bool := decide (128 ≤ b.toNat)
theorem canon_iff {hs : List UInt8} {b : UInt8} (hh : ∀ x ∈ hs, 128 ≤ x.toNat) (hb : b.toNat < 128) : Canon (hs ++ [b]) ↔ (hs = [] ∨ b.toNat ≠ 0) := by
  induction hs with
  | nil => exact ⟨fun _ => .inl rfl, fun _ => hb⟩
  | cons x hs ih =>
    have ih := ih (fun y hy => hh y (List.mem_cons_of_mem _ hy))
    have hx := hh x (List.mem_cons_self ..)
    have hz : b.toNat = 0 ↔ b = 0 := ⟨fun e => UInt8.toNat_inj.1 (show b.toNat = (0 : UInt8).toNat from e), fun e => by rw [e]; rfl⟩
    cases hs with
    | nil =>
      show (128 ≤ x.toNat ∧ Canon [b] ∧ [b] ≠ [0]) ↔ _
      simp only [Canon]
      constructor
      · rintro ⟨_, _, h⟩; exact .inr (fun e => h (by rw [hz.1 e]))
      · rintro (h | h)
        · cases h
        · exact ⟨hx, hb, fun e => h (hz.2 (by simpa using e))⟩
    | cons y hs =>
      show (128 ≤ x.toNat ∧ Canon (y :: (hs ++ [b])) ∧ y :: (hs ++ [b]) ≠ [0]) ↔ _
      have ih : Canon (y :: (hs ++ [b])) ↔ _ := ih
      rw [ih]
      constructor
      · rintro ⟨_, h | h, _⟩
        · cases h
        · exact .inr h
      · rintro (h | h)
        · cases h
        · refine ⟨hx, .inr h, by simp⟩

/-- How many bytes at the head are 128 or more. -/
def heads (s : List UInt8) : Nat := (s.takeWhile hiB).length
/-- Does a number's varint stand at the head of s, whose first byte below 128 is at k? -/
def Fits (p : List UInt8) : Prop := vput (digs p % 18446744073709551616) = p
instance (p : List UInt8) : Decidable (Fits p) := by unfold Fits; infer_instance
/-- What is told of the varint at the head of s: 0, or the number of what is wrong. -/
def vcode (s : List UInt8) : Int :=
  if heads (s.take 10) = (s.take 10).length then (if s.length < 10 then 21 else 20)
  else if Fits (s.take (heads (s.take 10) + 1)) then 0 else 20
def vsize (s : List UInt8) : Nat := if vcode s = 0 then heads (s.take 10) + 1 else 0
def vnum (s : List UInt8) : Nat := digs (s.take (vsize s))

theorem fits_iff {p : List UInt8} : Fits p ↔ Canon p ∧ digs p < 18446744073709551616 := by
  unfold Fits
  constructor
  · intro h
    have hc := canon_put (digs p % 18446744073709551616)
    have hd := digs_put (digs p % 18446744073709551616)
    rw [h] at hc hd
    refine ⟨hc, ?_⟩
    omega
  · rintro ⟨hc, hd⟩
    rw [Nat.mod_eq_of_lt hd, put_digs hc]

theorem heads_le (s : List UInt8) : heads s ≤ s.length := by
  unfold heads
  induction s with
  | nil => simp
  | cons b s ih => rw [List.takeWhile_cons]; split <;> simp; omega
theorem heads_hi (s : List UInt8) : ∀ k, k < heads s → 128 ≤ (s.getD k 0).toNat := by
  unfold heads
  induction s with
  | nil => intro k hk; simp at hk
  | cons b s ih =>
    intro k hk
    rw [List.takeWhile_cons] at hk
    split at hk
    · rename_i h
      cases k with
      | zero => simpa [hiB] using h
      | succ k => simpa using ih k (by simpa using hk)
    · simp at hk
theorem heads_lo (s : List UInt8) (h : heads s < s.length) : (s.getD (heads s) 0).toNat < 128 := by
  unfold heads at h ⊢
  induction s with
  | nil => simp at h
  | cons b s ih =>
    rw [List.takeWhile_cons] at h ⊢
    split at h
    · rename_i hb
      rw [if_pos hb]
      simpa using ih (by simpa using h)
    · rename_i hb
      rw [if_neg hb]
      simp [hiB] at hb
      simpa using hb
theorem heads_eq {s : List UInt8} {k : Nat} (hk : k ≤ s.length) (h : ∀ j, j < k → 128 ≤ (s.getD j 0).toNat) (hl : k < s.length → (s.getD k 0).toNat < 128) : heads s = k := by
  rcases Nat.lt_trichotomy (heads s) k with h1 | h1 | h1
  · have := h _ h1
    have := heads_lo s (by omega)
    omega
  · exact h1
  · have := heads_hi s k h1
    have := heads_le s
    have := hl (by omega)
    omega
theorem getD_take {s : List UInt8} {j n : Nat} (h : j < n) : (s.take n).getD j 0 = s.getD j 0 := by
  simp [List.getD, h]

/-- The first byte below 128 of the first ten is at k: what the code is. -/
theorem vcode_at {s : List UInt8} {k : Nat} (hk : k < 10) (hs : k < s.length) (h : ∀ j, j < k → 128 ≤ (s.getD j 0).toNat) (hl : (s.getD k 0).toNat < 128) :
    heads (s.take 10) = k ∧ vcode s = if Fits (s.take (k + 1)) then 0 else 20 := by
  have e : heads (s.take 10) = k := heads_eq (by simp; omega) (fun j hj => by rw [getD_take (by omega)]; exact h j hj) (fun _ => by rw [getD_take (by omega)]; exact hl)
  refine ⟨e, ?_⟩
  unfold vcode
  rw [e, if_neg (by simp; omega)]
/-- None of the first ten is below 128. -/
theorem vcode_none {s : List UInt8} (h : ∀ j, j < 10 → j < s.length → 128 ≤ (s.getD j 0).toNat) : vcode s = if s.length < 10 then 21 else 20 := by
  have e : heads (s.take 10) = (s.take 10).length := heads_eq (Nat.le_refl _) (fun j hj => by simp at hj; rw [getD_take (by omega)]; exact h j (by omega) (by omega)) (fun h => absurd h (Nat.lt_irrefl _))
  unfold vcode
  rw [if_pos e]
theorem vcode_cases (s : List UInt8) : vcode s = 0 ∨ vcode s = 20 ∨ vcode s = 21 := by
  unfold vcode
  split
  · split <;> simp
  · split <;> simp

/-- The parts of a varint: bytes of 128 or more, and one below. -/
theorem canon_parts : ∀ {p : List UInt8}, Canon p → (∀ j, j + 1 < p.length → 128 ≤ (p.getD j 0).toNat) ∧ 0 < p.length ∧ (p.getD (p.length - 1) 0).toNat < 128
  | [], h => h.elim
  | [b], h => ⟨fun j hj => by simp at hj, by simp, h⟩
  | b :: c :: r, h => by
    obtain ⟨h1, h2, h3⟩ := canon_parts h.2.1
    refine ⟨fun j hj => ?_, by simp, by simpa using h3⟩
    cases j with
    | zero => exact h.1
    | succ j => simpa using h1 j (by simpa using hj)
theorem length_put_le {n k : Nat} (h : n < 128 ^ (k + 1)) : (vput n).length ≤ k + 1 := by
  induction k generalizing n with
  | zero => rw [vput_lo (by simpa using h)]; simp
  | succ k ih =>
    by_cases hn : n < 128
    · rw [vput_lo hn]; simp
    · rw [vput_hi hn]
      have := ih (n := n / 128) (by rw [Nat.pow_succ] at h; omega)
      simp; omega
theorem length_put {n : Nat} (h : n < 18446744073709551616) : (vput n).length ≤ 10 := length_put_le (k := 9) (by omega)
theorem length_put_pos (n : Nat) : 1 ≤ (vput n).length := by
  have := vput_ne n
  cases h : vput n with
  | nil => exact absurd h this
  | cons b r => simp
theorem length_mono {n m : Nat} (h : n ≤ m) : (vput n).length ≤ (vput m).length := by
  induction m using Nat.strongRecOn generalizing n with
  | _ m ih =>
    by_cases hm : m < 128
    · rw [vput_lo hm, vput_lo (by omega)]; simp
    · by_cases hn : n < 128
      · rw [vput_lo hn]; have := length_put_pos m; simpa using this
      · rw [vput_hi hm, vput_hi hn]
        have := ih (m / 128) (by omega) (n := n / 128) (by omega)
        simpa using this

theorem getD_app {p t : List UInt8} {j : Nat} (h : j < p.length) : (p ++ t).getD j 0 = p.getD j 0 := by
  simp [List.getD, List.getElem?_append, h]

/-- What is put is read again, whatever stands behind. -/
theorem put_get {n : Nat} (h : n < 18446744073709551616) (t : List UInt8) : vcode (vput n ++ t) = 0 ∧ vsize (vput n ++ t) = (vput n).length ∧ vnum (vput n ++ t) = n := by
  obtain ⟨h1, h2, h3⟩ := canon_parts (canon_put n)
  have hl := length_put h
  obtain ⟨e, ec⟩ := vcode_at (s := vput n ++ t) (k := (vput n).length - 1) (by omega) (by simp; omega) (fun j hj => by rw [getD_app (by omega)]; exact h1 j (by omega)) (by rw [getD_app (by omega)]; exact h3)
  have e1 : (vput n).length - 1 + 1 = (vput n).length := by omega
  rw [e1, List.take_left' rfl, if_pos (by unfold Fits; rw [digs_put, Nat.mod_eq_of_lt h])] at ec
  have es : vsize (vput n ++ t) = (vput n).length := by unfold vsize; rw [if_pos ec, e, e1]
  refine ⟨ec, es, ?_⟩
  unfold vnum
  rw [es, List.take_left' rfl, digs_put]
/-- Fewer bytes ask for more. -/
theorem put_more {n k : Nat} (h : n < 18446744073709551616) (hk : k < (vput n).length) : vcode ((vput n).take k) = 21 := by
  obtain ⟨h1, h2, h3⟩ := canon_parts (canon_put n)
  have hl := length_put h
  rw [vcode_none (fun j _ hj => by simp at hj; rw [getD_take (by omega)]; exact h1 j (by omega)), if_pos (by simp; omega)]
theorem vsize_err {s : List UInt8} (h : vcode s ≠ 0) : vsize s = 0 := by unfold vsize; rw [if_neg h]
theorem vnum_err {s : List UInt8} (h : vcode s ≠ 0) : vnum s = 0 := by unfold vnum; rw [vsize_err h]; rfl
theorem fits_of_code {s : List UInt8} (h : vcode s = 0) : Fits (s.take (vsize s)) := by
  have h' := h
  unfold vcode at h'
  unfold vsize
  rw [if_pos h]
  split at h'
  · split at h' <;> cases h'
  · split at h'
    · assumption
    · cases h'
theorem get_put {s : List UInt8} (h : vcode s = 0) : vput (vnum s) ++ s.drop (vsize s) = s := by
  obtain ⟨h1, h2⟩ := fits_iff.1 (fits_of_code h)
  unfold vnum
  rw [put_digs h1, List.take_append_drop]
theorem vnum_lt (s : List UInt8) : vnum s < 18446744073709551616 := by
  by_cases h : vcode s = 0
  · exact (fits_iff.1 (fits_of_code h)).2
  · rw [vnum_err h]; decide
theorem vsize_le (s : List UInt8) : vsize s ≤ s.length := by
  unfold vsize
  split
  · rename_i h
    have := heads_le (s.take 10)
    have h2 : heads (s.take 10) ≠ (s.take 10).length := fun e => by
      unfold vcode at h
      rw [if_pos e] at h
      split at h <;> cases h
    simp at this h2
    omega
  · omega
theorem vsize_10 (s : List UInt8) : vsize s ≤ 10 := by
  unfold vsize
  split
  · rename_i h
    have := heads_le (s.take 10)
    have h2 : heads (s.take 10) ≠ (s.take 10).length := fun e => by
      unfold vcode at h
      rw [if_pos e] at h
      split at h <;> cases h
    simp at this h2
    omega
  · omega
end Go.Proofs.Ytpjcndfamhehlaa
