
/- Varints as lists of bytes: plain mathematics, without the program. -/
namespace Go.Proofs.YtbfchlfagdhglaaDoor

/-- The bytes of n's varint. -/
def vput (n : Nat) : List UInt8 :=
  if n < 128 then [UInt8.ofNat n] else UInt8.ofNat (128 + n % 128) :: vput (n / 128)
termination_by n
decreasing_by omega

/-- The number of bytes, seven binary digits each, the least ones first. -/
def digs : List UInt8 → Nat
  | [] => 0
  | b :: r => b.toNat % 128 + 128 * digs r

/-- Each byte but the last one is 128 or more; the last one is less, and is not 0 where another one is ahead of it. -/
def Canon : List UInt8 → Prop
  | [] => False
  | [b] => b.toNat < 128
  | b :: c :: r => 128 ≤ b.toNat ∧ Canon (c :: r) ∧ c :: r ≠ [0]

theorem ofNat_toNat (n : Nat) (h : n < 256) : (UInt8.ofNat n).toNat = n := by simp; omega
theorem vput_lo {n : Nat} (h : n < 128) : vput n = [UInt8.ofNat n] := by rw [vput, if_pos h]
theorem vput_hi {n : Nat} (h : ¬ n < 128) : vput n = UInt8.ofNat (128 + n % 128) :: vput (n / 128) := by rw [vput, if_neg h]
theorem vput_ne (n : Nat) : vput n ≠ [] := by
  by_cases h : n < 128
  · rw [vput_lo h]; simp
  · rw [vput_hi h]; simp
theorem vput_ne0 {n : Nat} (h0 : 0 < n) : vput n ≠ [0] := by
  by_cases h : n < 128
  · rw [vput_lo h]
    intro e
    have := congrArg (fun l : List UInt8 => (l.headD 0).toNat) e
    simp at this
    omega
  · rw [vput_hi h]
    intro e
    have := vput_ne (n / 128)
    simp at e
    exact this e.2

theorem canon_put (n : Nat) : Canon (vput n) := by
  induction n using Nat.strongRecOn with
  | _ n ih =>
    by_cases h : n < 128
    · rw [vput_lo h]
      show (UInt8.ofNat n).toNat < 128
      rw [ofNat_toNat n (by omega)]; exact h
    · have hr := ih (n / 128) (by omega)
      have h0 := vput_ne0 (n := n / 128) (by omega)
      rw [vput_hi h]
      cases e : vput (n / 128) with
      | nil => exact absurd e (vput_ne _)
      | cons c r =>
        rw [e] at hr h0
        refine ⟨?_, hr, h0⟩
        rw [ofNat_toNat _ (by omega)]; omega

theorem digs_put (n : Nat) : digs (vput n) = n := by
  induction n using Nat.strongRecOn with
  | _ n ih =>
    by_cases h : n < 128
    · rw [vput_lo h]
      simp only [digs]
      rw [ofNat_toNat n (by omega)]; omega
    · rw [vput_hi h]
      simp only [digs]
      rw [ofNat_toNat _ (by omega), ih _ (by omega)]; omega

theorem digs_pos {c : UInt8} {r : List UInt8} : Canon (c :: r) → c :: r ≠ [0] → 0 < digs (c :: r) := by
  induction r generalizing c with
  | nil =>
    intro hc hne
    have : c.toNat ≠ 0 := fun e => hne (by rw [← UInt8.toNat_inj.1 (show c.toNat = (0 : UInt8).toNat from e)])
    have h1 : c.toNat < 128 := hc
    simp only [digs]
    omega
  | cons d r ih =>
    intro hc _
    have := ih hc.2.1 hc.2.2
    simp only [digs] at this ⊢
    omega

theorem put_digs {p : List UInt8} : Canon p → vput (digs p) = p := by
  induction p with
  | nil => intro h; exact h.elim
  | cons b r ih =>
    intro h
    cases r with
    | nil =>
      have hb : b.toNat < 128 := h
      have e : digs [b] = b.toNat := by simp only [digs]; omega
      rw [e, vput_lo hb, UInt8.ofNat_toNat]
    | cons c r =>
      have h1 := ih h.2.1
      have h0 := digs_pos h.2.1 h.2.2
      have hb := h.1
      have hb2 := b.toNat_lt
      have e : digs (b :: c :: r) = b.toNat % 128 + 128 * digs (c :: r) := rfl
      have e1 : (b.toNat % 128 + 128 * digs (c :: r)) / 128 = digs (c :: r) := by omega
      have e2 : 128 + (b.toNat % 128 + 128 * digs (c :: r)) % 128 = b.toNat := by omega
      rw [e, vput_hi (by omega), e1, e2, h1, UInt8.ofNat_toNat]

theorem digs_append (a b : List UInt8) : digs (a ++ b) = digs a + 128 ^ a.length * digs b := by
  induction a with
  | nil => simp [digs]
  | cons x a ih => simp only [List.cons_append, digs, List.length_cons, ih, Nat.pow_succ]; rw [Nat.mul_add]; rw [← Nat.mul_assoc, Nat.mul_comm 128 (128 ^ a.length)]; omega
theorem digs_lt (a : List UInt8) : digs a < 128 ^ a.length := by
  induction a with
  | nil => simp [digs]
  | cons x a ih => simp only [digs, List.length_cons, Nat.pow_succ]; omega

/-- 128 or more. -/
def hiB (b : UInt8) : Bool := decide (128 ≤ b.toNat)
theorem canon_iff {hs : List UInt8} {b : UInt8} (hh : ∀ x ∈ hs, 128 ≤ x.toNat) (hb : b.toNat < 128) : Canon (hs ++ [b]) ↔ (hs = [] ∨ b.toNat ≠ 0) := by
  induction hs with
  | nil => exact ⟨fun _ => .inl rfl, fun _ => hb⟩
  | cons x hs ih =>
    have ih := ih (fun y hy => hh y (List.mem_cons_of_mem _ hy))
    have hx := hh x (List.mem_cons_self ..)
    have hz : b.toNat = 0 ↔ b = 0 := ⟨fun e => UInt8.toNat_inj.1 (show b.toNat = (0 : UInt8).toNat from e), fun e => by rw [e]; rfl⟩
    cases hs with
    | nil =>
      show (128 ≤ x.toNat ∧ Canon [b] ∧ [b] ≠ [0]) ↔ _
      simp only [Canon]
      constructor
      · rintro ⟨_, _, h⟩; exact .inr (fun e => h (by rw [hz.1 e]))
      · rintro (h | h)
        · cases h
        · exact ⟨hx, hb, fun e => h (hz.2 (by simpa using e))⟩
    | cons y hs =>
      show (128 ≤ x.toNat ∧ Canon (y :: (hs ++ [b])) ∧ y :: (hs ++ [b]) ≠ [0]) ↔ _
      have ih : Canon (y :: (hs ++ [b])) ↔ _ := ih
      rw [ih]
      constructor
      · rintro ⟨_, h | h, _⟩
        · cases h
        · exact .inr h
      · rintro (h | h)
        · cases h
        · refine ⟨hx, .inr h, by simp⟩

/-- How many bytes at the head are 128 or more. -/
def heads (s : List UInt8) : Nat := (s.takeWhile hiB).length
/-- Does a number's varint stand at the head of s, whose first byte below 128 is at k? -/
def Fits (p : List UInt8) : Prop := vput (digs p % 18446744073709551616) = p
instance (p : List UInt8) : Decidable (Fits p) := by unfold Fits; infer_instance
/-- What is told of the varint at the head of s: 0, or the number of what is wrong. -/
def vcode (s : List UInt8) : Int :=
  if heads (s.take 10) = (s.take 10).length then (if s.length < 10 then 21 else 20)
  else if Fits (s.take (heads (s.take 10) + 1)) then 0 else 20
def vsize (s : List UInt8) : Nat := if vcode s = 0 then heads (s.take 10) + 1 else 0
def vnum (s : List UInt8) : Nat := digs (s.take (vsize s))

theorem fits_iff {p : List UInt8} : Fits p ↔ Canon p ∧ digs p < 18446744073709551616 := by
  unfold Fits
  constructor
  · intro h
    have hc := canon_put (digs p % 18446744073709551616)
    have hd := digs_put (digs p % 18446744073709551616)
    rw [h] at hc hd
    refine ⟨hc, ?_⟩
    omega
  · rintro ⟨hc, hd⟩
    rw [Nat.mod_eq_of_lt hd, put_digs hc]

theorem heads_le (s : List UInt8) : heads s ≤ s.length := by
  unfold heads
  induction s with
  | nil => simp
  | cons b s ih => rw [List.takeWhile_cons]; split <;> simp; omega
theorem heads_hi (s : List UInt8) : ∀ k, k < heads s → 128 ≤ (s.getD k 0).toNat := by
  unfold heads
  induction s with
  | nil => intro k hk; simp at hk
  | cons b s ih =>
    intro k hk
    rw [List.takeWhile_cons] at hk
    split at hk
    · rename_i h
      cases k with
      | zero => simpa [hiB] using h
      | succ k => simpa using ih k (by simpa using hk)
    · simp at hk
theorem heads_lo (s : List UInt8) (h : heads s < s.length) : (s.getD (heads s) 0).toNat < 128 := by
  unfold heads at h ⊢
  induction s with
  | nil => simp at h
  | cons b s ih =>
    rw [List.takeWhile_cons] at h ⊢
    split at h
    · rename_i hb
      rw [if_pos hb]
      simpa using ih (by simpa using h)
    · rename_i hb
      rw [if_neg hb]
      simp [hiB] at hb
      simpa using hb
theorem heads_eq {s : List UInt8} {k : Nat} (hk : k ≤ s.length) (h : ∀ j, j < k → 128 ≤ (s.getD j 0).toNat) (hl : k < s.length → (s.getD k 0).toNat < 128) : heads s = k := by
  rcases Nat.lt_trichotomy (heads s) k with h1 | h1 | h1
  · have := h _ h1
    have := heads_lo s (by omega)
    omega
  · exact h1
  · have := heads_hi s k h1
    have := heads_le s
    have := hl (by omega)
    omega
theorem getD_take {s : List UInt8} {j n : Nat} (h : j < n) : (s.take n).getD j 0 = s.getD j 0 := by
  simp [List.getD, h]

/-- The first byte below 128 of the first ten is at k: what the code is. -/
theorem vcode_at {s : List UInt8} {k : Nat} (hk : k < 10) (hs : k < s.length) (h : ∀ j, j < k → 128 ≤ (s.getD j 0).toNat) (hl : (s.getD k 0).toNat < 128) :
    heads (s.take 10) = k ∧ vcode s = if Fits (s.take (k + 1)) then 0 else 20 := by
  have e : heads (s.take 10) = k := heads_eq (by simp; omega) (fun j hj => by rw [getD_take (by omega)]; exact h j hj) (fun _ => by rw [getD_take (by omega)]; exact hl)
  refine ⟨e, ?_⟩
  unfold vcode
  rw [e, if_neg (by simp; omega)]
/-- None of the first ten is below 128. -/
theorem vcode_none {s : List UInt8} (h : ∀ j, j < 10 → j < s.length → 128 ≤ (s.getD j 0).toNat) : vcode s = if s.length < 10 then 21 else 20 := by
  have e : heads (s.take 10) = (s.take 10).length := heads_eq (Nat.le_refl _) (fun j hj => by simp at hj; rw [getD_take (by omega)]; exact h j (by omega) (by omega)) (fun h => absurd h (Nat.lt_irrefl _))
  unfold vcode
  rw [if_pos e]
theorem vcode_cases (s : List UInt8) : vcode s = 0 ∨ vcode s = 20 ∨ vcode s = 21 := by
  unfold vcode
  split
  · split <;> simp
  · split <;> simp

/-- The parts of a varint: bytes of 128 or more, and one below. -/
theorem canon_parts : ∀ {p : List UInt8}, Canon p → (∀ j, j + 1 < p.length → 128 ≤ (p.getD j 0).toNat) ∧ 0 < p.length ∧ (p.getD (p.length - 1) 0).toNat < 128
  | [], h => h.elim
  | [b], h => ⟨fun j hj => by simp at hj, by simp, h⟩
  | b :: c :: r, h => by
    obtain ⟨h1, h2, h3⟩ := canon_parts h.2.1
    refine ⟨fun j hj => ?_, by simp, by simpa using h3⟩
    cases j with
    | zero => exact h.1
    | succ j => simpa using h1 j (by simpa using hj)
theorem length_put_le {n k : Nat} (h : n < 128 ^ (k + 1)) : (vput n).length ≤ k + 1 := by
  induction k generalizing n with
  | zero => rw [vput_lo (by simpa using h)]; simp
  | succ k ih =>
    by_cases hn : n < 128
    · rw [vput_lo hn]; simp
    · rw [vput_hi hn]
      have := ih (n := n / 128) (by rw [Nat.pow_succ] at h; omega)
      simp; omega
theorem length_put {n : Nat} (h : n < 18446744073709551616) : (vput n).length ≤ 10 := length_put_le (k := 9) (by omega)
theorem length_put_pos (n : Nat) : 1 ≤ (vput n).length := by
  have := vput_ne n
  cases h : vput n with
  | nil => exact absurd h this
  | cons b r => simp
theorem length_mono {n m : Nat} (h : n ≤ m) : (vput n).length ≤ (vput m).length := by
  induction m using Nat.strongRecOn generalizing n with
  | _ m ih =>
    by_cases hm : m < 128
    · rw [vput_lo hm, vput_lo (by omega)]; simp
    · by_cases hn : n < 128
      · rw [vput_lo hn]; have := length_put_pos m; simpa using this
      · rw [vput_hi hm, vput_hi hn]
        have := ih (m / 128) (by omega) (n := n / 128) (by omega)
        simpa using this

theorem getD_app {p t : List UInt8} {j : Nat} (h : j < p.length) : (p ++ t).getD j 0 = p.getD j 0 := by
  simp [List.getD, List.getElem?_append, h]

/-- What is put is read again, whatever stands behind. -/
theorem put_get {n : Nat} (h : n < 18446744073709551616) (t : List UInt8) : vcode (vput n ++ t) = 0 ∧ vsize (vput n ++ t) = (vput n).length ∧ vnum (vput n ++ t) = n := by
  obtain ⟨h1, h2, h3⟩ := canon_parts (canon_put n)
  have hl := length_put h
  obtain ⟨e, ec⟩ := vcode_at (s := vput n ++ t) (k := (vput n).length - 1) (by omega) (by simp; omega) (fun j hj => by rw [getD_app (by omega)]; exact h1 j (by omega)) (by rw [getD_app (by omega)]; exact h3)
  have e1 : (vput n).length - 1 + 1 = (vput n).length := by omega
  rw [e1, List.take_left' rfl, if_pos (by unfold Fits; rw [digs_put, Nat.mod_eq_of_lt h])] at ec
  have es : vsize (vput n ++ t) = (vput n).length := by unfold vsize; rw [if_pos ec, e, e1]
  refine ⟨ec, es, ?_⟩
  unfold vnum
  rw [es, List.take_left' rfl, digs_put]
/-- Fewer bytes ask for more. -/
theorem put_more {n k : Nat} (h : n < 18446744073709551616) (hk : k < (vput n).length) : vcode ((vput n).take k) = 21 := by
  obtain ⟨h1, h2, h3⟩ := canon_parts (canon_put n)
  have hl := length_put h
  rw [vcode_none (fun j _ hj => by simp at hj; rw [getD_take (by omega)]; exact h1 j (by omega)), if_pos (by simp; omega)]
theorem vsize_err {s : List UInt8} (h : vcode s ≠ 0) : vsize s = 0 := by unfold vsize; rw [if_neg h]
theorem vnum_err {s : List UInt8} (h : vcode s ≠ 0) : vnum s = 0 := by unfold vnum; rw [vsize_err h]; rfl
theorem fits_of_code {s : List UInt8} (h : vcode s = 0) : Fits (s.take (vsize s)) := by
  have h' := h
  unfold vcode at h'
  unfold vsize
  rw [if_pos h]
  split at h'
  · split at h' <;> cases h'
  · split at h'
    · assumption
    · cases h'
theorem get_put {s : List UInt8} (h : vcode s = 0) : vput (vnum s) ++ s.drop (vsize s) = s := by
  obtain ⟨h1, h2⟩ := fits_iff.1 (fits_of_code h)
  unfold vnum
  rw [put_digs h1, List.take_append_drop]
theorem vnum_lt (s : List UInt8) : vnum s < 18446744073709551616 := by
  by_cases h : vcode s = 0
  · exact (fits_iff.1 (fits_of_code h)).2
  · rw [vnum_err h]; decide
theorem vsize_le (s : List UInt8) : vsize s ≤ s.length := by
  unfold vsize
  split
  · rename_i h
    have := heads_le (s.take 10)
    have h2 : heads (s.take 10) ≠ (s.take 10).length := fun e => by
      unfold vcode at h
      rw [if_pos e] at h
      split at h <;> cases h
    simp at this h2
    omega
  · omega
theorem vsize_10 (s : List UInt8) : vsize s ≤ 10 := by
  unfold vsize
  split
  · rename_i h
    have := heads_le (s.take 10)
    have h2 : heads (s.take 10) ≠ (s.take 10).length := fun e => by
      unfold vcode at h
      rw [if_pos e] at h
      split at h <;> cases h
    simp at this h2
    omega
  · omega
end Go.Proofs.YtbfchlfagdhglaaDoor
/- Sets of small numbers, and their three forms: pure mathematics. -/
namespace Go.Proofs.YtbfchlfagdhglaaDoor

/-- A set: which of the numbers below 256 are there. -/
abbrev Bs := Nat → Bool
def Same (s t : Bs) : Prop := ∀ n, n < 256 → s n = t n
theorem Same.symm {s t : Bs} (h : Same s t) : Same t s := fun n hn => (h n hn).symm
theorem Same.trans {s t u : Bs} (h : Same s t) (k : Same t u) : Same s u := fun n hn => (h n hn).trans (k n hn)

/-- The numbers below k, rising. -/
def valsTo (s : Bs) (k : Nat) : List Nat := (List.range k).filter s
def vals (s : Bs) : List Nat := valsTo s 256
theorem valsTo_succ (s : Bs) (k : Nat) : valsTo s (k + 1) = if s k then valsTo s k ++ [k] else valsTo s k := by
  unfold valsTo
  rw [List.range_succ, List.filter_append]
  by_cases h : s k = true
  · rw [if_pos h]; simp [h]
  · rw [if_neg h]; simp [h]
theorem mem_valsTo {s : Bs} {k n : Nat} : n ∈ valsTo s k ↔ n < k ∧ s n = true := by
  unfold valsTo; rw [List.mem_filter, List.mem_range]
theorem valsTo_le (s : Bs) (k : Nat) : (valsTo s k).length ≤ k := by
  have := List.length_filter_le s (List.range k)
  rwa [List.length_range] at this
theorem valsTo_congr {s t : Bs} {k : Nat} (h : ∀ n, n < k → s n = t n) : valsTo s k = valsTo t k := by
  unfold valsTo
  exact List.filter_congr fun n hn => h n (List.mem_range.1 hn)
theorem vals_congr {s t : Bs} (h : Same s t) : vals s = vals t := valsTo_congr h
theorem vals_asc (s : Bs) (k : Nat) : (valsTo s k).Pairwise (· < ·) := List.Pairwise.filter s List.pairwise_lt_range

/-- The array's bytes. -/
def arrTo (s : Bs) (k : Nat) : List UInt8 := (valsTo s k).map UInt8.ofNat
theorem arrTo_succ (s : Bs) (k : Nat) : arrTo s (k + 1) = if s k then arrTo s k ++ [UInt8.ofNat k] else arrTo s k := by
  unfold arrTo
  rw [valsTo_succ]; split <;> simp
/-- The bits' bytes, of the digits ahead of place m. -/
def dg (s : Bs) (p : Nat) : Nat := if s p then 1 else 0
def byteS (s : Bs) (m k : Nat) : Nat := (List.range 8).foldr (fun j a => (if 8 * k + j < m then dg s (8 * k + j) else 0) + 2 * a) 0
def bitsTo (s : Bs) (m : Nat) : List UInt8 := (List.range 32).map fun k => UInt8.ofNat (byteS s m k)
/-- The runs, the last one first. -/
def runTo (s : Bs) : Nat → List (Nat × Nat)
  | 0 => []
  | k + 1 => if s k then
      match runTo s k with
      | [] => [(k, 0)]
      | (a, m) :: r => if a + m + 1 = k then (a, m + 1) :: r else (k, 0) :: (a, m) :: r
    else runTo s k
def flat : List (Nat × Nat) → List UInt8
  | [] => []
  | (a, m) :: r => flat r ++ [UInt8.ofNat a, UInt8.ofNat m]
theorem flat_length (l : List (Nat × Nat)) : (flat l).length = 2 * l.length := by
  induction l with
  | nil => rfl
  | cons x r ih => obtain ⟨a, m⟩ := x; simp [flat, ih]; omega
/-- Numbers in a form. -/
def formS (s : Bs) (f : Nat) : List UInt8 := if f = 1 then arrTo s 256 else if f = 2 then bitsTo s 256 else flat (runTo s 256)

/-- Which numbers the runs have. -/
def inRuns (l : List (Nat × Nat)) (n : Nat) : Prop := ∃ x ∈ l, x.1 ≤ n ∧ n ≤ x.1 + x.2
theorem runTo_spec (s : Bs) (k : Nat) : (∀ n, inRuns (runTo s k) n ↔ n < k ∧ s n = true) ∧ (∀ x ∈ runTo s k, x.1 + x.2 < k) ∧
    (∀ a m r, runTo s k = (a, m) :: r → 2 * (r.length + 1) ≤ a + m + 2 ∧ (a + m + 1 ≠ k → s (k - 1) = false)) ∧ (runTo s k = [] → ∀ n, n < k → s n = false) := by
  induction k with
  | zero => exact ⟨fun n => ⟨fun ⟨x, hx, _⟩ => by simp [runTo] at hx, fun h => by omega⟩, fun x hx => by simp [runTo] at hx, fun a m r h => by simp [runTo] at h, fun _ n hn => by omega⟩
  | succ k ih =>
    obtain ⟨h1, h2, h3, h4⟩ := ih
    by_cases hs : s k = true
    · cases e : runTo s k with
      | nil =>
        have e2 : runTo s (k + 1) = [(k, 0)] := by simp [runTo, hs, e]
        rw [e2]
        refine ⟨fun n => ⟨?_, ?_⟩, ?_, ?_, ?_⟩
        · rintro ⟨x, hx, ha, hb⟩
          rw [List.mem_singleton] at hx; subst hx
          obtain rfl : n = k := by simp at ha hb; omega
          exact ⟨by omega, hs⟩
        · rintro ⟨hn, hsn⟩
          by_cases hnk : n = k
          · subst hnk; exact ⟨_, List.mem_singleton.2 rfl, by simp, by simp⟩
          · have := h4 e n (by omega)
            rw [this] at hsn; cases hsn
        · intro x hx; rw [List.mem_singleton] at hx; subst hx; simp
        · intro a m r h; cases h; exact ⟨by simp, by simp⟩
        · intro h; cases h
      | cons x r =>
        obtain ⟨a, m⟩ := x
        obtain ⟨h31, h32⟩ := h3 a m r e
        have hlt := h2 (a, m) (by rw [e]; exact List.mem_cons_self ..)
        simp only at hlt
        by_cases hj : a + m + 1 = k
        · have e2 : runTo s (k + 1) = (a, m + 1) :: r := by simp [runTo, hs, e, hj]
          rw [e2]
          refine ⟨fun n => ⟨?_, ?_⟩, ?_, ?_, ?_⟩
          · rintro ⟨x, hx, ha, hb⟩
            rcases List.mem_cons.1 hx with rfl | hx
            · by_cases hnk : n = k
              · subst hnk; exact ⟨by omega, hs⟩
              · have := (h1 n).1 ⟨(a, m), by rw [e]; exact List.mem_cons_self .., ha, by simp at hb ⊢; omega⟩
                exact ⟨by omega, this.2⟩
            · have := (h1 n).1 ⟨x, by rw [e]; exact List.mem_cons_of_mem _ hx, ha, hb⟩
              exact ⟨by omega, this.2⟩
          · rintro ⟨hn, hsn⟩
            by_cases hnk : n = k
            · subst hnk; exact ⟨_, List.mem_cons_self .., by simp; omega, by simp; omega⟩
            · obtain ⟨x, hx, ha, hb⟩ := (h1 n).2 ⟨by omega, hsn⟩
              rw [e] at hx
              rcases List.mem_cons.1 hx with rfl | hx
              · exact ⟨_, List.mem_cons_self .., ha, by simp at hb ⊢; omega⟩
              · exact ⟨x, List.mem_cons_of_mem _ hx, ha, hb⟩
          · intro x hx
            rcases List.mem_cons.1 hx with rfl | hx
            · simp; omega
            · have := h2 x (by rw [e]; exact List.mem_cons_of_mem _ hx); omega
          · intro a' m' r' h; cases h; exact ⟨by omega, fun h => by omega⟩
          · intro h; cases h
        · have e2 : runTo s (k + 1) = (k, 0) :: (a, m) :: r := by simp [runTo, hs, e, hj]
          rw [e2]
          refine ⟨fun n => ⟨?_, ?_⟩, ?_, ?_, ?_⟩
          · rintro ⟨x, hx, ha, hb⟩
            rcases List.mem_cons.1 hx with rfl | hx
            · obtain rfl : n = k := by simp at ha hb; omega
              exact ⟨by omega, hs⟩
            · have := (h1 n).1 ⟨x, by rw [e]; exact hx, ha, hb⟩
              exact ⟨by omega, this.2⟩
          · rintro ⟨hn, hsn⟩
            by_cases hnk : n = k
            · subst hnk; exact ⟨_, List.mem_cons_self .., by simp, by simp⟩
            · obtain ⟨x, hx, ha, hb⟩ := (h1 n).2 ⟨by omega, hsn⟩
              rw [e] at hx
              exact ⟨x, List.mem_cons_of_mem _ hx, ha, hb⟩
          · intro x hx
            rcases List.mem_cons.1 hx with rfl | hx
            · simp
            · have := h2 x (by rw [e]; exact hx); omega
          · intro a' m' r' h
            cases h
            refine ⟨?_, fun h => absurd rfl h⟩
            simp only [List.length_cons]
            omega
          · intro h; cases h
    · have e2 : runTo s (k + 1) = runTo s k := by simp [runTo, hs]
      rw [e2]
      refine ⟨fun n => ⟨fun h => ?_, fun ⟨hn, hsn⟩ => ?_⟩, fun x hx => by have := h2 x hx; omega, fun a m r h => ⟨(h3 a m r h).1, fun _ => by simpa using hs⟩, fun h n hn => ?_⟩
      · have := (h1 n).1 h; exact ⟨by omega, this.2⟩
      · by_cases hnk : n = k
        · subst hnk; exact absurd hsn hs
        · exact (h1 n).2 ⟨by omega, hsn⟩
      · by_cases hnk : n = k
        · subst hnk; simpa using hs
        · exact h4 h n (by omega)

/-! ### The numbers that bytes have, and back -/
def setA (d : List UInt8) : Bs := fun n => d.any fun b => b.toNat == n
def setB (d : List UInt8) : Bs := fun n => (d[n / 8]?.getD 0).toNat / 2 ^ (n % 8) % 2 == 1
def setR : List UInt8 → Bs
  | a :: m :: r => fun n => (decide (a.toNat ≤ n) && decide (n ≤ a.toNat + m.toNat)) || setR r n
  | _ => fun _ => false
def setOf (f : Nat) (d : List UInt8) : Bs := if f = 1 then setA d else if f = 2 then setB d else if f = 3 then setR d else fun _ => false

theorem setA_arr (s : Bs) (k : Nat) (hk : k ≤ 256) (n : Nat) : setA (arrTo s k) n = true ↔ n < k ∧ s n = true := by
  unfold setA arrTo
  rw [List.any_eq_true]
  constructor
  · rintro ⟨b, hb, e⟩
    obtain ⟨x, hx, rfl⟩ := List.mem_map.1 hb
    have h := mem_valsTo.1 hx
    have e2 : x % 256 = n := by simpa using e
    rw [Nat.mod_eq_of_lt (by omega)] at e2
    subst e2; exact h
  · rintro ⟨hn, hs⟩
    refine ⟨UInt8.ofNat n, List.mem_map.2 ⟨n, mem_valsTo.2 ⟨hn, hs⟩, rfl⟩, ?_⟩
    simp; omega
theorem dg_lt (s : Bs) (p : Nat) : dg s p < 2 := by unfold dg; split <;> omega
/-- Eight digits, the least one first. -/
def val8 (f : Nat → Nat) : Nat → Nat → Nat
  | 0, _ => 0
  | n + 1, j => f j + 2 * val8 f n (j + 1)
theorem val8_lt {f : Nat → Nat} (hf : ∀ j, f j < 2) : ∀ n j, val8 f n j < 2 ^ n
  | 0, _ => by simp [val8]
  | n + 1, j => by
    have h1 := val8_lt hf n (j + 1); have h2 := hf j
    rw [val8, Nat.pow_succ]; omega
theorem val8_digit {f : Nat → Nat} (hf : ∀ j, f j < 2) : ∀ n j i, i < n → val8 f n j / 2 ^ i % 2 = f (j + i)
  | 0, _, i, h => by omega
  | n + 1, j, 0, _ => by have := hf j; rw [val8]; simp; omega
  | n + 1, j, i + 1, h => by
    have h2 := hf j
    rw [val8, Nat.pow_succ, Nat.mul_comm (2 ^ i) 2, ← Nat.div_div_eq_div_mul, show (f j + 2 * val8 f n (j + 1)) / 2 = val8 f n (j + 1) by omega, val8_digit hf n (j + 1) i (by omega)]
    congr 1; omega
theorem byteS_val (s : Bs) (m k : Nat) : byteS s m k = val8 (fun j => if 8 * k + j < m then dg s (8 * k + j) else 0) 8 0 := by
  unfold byteS
  rw [show List.range 8 = [0, 1, 2, 3, 4, 5, 6, 7] from rfl]
  simp only [List.foldr_cons, List.foldr_nil, val8]
theorem byteS_lt (s : Bs) (m k : Nat) : byteS s m k < 256 := by
  rw [byteS_val]
  exact val8_lt (fun j => by split; exact dg_lt _ _; decide) 8 0
theorem byteS_digit (s : Bs) (m k i : Nat) (hi : i < 8) : byteS s m k / 2 ^ i % 2 = if 8 * k + i < m then dg s (8 * k + i) else 0 := by
  rw [byteS_val, val8_digit (fun j => by split; exact dg_lt _ _; decide) 8 0 i hi, Nat.zero_add]
theorem setB_bits (s : Bs) (n : Nat) (h : n < 256) : setB (bitsTo s 256) n = s n := by
  unfold setB bitsTo
  rw [List.getElem?_map, List.getElem?_range (by omega)]
  show ((UInt8.ofNat (byteS s 256 (n / 8))).toNat / 2 ^ (n % 8) % 2 == 1) = s n
  have hlt := byteS_lt s 256 (n / 8)
  rw [ofNat_toNat _ (by simpa using hlt), byteS_digit _ _ _ _ (by omega), show 8 * (n / 8) + n % 8 = n by omega, if_pos h]
  unfold dg
  cases s n <;> rfl
theorem setR_snoc (d : List UInt8) (hd : d.length % 2 = 0) (a m : UInt8) (n : Nat) : setR (d ++ [a, m]) n = (setR d n || (decide (a.toNat ≤ n) && decide (n ≤ a.toNat + m.toNat))) := by
  match d, hd with
  | [], _ => simp [setR]
  | [x], h => simp at h
  | x :: y :: r, h =>
    have := setR_snoc r (by simp at h; omega) a m n
    simp only [List.cons_append, setR, this, Bool.or_assoc]
theorem setR_flat (l : List (Nat × Nat)) (hl : ∀ x ∈ l, x.1 + x.2 < 256) (n : Nat) : setR (flat l) n = true ↔ inRuns l n := by
  induction l with
  | nil => constructor
           · intro h; simp [flat, setR] at h
           · rintro ⟨x, hx, _⟩; cases hx
  | cons x r ih =>
    obtain ⟨a, m⟩ := x
    have h1 := hl (a, m) (List.mem_cons_self ..)
    simp only at h1
    rw [flat, setR_snoc _ (by rw [flat_length]; omega), Bool.or_eq_true, ih (fun x hx => hl x (List.mem_cons_of_mem _ hx)), ofNat_toNat _ (by omega), ofNat_toNat _ (by omega)]
    constructor
    · rintro (⟨x, hx, h⟩ | h)
      · exact ⟨x, List.mem_cons_of_mem _ hx, h⟩
      · exact ⟨(a, m), List.mem_cons_self .., by simpa using h⟩
    · rintro ⟨x, hx, h⟩
      rcases List.mem_cons.1 hx with rfl | hx
      · exact .inr (by simpa using h)
      · exact .inl ⟨x, hx, h⟩
theorem setR_runs (s : Bs) (n : Nat) (h : n < 256) : setR (flat (runTo s 256)) n = s n := by
  obtain ⟨h1, h2, _, _⟩ := runTo_spec s 256
  have e := (setR_flat (runTo s 256) h2 n).trans (h1 n)
  rw [Bool.eq_iff_iff, e]
  exact ⟨fun h => h.2, fun k => ⟨h, k⟩⟩
theorem set_form (s : Bs) (f : Nat) (h1 : 1 ≤ f) (h3 : f ≤ 3) : Same (setOf f (formS s f)) s := by
  intro n hn
  unfold setOf formS
  have hf : f = 1 ∨ f = 2 ∨ f = 3 := by omega
  rcases hf with rfl | rfl | rfl
  · have := setA_arr s 256 (Nat.le_refl _) n
    rw [if_pos rfl, if_pos rfl, Bool.eq_iff_iff, this]; exact ⟨fun h => h.2, fun k => ⟨hn, k⟩⟩
  · exact setB_bits s n hn
  · exact setR_runs s n hn

theorem runTo_congr {s t : Bs} {k : Nat} (h : ∀ n, n < k → s n = t n) : runTo s k = runTo t k := by
  induction k with
  | zero => rfl
  | succ k ih => simp only [runTo, h k (by omega), ih (fun n hn => h n (by omega))]
theorem byteS_congr {s t : Bs} {m : Nat} (h : ∀ n, n < m → s n = t n) (k : Nat) : byteS s m k = byteS t m k := by
  rw [byteS_val, byteS_val]
  congr 1
  funext j
  split
  · unfold dg; rw [h _ (by assumption)]
  · rfl
theorem form_congr {s t : Bs} (h : Same s t) (f : Nat) : formS s f = formS t f := by
  have h1 : arrTo s 256 = arrTo t 256 := congrArg (List.map UInt8.ofNat) (valsTo_congr h)
  have h2 : bitsTo s 256 = bitsTo t 256 := List.map_congr_left fun k _ => congrArg UInt8.ofNat (byteS_congr h k)
  have h3 : runTo s 256 = runTo t 256 := runTo_congr h
  unfold formS
  rw [h1, h2, h3]

/-! ### Containers -/
/-- A container: its form, and its bytes. -/
def RightC (f : Int) (d : List UInt8) : Prop := 1 ≤ f ∧ f ≤ 3 ∧ d.length ≤ 256 ∧ d = formS (setOf f.toNat d) f.toNat
instance (f : Int) (d : List UInt8) : Decidable (RightC f d) := by unfold RightC; infer_instance
theorem runTo_length (s : Bs) (k : Nat) : 2 * (runTo s k).length ≤ k + 1 := by
  obtain ⟨_, h2, h3, _⟩ := runTo_spec s k
  cases e : runTo s k with
  | nil => simp
  | cons x r =>
    obtain ⟨a, m⟩ := x
    have h4 := h2 (a, m) (by rw [e]; exact List.mem_cons_self ..)
    have := (h3 a m r e).1
    simp only [List.length_cons] at *; omega
theorem arrTo_length (s : Bs) (k : Nat) : (arrTo s k).length = (valsTo s k).length := by unfold arrTo; rw [List.length_map]
theorem bitsTo_length (s : Bs) (m : Nat) : (bitsTo s m).length = 32 := by simp [bitsTo]
theorem form_length (s : Bs) (f : Nat) : (formS s f).length ≤ 256 := by
  unfold formS
  split
  · rw [arrTo_length]; exact valsTo_le s 256
  · split
    · rw [bitsTo_length]; decide
    · have := runTo_length s 256
      rw [flat_length]; omega
theorem right_form (s : Bs) {f : Nat} (h1 : 1 ≤ f) (h3 : f ≤ 3) : RightC f (formS s f) := by
  refine ⟨by omega, by omega, form_length s f, ?_⟩
  rw [Int.toNat_natCast]
  exact (form_congr (set_form s f h1 h3) f).symm
/-- Two containers of a form that have the same numbers are one. -/
theorem right_same {f : Int} {d e : List UInt8} (h : RightC f d) (k : RightC f e) (hs : Same (setOf f.toNat d) (setOf f.toNat e)) : d = e := by
  rw [h.2.2.2, k.2.2.2]; exact form_congr hs _

/-- The best form. -/
def bestF (s : Bs) : Nat := if (formS s 1).length ≤ (formS s 3).length ∧ (formS s 1).length ≤ 32 then 1 else if (formS s 3).length ≤ 32 then 3 else 2
def bestD (s : Bs) : List UInt8 := formS s (bestF s)
theorem bestF_form (s : Bs) : 1 ≤ bestF s ∧ bestF s ≤ 3 := by unfold bestF; split; decide; split <;> decide
theorem bestF_congr {s t : Bs} (h : Same s t) : bestF s = bestF t := by unfold bestF; rw [form_congr h, form_congr h]
theorem bestD_congr {s t : Bs} (h : Same s t) : bestD s = bestD t := by unfold bestD; rw [bestF_congr h, form_congr h]
theorem best_right (s : Bs) : RightC (bestF s : Nat) (bestD s) := right_form s (bestF_form s).1 (bestF_form s).2
theorem best_set (s : Bs) : Same (setOf (bestF s) (bestD s)) s := set_form s _ (bestF_form s).1 (bestF_form s).2
theorem best_le (s : Bs) {f : Nat} (h1 : 1 ≤ f) (h3 : f ≤ 3) : (bestD s).length ≤ (formS s f).length := by
  have e2 : (formS s 2).length = 32 := bitsTo_length s 256
  have hf : f = 1 ∨ f = 2 ∨ f = 3 := by omega
  have h : (bestD s).length = (formS s (bestF s)).length := rfl
  have h5 : (formS s f).length = (if f = 1 then (formS s 1).length else if f = 2 then (formS s 2).length else (formS s 3).length) := by rcases hf with rfl | rfl | rfl <;> rfl
  rw [h, h5]
  unfold bestF
  by_cases g1 : (formS s 1).length ≤ (formS s 3).length ∧ (formS s 1).length ≤ 32
  · rw [if_pos g1]; generalize (formS s 1).length = x at *; generalize (formS s 3).length = y at *; split; omega; split <;> omega
  · rw [if_neg g1]
    by_cases g2 : (formS s 3).length ≤ 32
    · rw [if_pos g2]; generalize (formS s 1).length = x at *; generalize (formS s 3).length = y at *; split; omega; split <;> omega
    · rw [if_neg g2]; generalize (formS s 1).length = x at *; generalize (formS s 3).length = y at *; split; omega; split <;> omega
theorem best_32 (s : Bs) : (bestD s).length ≤ 32 := by have := best_le s (f := 2) (by decide) (by decide); rwa [show (formS s 2).length = 32 from bitsTo_length s 256] at this
theorem best_count (s : Bs) : (bestD s).length ≤ (vals s).length := by have := best_le s (f := 1) (by decide) (by decide); rwa [show (formS s 1).length = (vals s).length from arrTo_length s 256] at this

/-! ### Numbers, ranks, places -/
def rankS (s : Bs) (n : Int) : Nat := (valsTo s (min 256 (n + 1).toNat)).length
theorem rank_step (s : Bs) (n : Nat) (hn : n < 256) : rankS s n = rankS s (n - 1 : Int) + (if s n then 1 else 0) := by
  unfold rankS
  rw [show min 256 ((n : Int) + 1).toNat = n + 1 by omega, show min 256 ((n : Int) - 1 + 1).toNat = n by omega, valsTo_succ]
  split <;> simp
theorem valsTo_take (s : Bs) (k m : Nat) : k ≤ m → ∃ r, valsTo s m = valsTo s k ++ r ∧ ∀ x ∈ r, k ≤ x := by
  intro h
  obtain ⟨j, rfl⟩ : ∃ j, m = k + j := ⟨m - k, by omega⟩
  refine ⟨((List.range j).map (k + ·)).filter s, ?_, ?_⟩
  · unfold valsTo; rw [List.range_add, List.filter_append]
  · intro x hx
    have := (List.mem_filter.1 hx).1
    obtain ⟨y, _, rfl⟩ := List.mem_map.1 this
    omega
/-- The number of a place. -/
theorem place_rank (s : Bs) {p n : Nat} (h : (vals s)[p]? = some n) : n < 256 ∧ s n = true ∧ (valsTo s n).length = p := by
  have hm := mem_valsTo.1 (List.mem_of_getElem? h)
  refine ⟨hm.1, hm.2, ?_⟩
  obtain ⟨r, e, hr⟩ := valsTo_take s (n + 1) 256 (by omega)
  rw [valsTo_succ s n, if_pos hm.2] at e
  have hk : (vals s)[(valsTo s n).length]? = some n := by
    show (valsTo s 256)[_]? = _
    rw [e, List.getElem?_append_left (by simp), List.getElem?_append_right (Nat.le_refl _)]; simp
  obtain ⟨h1, e1⟩ := List.getElem?_eq_some_iff.1 h
  obtain ⟨h2, e2⟩ := List.getElem?_eq_some_iff.1 hk
  have ha := List.pairwise_iff_getElem.1 (vals_asc s 256)
  rcases Nat.lt_trichotomy p (valsTo s n).length with hlt | heq | hgt
  · have h5 : (vals s)[p] < (vals s)[(valsTo s n).length] := ha _ _ h1 h2 hlt
    rw [e1, e2] at h5; omega
  · exact heq.symm
  · have h5 : (vals s)[(valsTo s n).length] < (vals s)[p] := ha _ _ h2 h1 hgt
    rw [e1, e2] at h5; omega

/-! ### Sets of two -/
def opS (op : Nat) (s t : Bs) : Bs := fun n => if op = 1 then s n && t n else if op = 2 then s n || t n else if op = 3 then s n != t n else s n && !t n
theorem count_two (s t : Bs) (k : Nat) : (valsTo s k).length + (valsTo t k).length = (valsTo (fun n => s n || t n) k).length + (valsTo (fun n => s n && t n) k).length := by
  induction k with
  | zero => rfl
  | succ k ih =>
    simp only [valsTo_succ]
    cases s k <;> cases t k <;> simp <;> omega
def flipS (s : Bs) (i k : Int) : Bs := fun n => if i ≤ n ∧ (n : Int) < k then !s n else s n
theorem flip_twice (s : Bs) (i k : Int) : flipS (flipS s i k) i k = s := by
  funext n
  unfold flipS
  by_cases h : i ≤ n ∧ (n : Int) < k
  · rw [if_pos h, if_pos h, Bool.not_not]
  · rw [if_neg h, if_neg h]
theorem flip_congr {s t : Bs} (h : Same s t) (i k : Int) : Same (flipS s i k) (flipS t i k) := fun n hn => by unfold flipS; rw [h n hn]
theorem op_congr {s t u v : Bs} (h : Same s u) (k : Same t v) (op : Nat) : Same (opS op s t) (opS op u v) := fun n hn => by unfold opS; rw [h n hn, k n hn]
/-- The set of a list of numbers. -/
def ofL (l : List Int) : Bs := fun n => l.any fun (z : Int) => z == (n : Int)
theorem ofL_vals (s : Bs) : Same (ofL ((vals s).map (fun n : Nat => (n : Int)))) s := by
  intro n hn
  rw [Bool.eq_iff_iff]
  unfold ofL
  rw [List.any_eq_true]
  constructor
  · rintro ⟨z, hz, e⟩
    obtain ⟨m, hm, rfl⟩ := List.mem_map.1 hz
    have : m = n := by have := eq_of_beq e; omega
    subst this; exact (mem_valsTo.1 hm).2
  · intro h
    exact ⟨n, List.mem_map.2 ⟨n, mem_valsTo.2 ⟨hn, h⟩, rfl⟩, by simp⟩
end Go.Proofs.YtbfchlfagdhglaaDoor
/- A set as 32 bytes: mathematics. -/
namespace Go.Proofs.YtbfchlfagdhglaaDoor

/-- The set with number n put in, or out. -/
def put1 (s : Bs) (n : Nat) (b : Bool) : Bs := fun m => if m = n then b else s m
theorem byteS_bit (s : Bs) (k i : Nat) (hk : k < 32) : (byteS s 256 k).testBit i = (decide (i < 8) && s (8 * k + i)) := by
  by_cases hi : i < 8
  · have h := byteS_digit s 256 k i hi
    rw [if_pos (by omega)] at h
    rw [Nat.testBit_eq_decide_div_mod_eq, h]
    unfold dg
    cases s (8 * k + i) <;> simp [hi]
  · have hlt := byteS_lt s 256 k
    have : byteS s 256 k < 2 ^ i := Nat.lt_of_lt_of_le hlt (by
      have := Nat.pow_le_pow_right (n := 2) (by decide) (show 8 ≤ i by omega)
      simpa using this)
    rw [Nat.testBit_lt_two_pow this]
    simp [hi]
theorem byteS_same {s t : Bs} (h : Same s t) (k : Nat) : byteS s 256 k = byteS t 256 k := byteS_congr h k
theorem byteS_ext {s : Bs} {k x : Nat} (hk : k < 32) (hx : x < 256) (h : ∀ i, i < 8 → x.testBit i = s (8 * k + i)) : x = byteS s 256 k := by
  apply Nat.eq_of_testBit_eq
  intro i
  rw [byteS_bit s k i hk]
  by_cases hi : i < 8
  · rw [h i hi]; simp [hi]
  · have : x < 2 ^ i := Nat.lt_of_lt_of_le hx (by
      have := Nat.pow_le_pow_right (n := 2) (by decide) (show 8 ≤ i by omega)
      simpa using this)
    rw [Nat.testBit_lt_two_pow this]
    simp [hi]
theorem byteS_put (s : Bs) (n : Nat) (hn : n < 256) : byteS s 256 (n / 8) ||| 2 ^ (n % 8) = byteS (put1 s n true) 256 (n / 8) := by
  have h8 : 2 ^ (n % 8) < 2 ^ 8 := Nat.pow_lt_pow_right (by decide) (by omega)
  refine byteS_ext (by omega) (Nat.or_lt_two_pow (byteS_lt s 256 _) h8) fun i hi => ?_
  rw [Nat.testBit_or, byteS_bit s _ i (by omega), Nat.testBit_two_pow]
  unfold put1
  by_cases e : 8 * (n / 8) + i = n
  · rw [if_pos e]
    have : n % 8 = i := by omega
    simp [this]
  · rw [if_neg e]
    have : ¬ n % 8 = i := by omega
    simp [this, hi]
theorem byteS_put_far (s : Bs) (n k : Nat) (hk : k ≠ n / 8) (b : Bool) (hk3 : k < 32) : byteS (put1 s n b) 256 k = byteS s 256 k := by
  refine byteS_ext hk3 (byteS_lt _ _ _) fun i hi => ?_
  rw [byteS_bit _ _ _ hk3]
  unfold put1
  rw [if_neg (by omega)]
  simp [hi]

/-- What each operation makes of two bytes. -/
def opN (op : Nat) (a b : Nat) : Nat := if op = 1 then a &&& b else if op = 2 then a ||| b else if op = 3 then a ^^^ b else a &&& (255 ^^^ b)
theorem opN_lt (op a b : Nat) (ha : a < 256) (hb : b < 256) : opN op a b < 256 := by
  have ha' : a < 2 ^ 8 := ha
  have hb' : b < 2 ^ 8 := hb
  unfold opN
  split
  · exact Nat.and_lt_two_pow a hb'
  · split
    · exact Nat.or_lt_two_pow ha' hb'
    · split
      · exact Nat.xor_lt_two_pow ha' hb'
      · exact Nat.and_lt_two_pow a (Nat.xor_lt_two_pow (by decide) hb')
theorem byteS_op (op : Nat) (s t : Bs) (k : Nat) (hk : k < 32) : opN op (byteS s 256 k) (byteS t 256 k) = byteS (opS op s t) 256 k := by
  refine byteS_ext hk (opN_lt op _ _ (byteS_lt _ _ _) (byteS_lt _ _ _)) fun i hi => ?_
  unfold opN opS
  have h255 : Nat.testBit 255 i = true := by
    have : ∀ i, i < 8 → Nat.testBit 255 i = true := by decide
    exact this i hi
  split
  · rw [Nat.testBit_and, byteS_bit _ _ _ hk, byteS_bit _ _ _ hk]; simp [hi]
  · split
    · rw [Nat.testBit_or, byteS_bit _ _ _ hk, byteS_bit _ _ _ hk]; simp [hi]
    · split
      · rw [Nat.testBit_xor, byteS_bit _ _ _ hk, byteS_bit _ _ _ hk]; simp [hi]
      · rw [Nat.testBit_and, Nat.testBit_xor, h255, byteS_bit _ _ _ hk, byteS_bit _ _ _ hk]; simp [hi]
/-- The numbers from p on. -/
def fromS (s : Bs) (p : Nat) : Bs := fun n => decide (p ≤ n) && s n
theorem byteS_start (s : Bs) (k : Nat) (hk : k < 32) : byteS (fromS s (8 * k)) 256 k = byteS s 256 k := by
  refine byteS_ext hk (byteS_lt _ _ _) fun i hi => ?_
  rw [byteS_bit _ _ _ hk]
  unfold fromS
  simp [hi]

/-- The place of the least digit, by the table; how many digits there are. -/
def tzT : List Nat := [8, 0, 1, 0, 2, 0, 1, 0, 3, 0, 1, 0, 2, 0, 1, 0, 4, 0, 1, 0, 2, 0, 1, 0, 3, 0, 1, 0, 2, 0, 1, 0, 5, 0, 1, 0, 2, 0, 1, 0, 3, 0, 1, 0, 2, 0, 1, 0, 4, 0, 1, 0, 2, 0, 1, 0, 3, 0, 1, 0, 2, 0, 1, 0, 6, 0, 1, 0, 2, 0, 1, 0, 3, 0, 1, 0, 2, 0, 1, 0, 4, 0, 1, 0, 2, 0, 1, 0, 3, 0, 1, 0, 2, 0, 1, 0, 5, 0, 1, 0, 2, 0, 1, 0, 3, 0, 1, 0, 2, 0, 1, 0, 4, 0, 1, 0, 2, 0, 1, 0, 3, 0, 1, 0, 2, 0, 1, 0, 7, 0, 1, 0, 2, 0, 1, 0, 3, 0, 1, 0, 2, 0, 1, 0, 4, 0, 1, 0, 2, 0, 1, 0, 3, 0, 1, 0, 2, 0, 1, 0, 5, 0, 1, 0, 2, 0, 1, 0, 3, 0, 1, 0, 2, 0, 1, 0, 4, 0, 1, 0, 2, 0, 1, 0, 3, 0, 1, 0, 2, 0, 1, 0, 6, 0, 1, 0, 2, 0, 1, 0, 3, 0, 1, 0, 2, 0, 1, 0, 4, 0, 1, 0, 2, 0, 1, 0, 3, 0, 1, 0, 2, 0, 1, 0, 5, 0, 1, 0, 2, 0, 1, 0, 3, 0, 1, 0, 2, 0, 1, 0, 4, 0, 1, 0, 2, 0, 1, 0, 3, 0, 1, 0, 2, 0, 1, 0]
def onT : List Nat := [0, 1, 1, 2, 1, 2, 2, 3, 1, 2, 2, 3, 2, 3, 3, 4, 1, 2, 2, 3, 2, 3, 3, 4, 2, 3, 3, 4, 3, 4, 4, 5, 1, 2, 2, 3, 2, 3, 3, 4, 2, 3, 3, 4, 3, 4, 4, 5, 2, 3, 3, 4, 3, 4, 4, 5, 3, 4, 4, 5, 4, 5, 5, 6, 1, 2, 2, 3, 2, 3, 3, 4, 2, 3, 3, 4, 3, 4, 4, 5, 2, 3, 3, 4, 3, 4, 4, 5, 3, 4, 4, 5, 4, 5, 5, 6, 2, 3, 3, 4, 3, 4, 4, 5, 3, 4, 4, 5, 4, 5, 5, 6, 3, 4, 4, 5, 4, 5, 5, 6, 4, 5, 5, 6, 5, 6, 6, 7, 1, 2, 2, 3, 2, 3, 3, 4, 2, 3, 3, 4, 3, 4, 4, 5, 2, 3, 3, 4, 3, 4, 4, 5, 3, 4, 4, 5, 4, 5, 5, 6, 2, 3, 3, 4, 3, 4, 4, 5, 3, 4, 4, 5, 4, 5, 5, 6, 3, 4, 4, 5, 4, 5, 5, 6, 4, 5, 5, 6, 5, 6, 6, 7, 2, 3, 3, 4, 3, 4, 4, 5, 3, 4, 4, 5, 4, 5, 5, 6, 3, 4, 4, 5, 4, 5, 5, 6, 4, 5, 5, 6, 5, 6, 6, 7, 3, 4, 4, 5, 4, 5, 5, 6, 4, 5, 5, 6, 5, 6, 6, 7, 4, 5, 5, 6, 5, 6, 6, 7, 5, 6, 6, 7, 6, 7, 7, 8]
def tz (d : Nat) : Nat := tzT.getD d 0
def ones (d : Nat) : Nat := onT.getD d 0
theorem tz_all : ∀ d, d < 256 → d ≠ 0 → tz d < 8 ∧ d.testBit (tz d) = true ∧ (∀ i, i < 8 → i < tz d → d.testBit i = false) ∧ (∀ i, i < 8 → (d &&& (d - 1)).testBit i = (d.testBit i && decide (i ≠ tz d))) := by decide +kernel
theorem ones_all : ∀ d, d < 256 → ones d = ((List.range 8).filter fun i => d.testBit i).length := by decide +kernel
theorem byteS_none {s : Bs} {k p : Nat} (hk : k < 32) (h1 : 8 * k ≤ p) (h : byteS (fromS s p) 256 k = 0) (n : Nat) (hn : p ≤ n) (hn2 : n < 8 * (k + 1)) : s n = false := by
  have hb := byteS_bit (fromS s p) k (n - 8 * k) hk
  rw [h, Nat.zero_testBit, show 8 * k + (n - 8 * k) = n by omega] at hb
  unfold fromS at hb
  have h8 : n - 8 * k < 8 := by omega
  simpa [h8, hn] using hb.symm
theorem byteS_next {s : Bs} {k p : Nat} (hk : k < 32) (h1 : 8 * k ≤ p) (h : byteS (fromS s p) 256 k ≠ 0) :
    tz (byteS (fromS s p) 256 k) < 8 ∧ p ≤ 8 * k + tz (byteS (fromS s p) 256 k) ∧ s (8 * k + tz (byteS (fromS s p) 256 k)) = true ∧
      (∀ n, p ≤ n → n < 8 * k + tz (byteS (fromS s p) 256 k) → s n = false) ∧
      byteS (fromS s p) 256 k &&& (byteS (fromS s p) 256 k - 1) = byteS (fromS s (8 * k + tz (byteS (fromS s p) 256 k) + 1)) 256 k := by
  obtain ⟨g1, g2, g3, g4⟩ := tz_all _ (byteS_lt (fromS s p) 256 k) h
  generalize ht : tz (byteS (fromS s p) 256 k) = t at *
  rw [byteS_bit _ _ _ hk] at g2
  unfold fromS at g2
  simp only [Bool.and_eq_true, decide_eq_true_eq] at g2
  refine ⟨g1, g2.2.1, g2.2.2, fun n hn hn2 => ?_, ?_⟩
  · have := g3 (n - 8 * k) (by omega) (by omega)
    rw [byteS_bit _ _ _ hk, show 8 * k + (n - 8 * k) = n by omega] at this
    unfold fromS at this
    have h8 : n - 8 * k < 8 := by omega
    simpa [h8, hn] using this
  · refine byteS_ext hk ?_ fun i hi => ?_
    · exact Nat.and_lt_two_pow _ (show _ < 2 ^ 8 from Nat.lt_of_le_of_lt (Nat.sub_le _ _) (byteS_lt _ _ _))
    · rw [g4 i hi, byteS_bit _ _ _ hk]
      by_cases hit : i < t
      · have := g3 i hi hit
        rw [byteS_bit _ _ _ hk] at this
        rw [this]
        unfold fromS
        have : ¬ 8 * k + t + 1 ≤ 8 * k + i := by omega
        simp [this]
      · unfold fromS
        have h2 : p ≤ 8 * k + i := by omega
        by_cases e : i = t
        · subst e; simp; omega
        · have h3 : 8 * k + t + 1 ≤ 8 * k + i := by omega
          simp [hi, h2, e, h3]
theorem valsTo_skip {s : Bs} {p x : Nat} (h : p ≤ x) (hs : ∀ n, p ≤ n → n < x → s n = false) : valsTo s x = valsTo s p := by
  induction x with
  | zero => obtain rfl : p = 0 := by omega
            rfl
  | succ x ih =>
    by_cases e : p = x + 1
    · rw [e]
    · rw [valsTo_succ, if_neg (by rw [hs x (by omega) (by omega)]; decide), ih (by omega) fun n h1 h2 => hs n h1 (by omega)]
theorem valsTo_eight (s : Bs) (k : Nat) (hk : k < 32) : (valsTo s (8 * (k + 1))).length = (valsTo s (8 * k)).length + ones (byteS s 256 k) := by
  rw [ones_all _ (byteS_lt _ _ _)]
  unfold valsTo
  rw [show 8 * (k + 1) = 8 * k + 8 by omega, List.range_add, List.filter_append, List.length_append, List.filter_map, List.length_map]
  congr 2
  apply List.filter_congr
  intro i hi
  have := List.mem_range.1 hi
  rw [byteS_bit _ _ _ hk]
  simp [this]

/-- The numbers of a list ahead of the first that is none. -/
def goodZ (z : Int) : Bool := decide (0 ≤ z) && decide (z < 256)
/-- A span put in. -/
def spanS (s : Bs) (a b : Nat) : Bs := fun n => s n || (decide (a ≤ n) && decide (n < b))
theorem spanS_zero (s : Bs) (a : Nat) : spanS s a a = s := by
  funext n
  unfold spanS
  have : (decide (a ≤ n) && decide (n < a)) = false := by simp
  rw [this, Bool.or_false]
theorem spanS_put (s : Bs) (a b : Nat) (h : a ≤ b) : put1 (spanS s a b) b true = spanS s a (b + 1) := by
  funext n
  unfold put1 spanS
  by_cases e : n = b
  · subst e; simp [h]
  · rw [if_neg e]
    congr 2
    rw [decide_eq_decide]; omega
theorem spanS_over (s : Bs) (a b c : Nat) (h : 256 ≤ b) (hc : b ≤ c) : Same (spanS s a b) (spanS s a c) := fun n hn => by
  unfold spanS
  congr 2
  rw [decide_eq_decide]; omega
end Go.Proofs.YtbfchlfagdhglaaDoor
