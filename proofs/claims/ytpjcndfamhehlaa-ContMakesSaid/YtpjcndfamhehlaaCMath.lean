/- Sets of small numbers, and their three forms: pure mathematics. -/
import Derived.Test.YtpjcndfamhehlaaVMath
namespace Go.Proofs.Ytpjcndfamhehlaa

/-- A set: which of the numbers below 256 are there. -/
abbrev Bs := Nat → Bool
def Same (s t : Bs) : Prop := ∀ n, n < 256 → s n = t n
theorem Same.symm {s t : Bs} (h : Same s t) : Same t s := fun n hn => (h n hn).symm
theorem Same.trans {s t u : Bs} (h : Same s t) (k : Same t u) : Same s u := fun n hn => (h n hn).trans (k n hn)

/-- The numbers below k, rising. -/
def valsTo (s : Bs) (k : Nat) : List Nat := (List.range k).filter s
def vals (s : Bs) : List Nat := valsTo s 256
theorem valsTo_succ (s : Bs) (k : Nat) : valsTo s (k + 1) = if s k then valsTo s k ++ [k] else valsTo s k := by
  unfold valsTo
  rw [List.range_succ, List.filter_append]
  by_cases h : s k = true
  · rw [if_pos h]; simp [h]
  · rw [if_neg h]; simp [h]
theorem mem_valsTo {s : Bs} {k n : Nat} : n ∈ valsTo s k ↔ n < k ∧ s n = true := by
  unfold valsTo; rw [List.mem_filter, List.mem_range]
theorem valsTo_le (s : Bs) (k : Nat) : (valsTo s k).length ≤ k := by
  have := List.length_filter_le s (List.range k)
  rwa [List.length_range] at this
theorem valsTo_congr {s t : Bs} {k : Nat} (h : ∀ n, n < k → s n = t n) : valsTo s k = valsTo t k := by
  unfold valsTo
  exact List.filter_congr fun n hn => h n (List.mem_range.1 hn)
theorem vals_congr {s t : Bs} (h : Same s t) : vals s = vals t := valsTo_congr h
theorem vals_asc (s : Bs) (k : Nat) : (valsTo s k).Pairwise (· < ·) := List.Pairwise.filter s List.pairwise_lt_range

/-- The array's bytes. -/
def arrTo (s : Bs) (k : Nat) : List UInt8 := (valsTo s k).map UInt8.ofNat
theorem arrTo_succ (s : Bs) (k : Nat) : arrTo s (k + 1) = if s k then arrTo s k ++ [UInt8.ofNat k] else arrTo s k := by
  unfold arrTo
  rw [valsTo_succ]; split <;> simp
/-- The bits' bytes, of the digits ahead of place m. -/
def dg (s : Bs) (p : Nat) : Nat := if s p then 1 else 0
def byteS (s : Bs) (m k : Nat) : Nat := (List.range 8).foldr (fun j a => (if 8 * k + j < m then dg s (8 * k + j) else 0) + 2 * a) 0
def bitsTo (s : Bs) (m : Nat) : List UInt8 := (List.range 32).map fun k => UInt8.ofNat (byteS s m k)
/-- The runs, the last one first. -/
def runTo (s : Bs) : Nat → List (Nat × Nat)
  | 0 => []
  | k + 1 => if s k then
      match runTo s k with
      | [] => [(k, 0)]
      | (a, m) :: r => if a + m + 1 = k then (a, m + 1) :: r else (k, 0) :: (a, m) :: r
    else runTo s k
def flat : List (Nat × Nat) → List UInt8
  | [] => []
  | (a, m) :: r => flat r ++ [UInt8.ofNat a, UInt8.ofNat m]
theorem flat_length (l : List (Nat × Nat)) : (flat l).length = 2 * l.length := by
  induction l with
  | nil => rfl
  | cons x r ih => obtain ⟨a, m⟩ := x; simp [flat, ih]; omega
/-- Numbers in a form. -/
def formS (s : Bs) (f : Nat) : List UInt8 := if f = 1 then arrTo s 256 else if f = 2 then bitsTo s 256 else flat (runTo s 256)

/-- Which numbers the runs have. -/
def inRuns (l : List (Nat × Nat)) (n : Nat) : Prop := ∃ x ∈ l, x.1 ≤ n ∧ n ≤ x.1 + x.2
theorem runTo_spec (s : Bs) (k : Nat) : (∀ n, inRuns (runTo s k) n ↔ n < k ∧ s n = true) ∧ (∀ x ∈ runTo s k, x.1 + x.2 < k) ∧
    (∀ a m r, runTo s k = (a, m) :: r → 2 * (r.length + 1) ≤ a + m + 2 ∧ (a + m + 1 ≠ k → s (k - 1) = false)) ∧ (runTo s k = [] → ∀ n, n < k → s n = false) := by
  induction k with
  | zero => exact ⟨fun n => ⟨fun ⟨x, hx, _⟩ => by simp [runTo] at hx, fun h => by omega⟩, fun x hx => by simp [runTo] at hx, fun a m r h => by simp [runTo] at h, fun _ n hn => by omega⟩
  | succ k ih =>
    obtain ⟨h1, h2, h3, h4⟩ := ih
    by_cases hs : s k = true
    · cases e : runTo s k with
      | nil =>
        have e2 : runTo s (k + 1) = [(k, 0)] := by simp [runTo, hs, e]
        rw [e2]
        refine ⟨fun n => ⟨?_, ?_⟩, ?_, ?_, ?_⟩
        · rintro ⟨x, hx, ha, hb⟩
          rw [List.mem_singleton] at hx; subst hx
          obtain rfl : n = k := by simp at ha hb; omega
          exact ⟨by omega, hs⟩
        · rintro ⟨hn, hsn⟩
          by_cases hnk : n = k
          · subst hnk; exact ⟨_, List.mem_singleton.2 rfl, by simp, by simp⟩
          · have := h4 e n (by omega)
            rw [this] at hsn; cases hsn
        · intro x hx; rw [List.mem_singleton] at hx; subst hx; simp
        · intro a m r h; cases h; exact ⟨by simp, by simp⟩
        · intro h; cases h
      | cons x r =>
        obtain ⟨a, m⟩ := x
        obtain ⟨h31, h32⟩ := h3 a m r e
        have hlt := h2 (a, m) (by rw [e]; exact List.mem_cons_self ..)
        simp only at hlt
        by_cases hj : a + m + 1 = k
        · have e2 : runTo s (k + 1) = (a, m + 1) :: r := by simp [runTo, hs, e, hj]
          rw [e2]
          refine ⟨fun n => ⟨?_, ?_⟩, ?_, ?_, ?_⟩
          · rintro ⟨x, hx, ha, hb⟩
            rcases List.mem_cons.1 hx with rfl | hx
            · by_cases hnk : n = k
              · subst hnk; exact ⟨by omega, hs⟩
              · have := (h1 n).1 ⟨(a, m), by rw [e]; exact List.mem_cons_self .., ha, by simp at hb ⊢; omega⟩
                exact ⟨by omega, this.2⟩
            · have := (h1 n).1 ⟨x, by rw [e]; exact List.mem_cons_of_mem _ hx, ha, hb⟩
              exact ⟨by omega, this.2⟩
          · rintro ⟨hn, hsn⟩
            by_cases hnk : n = k
            · subst hnk; exact ⟨_, List.mem_cons_self .., by simp; omega, by simp; omega⟩
            · obtain ⟨x, hx, ha, hb⟩ := (h1 n).2 ⟨by omega, hsn⟩
              rw [e] at hx
              rcases List.mem_cons.1 hx with rfl | hx
              · exact ⟨_, List.mem_cons_self .., ha, by simp at hb ⊢; omega⟩
              · exact ⟨x, List.mem_cons_of_mem _ hx, ha, hb⟩
          · intro x hx
            rcases List.mem_cons.1 hx with rfl | hx
            · simp; omega
            · have := h2 x (by rw [e]; exact List.mem_cons_of_mem _ hx); omega
          · intro a' m' r' h; cases h; exact ⟨by omega, fun h => by omega⟩
          · intro h; cases h
        · have e2 : runTo s (k + 1) = (k, 0) :: (a, m) :: r := by simp [runTo, hs, e, hj]
          rw [e2]
          refine ⟨fun n => ⟨?_, ?_⟩, ?_, ?_, ?_⟩
          · rintro ⟨x, hx, ha, hb⟩
            rcases List.mem_cons.1 hx with rfl | hx
            · obtain rfl : n = k := by simp at ha hb; omega
              exact ⟨by omega, hs⟩
            · have := (h1 n).1 ⟨x, by rw [e]; exact hx, ha, hb⟩
              exact ⟨by omega, this.2⟩
          · rintro ⟨hn, hsn⟩
            by_cases hnk : n = k
            · subst hnk; exact ⟨_, List.mem_cons_self .., by simp, by simp⟩
            · obtain ⟨x, hx, ha, hb⟩ := (h1 n).2 ⟨by omega, hsn⟩
              rw [e] at hx
              exact ⟨x, List.mem_cons_of_mem _ hx, ha, hb⟩
          · intro x hx
            rcases List.mem_cons.1 hx with rfl | hx
            · simp
            · have := h2 x (by rw [e]; exact hx); omega
          · intro a' m' r' h
            cases h
            refine ⟨?_, fun h => absurd rfl h⟩
            simp only [List.length_cons]
            omega
          · intro h; cases h
    · have e2 : runTo s (k + 1) = runTo s k := by simp [runTo, hs]
      rw [e2]
      refine ⟨fun n => ⟨fun h => ?_, fun ⟨hn, hsn⟩ => ?_⟩, fun x hx => by have := h2 x hx; omega, fun a m r h => ⟨(h3 a m r h).1, fun _ => by simpa using hs⟩, fun h n hn => ?_⟩
      · have := (h1 n).1 h; exact ⟨by omega, this.2⟩
      · by_cases hnk : n = k
        · subst hnk; exact absurd hsn hs
        · exact (h1 n).2 ⟨by omega, hsn⟩
      · by_cases hnk : n = k
        · subst hnk; simpa using hs
        · exact h4 h n (by omega)

/-! ### The numbers that bytes have, and back -/
def setA (d : List UInt8) : Bs := fun n => d.any fun b => b.toNat == n
def setB (d : List UInt8) : Bs := fun n => (d[n / 8]?.getD 0).toNat / 2 ^ (n % 8) % 2 == 1
def setR : List UInt8 → Bs
  | a :: m :: r => fun n => (decide (a.toNat ≤ n) && decide (n ≤ a.toNat + m.toNat)) || setR r n
  | _ => fun _ => false
def setOf (f : Nat) (d : List UInt8) : Bs := if f = 1 then setA d else if f = 2 then setB d else if f = 3 then setR d else fun _ => false

theorem setA_arr (s : Bs) (k : Nat) (hk : k ≤ 256) (n : Nat) : setA (arrTo s k) n = true ↔ n < k ∧ s n = true := by
  unfold setA arrTo
  rw [List.any_eq_true]
  constructor
  · rintro ⟨b, hb, e⟩
    obtain ⟨x, hx, rfl⟩ := List.mem_map.1 hb
    have h := mem_valsTo.1 hx
    have e2 : x % 256 = n := by simpa using e
    rw [Nat.mod_eq_of_lt (by omega)] at e2
    subst e2; exact h
  · rintro ⟨hn, hs⟩
    refine ⟨UInt8.ofNat n, List.mem_map.2 ⟨n, mem_valsTo.2 ⟨hn, hs⟩, rfl⟩, ?_⟩
    simp; omega
theorem dg_lt (s : Bs) (p : Nat) : dg s p < 2 := by unfold dg; split <;> omega
/-- Eight digits, the least one first. -/
def val8 (f : Nat → Nat) : Nat → Nat → Nat
  | 0, _ => 0
  | n + 1, j => f j + 2 * val8 f n (j + 1)
theorem val8_lt {f : Nat → Nat} (hf : ∀ j, f j < 2) : ∀ n j, val8 f n j < 2 ^ n
  | 0, _ => by simp [val8]
  | n + 1, j => by
    have h1 := val8_lt hf n (j + 1); have h2 := hf j
    rw [val8, Nat.pow_succ]; omega
theorem val8_digit {f : Nat → Nat} (hf : ∀ j, f j < 2) : ∀ n j i, i < n → val8 f n j / 2 ^ i % 2 = f (j + i)
  | 0, _, i, h => by omega
  | n + 1, j, 0, _ => by have := hf j; rw [val8]; simp; omega
  | n + 1, j, i + 1, h => by
    have h2 := hf j
    rw [val8, Nat.pow_succ, Nat.mul_comm (2 ^ i) 2, ← Nat.div_div_eq_div_mul, show (f j + 2 * val8 f n (j + 1)) / 2 = val8 f n (j + 1) by omega, val8_digit hf n (j + 1) i (by omega)]
    congr 1; omega
theorem byteS_val (s : Bs) (m k : Nat) : byteS s m k = val8 (fun j => if 8 * k + j < m then dg s (8 * k + j) else 0) 8 0 := by
  unfold byteS
  rw [show List.range 8 = [0, 1, 2, 3, 4, 5, 6, 7] from rfl]
  simp only [List.foldr_cons, List.foldr_nil, val8]
theorem byteS_lt (s : Bs) (m k : Nat) : byteS s m k < 256 := by
  rw [byteS_val]
  exact val8_lt (fun j => by split; exact dg_lt _ _; decide) 8 0
theorem byteS_digit (s : Bs) (m k i : Nat) (hi : i < 8) : byteS s m k / 2 ^ i % 2 = if 8 * k + i < m then dg s (8 * k + i) else 0 := by
  rw [byteS_val, val8_digit (fun j => by split; exact dg_lt _ _; decide) 8 0 i hi, Nat.zero_add]
theorem setB_bits (s : Bs) (n : Nat) (h : n < 256) : setB (bitsTo s 256) n = s n := by
  unfold setB bitsTo
  rw [List.getElem?_map, List.getElem?_range (by omega)]
  show ((UInt8.ofNat (byteS s 256 (n / 8))).toNat / 2 ^ (n % 8) % 2 == 1) = s n
  have hlt := byteS_lt s 256 (n / 8)
  rw [ofNat_toNat _ (by simpa using hlt), byteS_digit _ _ _ _ (by omega), show 8 * (n / 8) + n % 8 = n by omega, if_pos h]
  unfold dg
  cases s n <;> rfl
theorem setR_snoc (d : List UInt8) (hd : d.length % 2 = 0) (a m : UInt8) (n : Nat) : setR (d ++ [a, m]) n = (setR d n || (decide (a.toNat ≤ n) && decide (n ≤ a.toNat + m.toNat))) := by
  match d, hd with
  | [], _ => simp [setR]
  | [x], h => simp at h
  | x :: y :: r, h =>
    have := setR_snoc r (by simp at h; omega) a m n
    simp only [List.cons_append, setR, this, Bool.or_assoc]
theorem setR_flat (l : List (Nat × Nat)) (hl : ∀ x ∈ l, x.1 + x.2 < 256) (n : Nat) : setR (flat l) n = true ↔ inRuns l n := by
  induction l with
  | nil => constructor
           · intro h; simp [flat, setR] at h
           · rintro ⟨x, hx, _⟩; cases hx
  | cons x r ih =>
    obtain ⟨a, m⟩ := x
    have h1 := hl (a, m) (List.mem_cons_self ..)
    simp only at h1
    rw [flat, setR_snoc _ (by rw [flat_length]; omega), Bool.or_eq_true, ih (fun x hx => hl x (List.mem_cons_of_mem _ hx)), ofNat_toNat _ (by omega), ofNat_toNat _ (by omega)]
    constructor
    · rintro (⟨x, hx, h⟩ | h)
      · exact ⟨x, List.mem_cons_of_mem _ hx, h⟩
      · exact ⟨(a, m), List.mem_cons_self .., by simpa using h⟩
    · rintro ⟨x, hx, h⟩
      rcases List.mem_cons.1 hx with rfl | hx
      · exact .inr (by simpa using h)
      · exact .inl ⟨x, hx, h⟩
theorem setR_runs (s : Bs) (n : Nat) (h : n < 256) : setR (flat (runTo s 256)) n = s n := by
  obtain ⟨h1, h2, _, _⟩ := runTo_spec s 256
  have e := (setR_flat (runTo s 256) h2 n).trans (h1 n)
  rw [Bool.eq_iff_iff, e]
  exact ⟨fun h => h.2, fun k => ⟨h, k⟩⟩
theorem set_form (s : Bs) (f : Nat) (h1 : 1 ≤ f) (h3 : f ≤ 3) : Same (setOf f (formS s f)) s := by
  intro n hn
  unfold setOf formS
  have hf : f = 1 ∨ f = 2 ∨ f = 3 := by omega
  rcases hf with rfl | rfl | rfl
  · have := setA_arr s 256 (Nat.le_refl _) n
    rw [if_pos rfl, if_pos rfl, Bool.eq_iff_iff, this]; exact ⟨fun h => h.2, fun k => ⟨hn, k⟩⟩
  · exact setB_bits s n hn
  · exact setR_runs s n hn

theorem runTo_congr {s t : Bs} {k : Nat} (h : ∀ n, n < k → s n = t n) : runTo s k = runTo t k := by
  induction k with
  | zero => rfl
  | succ k ih => simp only [runTo, h k (by omega), ih (fun n hn => h n (by omega))]
theorem byteS_congr {s t : Bs} {m : Nat} (h : ∀ n, n < m → s n = t n) (k : Nat) : byteS s m k = byteS t m k := by
  rw [byteS_val, byteS_val]
  congr 1
  funext j
  split
  · unfold dg; rw [h _ (by assumption)]
  · rfl
theorem form_congr {s t : Bs} (h : Same s t) (f : Nat) : formS s f = formS t f := by
  have h1 : arrTo s 256 = arrTo t 256 := congrArg (List.map UInt8.ofNat) (valsTo_congr h)
  have h2 : bitsTo s 256 = bitsTo t 256 := List.map_congr_left fun k _ => congrArg UInt8.ofNat (byteS_congr h k)
  have h3 : runTo s 256 = runTo t 256 := runTo_congr h
  unfold formS
  rw [h1, h2, h3]

/-! ### Containers -/
/-- A container: its form, and its bytes. -/
def RightC (f : Int) (d : List UInt8) : Prop := 1 ≤ f ∧ f ≤ 3 ∧ d.length ≤ 256 ∧ d = formS (setOf f.toNat d) f.toNat
instance (f : Int) (d : List UInt8) : Decidable (RightC f d) := by unfold RightC; infer_instance
theorem runTo_length (s : Bs) (k : Nat) : 2 * (runTo s k).length ≤ k + 1 := by
  obtain ⟨_, h2, h3, _⟩ := runTo_spec s k
  cases e : runTo s k with
  | nil => simp
  | cons x r =>
    obtain ⟨a, m⟩ := x
    have h4 := h2 (a, m) (by rw [e]; exact List.mem_cons_self ..)
    have := (h3 a m r e).1
    simp only [List.length_cons] at *; omega
theorem arrTo_length (s : Bs) (k : Nat) : (arrTo s k).length = (valsTo s k).length := by unfold arrTo; rw [List.length_map]
theorem bitsTo_length (s : Bs) (m : Nat) : (bitsTo s m).length = 32 := by simp [bitsTo]
theorem form_length (s : Bs) (f : Nat) : (formS s f).length ≤ 256 := by
  unfold formS
  split
  · rw [arrTo_length]; exact valsTo_le s 256
  · split
    · rw [bitsTo_length]; decide
    · have := runTo_length s 256
      rw [flat_length]; omega
theorem right_form (s : Bs) {f : Nat} (h1 : 1 ≤ f) (h3 : f ≤ 3) : RightC f (formS s f) := by
  refine ⟨by omega, by omega, form_length s f, ?_⟩
  rw [Int.toNat_natCast]
  exact (form_congr (set_form s f h1 h3) f).symm
/-- Two containers of a form that have the same numbers are one. -/
theorem right_same {f : Int} {d e : List UInt8} (h : RightC f d) (k : RightC f e) (hs : Same (setOf f.toNat d) (setOf f.toNat e)) : d = e := by
  rw [h.2.2.2, k.2.2.2]; exact form_congr hs _

/-- The best form. -/
def bestF (s : Bs) : Nat := if (formS s 1).length ≤ (formS s 3).length ∧ (formS s 1).length ≤ 32 then 1 else if (formS s 3).length ≤ 32 then 3 else 2
def bestD (s : Bs) : List UInt8 := formS s (bestF s)
theorem bestF_form (s : Bs) : 1 ≤ bestF s ∧ bestF s ≤ 3 := by unfold bestF; split; decide; split <;> decide
theorem bestF_congr {s t : Bs} (h : Same s t) : bestF s = bestF t := by unfold bestF; rw [form_congr h, form_congr h]
theorem bestD_congr {s t : Bs} (h : Same s t) : bestD s = bestD t := by unfold bestD; rw [bestF_congr h, form_congr h]
theorem best_right (s : Bs) : RightC (bestF s : Nat) (bestD s) := right_form s (bestF_form s).1 (bestF_form s).2
theorem best_set (s : Bs) : Same (setOf (bestF s) (bestD s)) s := set_form s _ (bestF_form s).1 (bestF_form s).2
theorem best_le (s : Bs) {f : Nat} (h1 : 1 ≤ f) (h3 : f ≤ 3) : (bestD s).length ≤ (formS s f).length := by
  have e2 : (formS s 2).length = 32 := bitsTo_length s 256
  have hf : f = 1 ∨ f = 2 ∨ f = 3 := by omega
  have h : (bestD s).length = (formS s (bestF s)).length := rfl
  have h5 : (formS s f).length = (if f = 1 then (formS s 1).length else if f = 2 then (formS s 2).length else (formS s 3).length) := by rcases hf with rfl | rfl | rfl <;> rfl
  rw [h, h5]
  unfold bestF
  by_cases g1 : (formS s 1).length ≤ (formS s 3).length ∧ (formS s 1).length ≤ 32
  · rw [if_pos g1]; generalize (formS s 1).length = x at *; generalize (formS s 3).length = y at *; split; omega; split <;> omega
  · rw [if_neg g1]
    by_cases g2 : (formS s 3).length ≤ 32
    · rw [if_pos g2]; generalize (formS s 1).length = x at *; generalize (formS s 3).length = y at *; split; omega; split <;> omega
    · rw [if_neg g2]; generalize (formS s 1).length = x at *; generalize (formS s 3).length = y at *; split; omega; split <;> omega
theorem best_32 (s : Bs) : (bestD s).length ≤ 32 := by have := best_le s (f := 2) (by decide) (by decide); rwa [show (formS s 2).length = 32 from bitsTo_length s 256] at this
theorem best_count (s : Bs) : (bestD s).length ≤ (vals s).length := by have := best_le s (f := 1) (by decide) (by decide); rwa [show (formS s 1).length = (vals s).length from arrTo_length s 256] at this

/-! ### Numbers, ranks, places -/
def rankS (s : Bs) (n : Int) : Nat := (valsTo s (min 256 (n + 1).toNat)).length
theorem rank_step (s : Bs) (n : Nat) (hn : n < 256) : rankS s n = rankS s (n - 1 : Int) + (if s n then 1 else 0) := by
  unfold rankS
  rw [show min 256 ((n : Int) + 1).toNat = n + 1 by omega, show min 256 ((n : Int) - 1 + 1).toNat = n by omega, valsTo_succ]
  split <;> simp
theorem valsTo_take (s : Bs) (k m : Nat) : k ≤ m → ∃ r, valsTo s m = valsTo s k ++ r ∧ ∀ x ∈ r, k ≤ x := by
  intro h
  obtain ⟨j, rfl⟩ : ∃ j, m = k + j := ⟨m - k, by omega⟩
  refine ⟨((List.range j).map (k + ·)).filter s, ?_, ?_⟩
  · unfold valsTo; rw [List.range_add, List.filter_append]
  · intro x hx
    have := (List.mem_filter.1 hx).1
    obtain ⟨y, _, rfl⟩ := List.mem_map.1 this
    omega
/-- The number of a place. -/
theorem place_rank (s : Bs) {p n : Nat} (h : (vals s)[p]? = some n) : n < 256 ∧ s n = true ∧ (valsTo s n).length = p := by
  have hm := mem_valsTo.1 (List.mem_of_getElem? h)
  refine ⟨hm.1, hm.2, ?_⟩
  obtain ⟨r, e, hr⟩ := valsTo_take s (n + 1) 256 (by omega)
  rw [valsTo_succ s n, if_pos hm.2] at e
  have hk : (vals s)[(valsTo s n).length]? = some n := by
    show (valsTo s 256)[_]? = _
    rw [e, List.getElem?_append_left (by simp), List.getElem?_append_right (Nat.le_refl _)]; simp
  obtain ⟨h1, e1⟩ := List.getElem?_eq_some_iff.1 h
  obtain ⟨h2, e2⟩ := List.getElem?_eq_some_iff.1 hk
  have ha := List.pairwise_iff_getElem.1 (vals_asc s 256)
  rcases Nat.lt_trichotomy p (valsTo s n).length with hlt | heq | hgt
  · have h5 : (vals s)[p] < (vals s)[(valsTo s n).length] := ha _ _ h1 h2 hlt
    rw [e1, e2] at h5; omega
  · exact heq.symm
  · have h5 : (vals s)[(valsTo s n).length] < (vals s)[p] := ha _ _ h2 h1 hgt
    rw [e1, e2] at h5; omega

/-! ### Sets of two -/
def opS (op : Nat) (s t : Bs) : Bs := fun n => if op = 1 then s n && t n else if op = 2 then s n || t n else if op = 3 then s n != t n else s n && !t n
theorem count_two (s t : Bs) (k : Nat) : (valsTo s k).length + (valsTo t k).length = (valsTo (fun n => s n || t n) k).length + (valsTo (fun n => s n && t n) k).length := by
  induction k with
  | zero => rfl
  | succ k ih =>
    simp only [valsTo_succ]
    cases s k <;> cases t k <;> simp <;> omega
def flipS (s : Bs) (i k : Int) : Bs := fun n => if i ≤ n ∧ (n : Int) < k then !s n else s n
theorem flip_twice (s : Bs) (i k : Int) : flipS (flipS s i k) i k = s := by
  funext n
  unfold flipS
  by_cases h : i ≤ n ∧ (n : Int) < k
  · rw [if_pos h, if_pos h, Bool.not_not]
  · rw [if_neg h, if_neg h]
theorem flip_congr {s t : Bs} (h : Same s t) (i k : Int) : Same (flipS s i k) (flipS t i k) := fun n hn => by unfold flipS; rw [h n hn]
theorem op_congr {s t u v : Bs} (h : Same s u) (k : Same t v) (op : Nat) : Same (opS op s t) (opS op u v) := fun n hn => by unfold opS; rw [h n hn, k n hn]
/-- The set of a list of numbers. -/
def ofL (l : List Int) : Bs := fun n => l.any fun (z : Int) => z == (n : Int)
theorem ofL_vals (s : Bs) : Same (ofL ((vals s).map (fun n : Nat => (n : Int)))) s := by
  intro n hn
  rw [Bool.eq_iff_iff]
  unfold ofL
  rw [List.any_eq_true]
  constructor
  · rintro ⟨z, hz, e⟩
    obtain ⟨m, hm, rfl⟩ := List.mem_map.1 hz
    have : m = n := by have := eq_of_beq e; omega
    subst this; exact (mem_valsTo.1 hm).2
  · intro h
    exact ⟨n, List.mem_map.2 ⟨n, mem_valsTo.2 ⟨hn, h⟩, rfl⟩, by simp⟩
end Go.Proofs.Ytpjcndfamhehlaa
