/- Small numbers bit by bit, and the document's words on lists of bytes: pure mathematics. -/
import Derived.Test.YtmimepjokkcbeaaDoorVMath
namespace Go.Proofs.YtmimepjokkcbeaaDoor

/-- How many binary digits n has. -/
def wd (n : Nat) : Nat := if n = 0 then 0 else wd (n / 2) + 1
termination_by n
decreasing_by omega
theorem wd_zero : wd 0 = 0 := by rw [wd, if_pos rfl]
theorem wd_pos {n : Nat} (h : n ≠ 0) : wd n = wd (n / 2) + 1 := by rw [wd, if_neg h]
theorem wd_le : ∀ {k n : Nat}, wd n ≤ k ↔ n < 2 ^ k
  | 0, n => by
    by_cases h : n = 0
    · subst h; simp [wd_zero]
    · rw [wd_pos h]; omega
  | k + 1, n => by
    by_cases h : n = 0
    · subst h; simp [wd_zero]; exact Nat.pow_pos (by decide)
    · rw [wd_pos h, Nat.add_le_add_iff_right, wd_le (k := k), Nat.pow_succ]
      omega
theorem wd_mono {a b : Nat} (h : a ≤ b) : wd a ≤ wd b := wd_le.2 (Nat.lt_of_le_of_lt h (wd_le.1 (Nat.le_refl _)))
theorem wd_max (a b : Nat) : wd (max a b) = max (wd a) (wd b) := by
  rcases Nat.le_total a b with h | h
  · rw [Nat.max_eq_right h, Nat.max_eq_right (wd_mono h)]
  · rw [Nat.max_eq_left h, Nat.max_eq_left (wd_mono h)]
theorem lt_wd (n : Nat) : n < 2 ^ wd n := wd_le.1 (Nat.le_refl _)
theorem wd_div (n : Nat) : wd (n / 2) = wd n - 1 := by
  by_cases h : n = 0
  · subst h; simp [wd_zero]
  · rw [wd_pos h]; omega
theorem wd_shift (n k : Nat) (h : 2 ^ k ≤ n) : wd n = wd (n / 2 ^ k) + k := by
  induction k generalizing n with
  | zero => simp
  | succ k ih =>
    have hp : 0 < 2 ^ k := Nat.pow_pos (by decide)
    rw [Nat.pow_succ] at h
    rw [wd_pos (n := n) (by omega), ih (n / 2) (by omega), Nat.div_div_eq_div_mul, Nat.pow_succ, Nat.mul_comm 2 (2 ^ k)]
    omega

/-- The greatest one of a list. -/
def mostN : List Nat → Nat
  | [] => 0
  | n :: r => max n (mostN r)
theorem mostN_snoc (l : List Nat) (n : Nat) : mostN (l ++ [n]) = max (mostN l) n := by
  induction l with
  | nil => simp [mostN]
  | cons a r ih => simp only [List.cons_append, mostN, ih]; omega
theorem le_mostN {l : List Nat} {n : Nat} (h : n ∈ l) : n ≤ mostN l := by
  induction l with
  | nil => cases h
  | cons a r ih =>
    simp only [mostN]
    rcases List.mem_cons.1 h with rfl | h
    · omega
    · have := ih h; omega
theorem mostN_lt {l : List Nat} {b : Nat} (hb : 0 < b) (h : ∀ n ∈ l, n < b) : mostN l < b := by
  induction l with
  | nil => exact hb
  | cons a r ih =>
    have h1 := h a (List.mem_cons_self ..)
    have h2 := ih (fun n hn => h n (List.mem_cons_of_mem _ hn))
    simp only [mostN]; omega
theorem mostN_mem {l : List Nat} (h : mostN l ≠ 0) : mostN l ∈ l := by
  induction l with
  | nil => exact absurd rfl h
  | cons a r ih =>
    simp only [mostN] at h ⊢
    by_cases hr : mostN r ≤ a
    · rw [Nat.max_eq_left hr]; exact List.mem_cons_self ..
    · rw [Nat.max_eq_right (by omega)]; exact List.mem_cons_of_mem _ (ih (by omega))
/-- The width. -/
def wdl (l : List Nat) : Nat := wd (mostN l)
theorem wdl_snoc (l : List Nat) (n : Nat) : wdl (l ++ [n]) = max (wdl l) (wd n) := by unfold wdl; rw [mostN_snoc, wd_max]
theorem lt_wdl {l : List Nat} {n : Nat} (h : n ∈ l) : n < 2 ^ wdl l := Nat.lt_of_le_of_lt (le_mostN h) (lt_wd _)
theorem getD_lt_wdl (l : List Nat) (i : Nat) : l.getD i 0 < 2 ^ wdl l := by
  rw [List.getD_eq_getElem?_getD]
  cases e : l[i]? with
  | none => exact Nat.pow_pos (by decide)
  | some n => exact lt_wdl (List.mem_of_getElem? e)
theorem wdl_le {l : List Nat} {k : Nat} (h : ∀ n ∈ l, n < 2 ^ k) : wdl l ≤ k := wd_le.2 (mostN_lt (Nat.pow_pos (by decide)) h)

/-- The number whose n digits stand at a, a + 1, .. -/
def val (f : Nat → Nat) (a : Nat) : Nat → Nat
  | 0 => 0
  | n + 1 => 2 * val f a n + f (a + n)
theorem val_succ (f : Nat → Nat) (a n : Nat) : val f a (n + 1) = 2 * val f a n + f (a + n) := rfl
theorem val_congr {f g : Nat → Nat} {a : Nat} : ∀ {n : Nat}, (∀ j, j < n → f (a + j) = g (a + j)) → val f a n = val g a n
  | 0, _ => rfl
  | n + 1, h => by rw [val_succ, val_succ, val_congr (fun j hj => h j (by omega)), h n (by omega)]
theorem val_split (f : Nat → Nat) (a m : Nat) : ∀ n, val f a (m + n) = val f a m * 2 ^ n + val f (a + m) n
  | 0 => by simp [val]
  | n + 1 => by
    rw [← Nat.add_assoc, val_succ, val_split f a m n, val_succ, Nat.pow_succ, Nat.mul_add, ← Nat.add_assoc a m n, ← Nat.mul_assoc (val f a m), Nat.mul_comm _ 2]
    omega
theorem val_zero {f : Nat → Nat} {a : Nat} : ∀ {n : Nat}, (∀ j, j < n → f (a + j) = 0) → val f a n = 0
  | 0, _ => rfl
  | n + 1, h => by rw [val_succ, val_zero (fun j hj => h j (by omega)), h n (by omega)]
theorem zero_of_val {f : Nat → Nat} {a : Nat} : ∀ {n : Nat}, val f a n = 0 → ∀ j, j < n → f (a + j) = 0
  | 0, _, j, hj => absurd hj (by omega)
  | n + 1, h, j, hj => by
    rw [val_succ] at h
    by_cases e : j = n
    · subst e; omega
    · exact zero_of_val (n := n) (by omega) j (by omega)
theorem val_lt {f : Nat → Nat} (hf : ∀ p, f p < 2) (a : Nat) : ∀ n, val f a n < 2 ^ n
  | 0 => by simp [val]
  | n + 1 => by
    have h1 := val_lt hf a n
    have h2 := hf (a + n)
    rw [val_succ, Nat.pow_succ]; omega
/-- The digits of what the digits come to. -/
theorem val_digit {f : Nat → Nat} (hf : ∀ p, f p < 2) (a n : Nat) {j : Nat} (hj : j < n) : val f a n / 2 ^ (n - 1 - j) % 2 = f (a + j) := by
  obtain ⟨k, rfl⟩ : ∃ k, n = j + 1 + k := ⟨n - (j + 1), by omega⟩
  have h1 := val_lt hf (a + (j + 1)) k
  have h2 := hf (a + j)
  rw [show j + 1 + k - 1 - j = k by omega, val_split, val_succ, Nat.mul_comm, Nat.mul_add_div (Nat.pow_pos (by decide)), Nat.div_eq_of_lt h1]
  omega
/-- A number's digits come to it. -/
theorem val_of {f : Nat → Nat} {a x : Nat} : ∀ {n : Nat}, (∀ j, j < n → f (a + j) = x / 2 ^ (n - 1 - j) % 2) → val f a n = x % 2 ^ n
  | 0, _ => by simp [val, Nat.mod_one]
  | n + 1, h => by
    have ih := val_of (f := f) (a := a) (x := x / 2) (n := n) (fun j hj => by
      rw [h j (by omega), Nat.div_div_eq_div_mul, show n + 1 - 1 - j = n - 1 - j + 1 by omega, Nat.pow_succ, Nat.mul_comm])
    have h0 := h n (by omega)
    rw [show n + 1 - 1 - n = 0 by omega, Nat.pow_zero, Nat.div_one] at h0
    rw [val_succ, ih, h0, Nat.pow_succ, Nat.mul_comm (2 ^ n) 2, Nat.mod_mul]
    omega

/-- Digit p of numbers of width w, one behind the other. -/
def dgt (l : List Nat) (w p : Nat) : Nat := l.getD (p / w) 0 / 2 ^ (w - 1 - p % w) % 2
theorem dgt_lt (l : List Nat) (w p : Nat) : dgt l w p < 2 := Nat.mod_lt _ (by decide)
theorem dgt_at {l : List Nat} {w i j : Nat} (hj : j < w) : dgt l w (i * w + j) = l.getD i 0 / 2 ^ (w - 1 - j) % 2 := by
  unfold dgt
  rw [Nat.mul_comm, Nat.mul_add_div (by omega), Nat.div_eq_of_lt hj, Nat.mul_add_mod, Nat.mod_eq_of_lt hj, Nat.add_zero]
theorem dgt_over {l : List Nat} {w p : Nat} (hw : 0 < w) (h : l.length * w ≤ p) : dgt l w p = 0 := by
  have : l.length ≤ p / w := (Nat.le_div_iff_mul_le hw).2 h
  unfold dgt
  rw [List.getD_eq_getElem?_getD, List.getElem?_eq_none this]
  simp
/-- How many bytes n numbers of width w have. -/
def szOf (n w : Nat) : Nat := (n * w + 7) / 8
theorem szOf_zero (n : Nat) : szOf n 0 = 0 := by simp [szOf]
/-- The bytes behind the width. -/
def bytesOf (w : Nat) (l : List Nat) : List UInt8 := (List.range (szOf l.length w)).map fun k => UInt8.ofNat (val (dgt l w) (8 * k) 8)
theorem bytesOf_length (w : Nat) (l : List Nat) : (bytesOf w l).length = szOf l.length w := by simp [bytesOf]
theorem bytesOf_get {w : Nat} {l : List Nat} {k : Nat} (h : k < szOf l.length w) : (bytesOf w l).getD k 0 = UInt8.ofNat (val (dgt l w) (8 * k) 8) := by
  unfold bytesOf
  rw [List.getD_eq_getElem?_getD, List.getElem?_map, List.getElem?_range h]
  rfl
/-- A list's bytes. -/
def packP (l : List Nat) : List UInt8 := vput l.length ++ UInt8.ofNat (wdl l) :: bytesOf (wdl l) l

/-- Digit p of bytes. -/
def tgt (t : List UInt8) (p : Nat) : Nat := (t.getD (p / 8) 0).toNat / 2 ^ (7 - p % 8) % 2
theorem tgt_lt (t : List UInt8) (p : Nat) : tgt t p < 2 := Nat.mod_lt _ (by decide)
theorem tgt_at {t : List UInt8} {k j : Nat} (hj : j < 8) : tgt t (8 * k + j) = (t.getD k 0).toNat / 2 ^ (7 - j) % 2 := by
  unfold tgt
  rw [Nat.mul_add_div (by decide), Nat.div_eq_of_lt hj, Nat.mul_add_mod, Nat.mod_eq_of_lt hj, Nat.add_zero]
theorem tgt_byte (t : List UInt8) (k : Nat) : val (tgt t) (8 * k) 8 = (t.getD k 0).toNat := by
  rw [val_of (x := (t.getD k 0).toNat) (n := 8) (fun j hj => tgt_at hj), Nat.mod_eq_of_lt (UInt8.toNat_lt _)]
/-- The numbers that bytes have. -/
def numsOf (w n : Nat) (t : List UInt8) : List Nat := (List.range n).map fun i => val (tgt t) (i * w) w
theorem numsOf_length (w n : Nat) (t : List UInt8) : (numsOf w n t).length = n := by simp [numsOf]
theorem numsOf_get {w n : Nat} {t : List UInt8} {i : Nat} (h : i < n) : (numsOf w n t).getD i 0 = val (tgt t) (i * w) w := by
  unfold numsOf
  rw [List.getD_eq_getElem?_getD, List.getElem?_map, List.getElem?_range h]
  rfl
theorem numsOf_lt {w n : Nat} {t : List UInt8} : ∀ x ∈ numsOf w n t, x < 2 ^ w := fun x hx => by
  unfold numsOf at hx
  obtain ⟨i, _, rfl⟩ := List.mem_map.1 hx
  exact val_lt (tgt_lt t) _ _
/-- What the digits behind the last number come to. -/
def behindOf (w n : Nat) (t : List UInt8) : Nat := val (tgt t) (n * w) (8 * szOf n w - n * w)
theorem behindOf_lt (w n : Nat) (t : List UInt8) : behindOf w n t < 128 := by
  have h := val_lt (tgt_lt t) (n * w) (8 * szOf n w - n * w)
  have h2 : 8 * szOf n w - n * w ≤ 7 := by unfold szOf; omega
  exact Nat.lt_of_lt_of_le h (Nat.pow_le_pow_right (by decide) h2)
theorem sz_ge (n w : Nat) : n * w ≤ 8 * szOf n w := by unfold szOf; omega

theorem list_ext {a b : List Nat} (hl : a.length = b.length) (h : ∀ i, i < a.length → a.getD i 0 = b.getD i 0) : a = b := by
  apply List.ext_getElem hl
  intro i h1 h2
  have := h i h1
  rwa [List.getD_eq_getElem?_getD, List.getD_eq_getElem?_getD, List.getElem?_eq_getElem h1, List.getElem?_eq_getElem h2] at this
theorem list_ext8 {a b : List UInt8} (hl : a.length = b.length) (h : ∀ i, i < a.length → (a.getD i 0).toNat = (b.getD i 0).toNat) : a = b := by
  apply List.ext_getElem hl
  intro i h1 h2
  have := h i h1
  rw [List.getD_eq_getElem?_getD, List.getD_eq_getElem?_getD, List.getElem?_eq_getElem h1, List.getElem?_eq_getElem h2] at this
  exact UInt8.toNat_inj.1 this

theorem tgt_bytesOf {w : Nat} {l : List Nat} {r : List UInt8} {p : Nat} (h : p < 8 * szOf l.length w) : tgt (bytesOf w l ++ r) p = dgt l w p := by
  have hk : p / 8 < szOf l.length w := by omega
  have hg : (bytesOf w l ++ r).getD (p / 8) 0 = UInt8.ofNat (val (dgt l w) (8 * (p / 8)) 8) := by
    rw [List.getD_eq_getElem?_getD, List.getElem?_append_left (by rw [bytesOf_length]; exact hk), ← List.getD_eq_getElem?_getD, bytesOf_get hk]
  have hv := val_lt (dgt_lt l w) (8 * (p / 8)) 8
  unfold tgt
  rw [hg, ofNat_toNat _ (by simpa using hv), show 7 - p % 8 = 8 - 1 - p % 8 by omega, val_digit (dgt_lt l w) _ _ (Nat.mod_lt _ (by decide))]
  congr 1
  omega
/-- The numbers of a list's bytes. -/
theorem numsOf_bytesOf {w : Nat} {l : List Nat} {r : List UInt8} (hw : ∀ i, l.getD i 0 < 2 ^ w) : numsOf w l.length (bytesOf w l ++ r) = l := by
  refine list_ext (numsOf_length ..) fun i hi => ?_
  rw [numsOf_length] at hi
  rw [numsOf_get hi]
  have hs := sz_ge l.length w
  have hiw : (i + 1) * w ≤ l.length * w := Nat.mul_le_mul_right _ hi
  rw [Nat.add_mul, Nat.one_mul] at hiw
  rw [val_congr (g := dgt l w) (fun j hj => tgt_bytesOf (by omega)), val_of (x := l.getD i 0) (fun j hj => dgt_at hj), Nat.mod_eq_of_lt (hw i)]
theorem behindOf_bytesOf {w : Nat} {l : List Nat} {r : List UInt8} : behindOf w l.length (bytesOf w l ++ r) = 0 := by
  unfold behindOf
  refine val_zero fun j hj => ?_
  by_cases hw : w = 0
  · subst hw; simp [szOf_zero] at hj
  · rw [tgt_bytesOf (by omega), dgt_over (by omega) (by omega)]
/-- The bytes of the numbers of bytes. -/
theorem bytesOf_numsOf {w n : Nat} {t : List UInt8} (hs : szOf n w ≤ t.length) (hb : behindOf w n t = 0) : bytesOf w (numsOf w n t) = t.take (szOf n w) := by
  refine list_ext8 (by rw [bytesOf_length, numsOf_length, List.length_take]; omega) fun k hk => ?_
  rw [bytesOf_length, numsOf_length] at hk
  rw [bytesOf_get (by rw [numsOf_length]; exact hk), getD_take hk]
  have hv := val_lt (dgt_lt (numsOf w n t) w) (8 * k) 8
  rw [ofNat_toNat _ (by simpa using hv), ← tgt_byte]
  refine val_congr fun j hj => ?_
  have hw : 0 < w := by
    rcases Nat.eq_zero_or_pos w with rfl | h
    · rw [szOf_zero] at hk; omega
    · exact h
  by_cases hp : 8 * k + j < n * w
  · have hq : (8 * k + j) / w < n := (Nat.div_lt_iff_lt_mul hw).2 hp
    have hm := Nat.mod_lt (8 * k + j) hw
    unfold dgt
    rw [numsOf_get hq, val_digit (tgt_lt t) _ _ hm]
    congr 1
    rw [Nat.mul_comm]
    exact Nat.div_add_mod _ _
  · rw [dgt_over hw (by rw [numsOf_length]; omega)]
    have := zero_of_val hb (8 * k + j - n * w) (by omega)
    rw [show n * w + (8 * k + j - n * w) = 8 * k + j by omega] at this
    exact this.symm

/-- What bytes begin with: the width, what is behind it, the error, the list, what is behind the list. -/
def pw (s : List UInt8) : Nat := ((s.drop (vsize s)).getD 0 0).toNat
def pt (s : List UInt8) : List UInt8 := s.drop (vsize s + 1)
def pok (s : List UInt8) : Prop := behindOf (pw s) (vnum s) (pt s) = 0 ∧ wdl (numsOf (pw s) (vnum s) (pt s)) = pw s
instance (s : List UInt8) : Decidable (pok s) := inferInstanceAs (Decidable (_ ∧ _))
def pcode (s : List UInt8) : Int :=
  if vcode s ≠ 0 then vcode s else if 1000 < vnum s then 40 else if s.length = vsize s then 21 else if 16 < pw s then 40
  else if (pt s).length < szOf (vnum s) (pw s) then 21 else if pok s then 0 else 40
def plist (s : List UInt8) : List Nat := numsOf (pw s) (vnum s) (pt s)
def prest (s : List UInt8) : List UInt8 := (pt s).drop (szOf (vnum s) (pw s))

theorem pcode_ok {s : List UInt8} (h : pcode s = 0) : vcode s = 0 ∧ vnum s ≤ 1000 ∧ s.length ≠ vsize s ∧ pw s ≤ 16 ∧ szOf (vnum s) (pw s) ≤ (pt s).length ∧ pok s := by
  unfold pcode at h
  split at h
  · contradiction
  split at h
  · contradiction
  split at h
  · contradiction
  split at h
  · contradiction
  split at h
  · contradiction
  split at h
  · exact ⟨by simp_all, by omega, by assumption, by omega, by omega, by assumption⟩
  · contradiction
theorem pcode_of {s : List UInt8} (h1 : vcode s = 0) (h2 : vnum s ≤ 1000) (h3 : s.length ≠ vsize s) (h4 : pw s ≤ 16) (h5 : szOf (vnum s) (pw s) ≤ (pt s).length) (h6 : pok s) : pcode s = 0 := by
  unfold pcode
  rw [if_neg (by simp [h1]), if_neg (by omega), if_neg h3, if_neg (by omega), if_neg (by omega), if_pos h6]
theorem drop_pt {s : List UInt8} (h3 : s.length ≠ vsize s) : s.drop (vsize s) = UInt8.ofNat (pw s) :: pt s := by
  have h := vsize_le s
  have hlt : vsize s < s.length := by omega
  unfold pw pt
  rw [List.drop_eq_getElem_cons hlt]
  simp [List.getElem?_eq_getElem hlt]

theorem plist_lt (s : List UInt8) : ∀ x ∈ plist s, x < 2 ^ pw s := numsOf_lt
theorem plist_small {s : List UInt8} (h : pw s ≤ 16) : ∀ x ∈ plist s, x < 65536 := fun x hx =>
  Nat.lt_of_lt_of_le (plist_lt s x hx) (Nat.le_trans (Nat.pow_le_pow_right (by decide) h) (by decide))
theorem plist_length (s : List UInt8) : (plist s).length = vnum s := numsOf_length ..

/-- What is unpacked, packed again. -/
theorem pack_plist {s : List UInt8} (h1 : vcode s = 0) (h3 : s.length ≠ vsize s) (h4 : pw s ≤ 16) (h5 : szOf (vnum s) (pw s) ≤ (pt s).length) : packP (plist s) = s.take (vsize s + 1 + szOf (vnum s) (pw s)) ↔ pok s := by
  have hd := drop_pt h3
  have hg := get_put h1
  have hsp : vput (vnum s) ++ (UInt8.ofNat (pw s) :: (pt s).take (szOf (vnum s) (pw s))) = s.take (vsize s + 1 + szOf (vnum s) (pw s)) := by
    rw [hd] at hg
    have hl := congrArg List.length hg
    have hvl : (vput (vnum s)).length = vsize s := by
      have h := vsize_le s
      simp [pt] at hl
      omega
    obtain ⟨m, hm⟩ : ∃ m, vsize s + 1 + szOf (vnum s) (pw s) = m := ⟨_, rfl⟩
    rw [hm]
    have e1 : s.take m = (vput (vnum s) ++ UInt8.ofNat (pw s) :: pt s).take m := by rw [hg]
    rw [e1, List.take_append, List.take_of_length_le (i := m) (l := vput (vnum s)) (by omega), show m - (vput (vnum s)).length = szOf (vnum s) (pw s) + 1 by omega, List.take_succ_cons]
  rw [← hsp]
  unfold packP
  rw [plist_length]
  constructor
  · intro h
    have h := List.append_cancel_left h
    simp only [List.cons.injEq] at h
    obtain ⟨e1, e2⟩ := h
    have hwl : wdl (plist s) ≤ pw s := wdl_le (plist_lt s)
    have ew : wdl (plist s) = pw s := by
      have e3 := congrArg UInt8.toNat e1
      rwa [ofNat_toNat _ (by omega), ofNat_toNat _ (by omega)] at e3
    refine ⟨?_, ew⟩
    rw [ew] at e2
    unfold behindOf
    refine val_zero fun j hj => ?_
    have hw : 0 < pw s := by
      rcases Nat.eq_zero_or_pos (pw s) with h | h
      · rw [h, szOf_zero] at hj; omega
      · exact h
    have hp : vnum s * pw s + j < 8 * szOf (vnum s) (pw s) := by omega
    have e4 : tgt (pt s) (vnum s * pw s + j) = tgt ((pt s).take (szOf (vnum s) (pw s))) (vnum s * pw s + j) := by
      unfold tgt
      rw [getD_take (by omega)]
    rw [e4, ← e2]
    have e5 := tgt_bytesOf (w := pw s) (l := plist s) (r := []) (p := vnum s * pw s + j) (by rw [plist_length]; exact hp)
    rw [List.append_nil] at e5
    rw [e5, dgt_over hw (by rw [plist_length]; omega)]
  · rintro ⟨hb, hw⟩
    have hw' : wdl (plist s) = pw s := hw
    rw [hw']
    congr 2
    exact bytesOf_numsOf h5 hb
theorem unpack_pack {s : List UInt8} (h : pcode s = 0) : packP (plist s) ++ prest s = s := by
  obtain ⟨h1, h2, h3, h4, h5, h6⟩ := pcode_ok h
  rw [(pack_plist h1 h3 h4 h5).2 h6]
  unfold prest pt
  rw [List.drop_drop, List.take_append_drop]

/-- What is packed, unpacked again. -/
theorem pack_parts {l : List Nat} (hl : l.length ≤ 1000) (hs : ∀ n ∈ l, n < 65536) (r : List UInt8) :
    vcode (packP l ++ r) = 0 ∧ vsize (packP l ++ r) = (vput l.length).length ∧ vnum (packP l ++ r) = l.length ∧ pw (packP l ++ r) = wdl l ∧ pt (packP l ++ r) = bytesOf (wdl l) l ++ r ∧ (packP l ++ r).length ≠ vsize (packP l ++ r) := by
  have e : packP l ++ r = vput l.length ++ (UInt8.ofNat (wdl l) :: (bytesOf (wdl l) l ++ r)) := by simp [packP]
  have hw : wdl l ≤ 16 := wdl_le (k := 16) hs
  obtain ⟨g1, g2, g3⟩ := put_get (n := l.length) (by omega) (UInt8.ofNat (wdl l) :: (bytesOf (wdl l) l ++ r))
  rw [e]
  refine ⟨g1, g2, g3, ?_, ?_, ?_⟩
  · unfold pw
    rw [g2, List.drop_left]
    exact ofNat_toNat _ (by omega)
  · unfold pt
    rw [g2, ← List.drop_drop, List.drop_left]
    rfl
  · rw [g2]; simp
theorem pack_unpack {l : List Nat} (hl : l.length ≤ 1000) (hs : ∀ n ∈ l, n < 65536) (r : List UInt8) : pcode (packP l ++ r) = 0 ∧ plist (packP l ++ r) = l ∧ prest (packP l ++ r) = r := by
  obtain ⟨g1, g2, g3, g4, g5, g6⟩ := pack_parts hl hs r
  have hw : wdl l ≤ 16 := wdl_le (k := 16) hs
  have hn : numsOf (wdl l) l.length (bytesOf (wdl l) l ++ r) = l := numsOf_bytesOf (getD_lt_wdl l)
  refine ⟨pcode_of g1 (by omega) g6 (by omega) ?_ ?_, ?_, ?_⟩
  · rw [g3, g4, g5, List.length_append, bytesOf_length]; omega
  · unfold pok
    rw [g3, g4, g5, hn]
    exact ⟨behindOf_bytesOf, rfl⟩
  · unfold plist
    rw [g3, g4, g5, hn]
  · unfold prest
    rw [g3, g4, g5, ← bytesOf_length, List.drop_left]
theorem packP_length (l : List Nat) : (packP l).length = (vput l.length).length + 1 + szOf l.length (wdl l) := by
  unfold packP
  rw [List.length_append, List.length_cons, bytesOf_length]; omega
theorem packP_bound {l : List Nat} (hl : l.length ≤ 1000) (hs : ∀ n ∈ l, n < 65536) : (packP l).length ≤ 2011 := by
  have hw : wdl l ≤ 16 := wdl_le (k := 16) hs
  have h1 := length_put (n := l.length) (by omega)
  rw [packP_length]
  have h2 : l.length * wdl l ≤ 1000 * 16 := Nat.mul_le_mul hl hw
  unfold szOf
  omega
/-- Fewer bytes ask for more. -/
theorem pack_more {l : List Nat} (hl : l.length ≤ 1000) (hs : ∀ n ∈ l, n < 65536) {k : Nat} (hk : k < (packP l).length) : pcode ((packP l).take k) = 21 := by
  have hw : wdl l ≤ 16 := wdl_le (k := 16) hs
  rw [packP_length] at hk
  have e : packP l = vput l.length ++ (UInt8.ofNat (wdl l) :: bytesOf (wdl l) l) := rfl
  by_cases h1 : k < (vput l.length).length
  · have hm := put_more (n := l.length) (by omega) h1
    rw [e, List.take_append_of_le_length (by omega)]
    unfold pcode
    rw [if_pos (by rw [hm]; decide), hm]
  · obtain ⟨j, rfl⟩ : ∃ j, k = (vput l.length).length + j := ⟨k - (vput l.length).length, by omega⟩
    have et : (packP l).take ((vput l.length).length + j) = vput l.length ++ (UInt8.ofNat (wdl l) :: bytesOf (wdl l) l).take j := by
      rw [e, List.take_append, List.take_of_length_le (by omega), Nat.add_sub_cancel_left]
    rw [et]
    obtain ⟨g1, g2, g3⟩ := put_get (n := l.length) (by omega) ((UInt8.ofNat (wdl l) :: bytesOf (wdl l) l).take j)
    unfold pcode
    rw [if_neg (by simp [g1]), if_neg (by omega), g2]
    cases j with
    | zero => rw [if_pos (by simp)]
    | succ j =>
      rw [List.take_succ_cons] at *
      have ew : pw (vput l.length ++ UInt8.ofNat (wdl l) :: (bytesOf (wdl l) l).take j) = wdl l := by
        unfold pw
        rw [g2, List.drop_left]
        exact ofNat_toNat _ (by omega)
      have ep : pt (vput l.length ++ UInt8.ofNat (wdl l) :: (bytesOf (wdl l) l).take j) = (bytesOf (wdl l) l).take j := by
        unfold pt
        rw [g2, ← List.drop_drop, List.drop_left]
        rfl
      rw [if_neg (by simp), ew, ep, g3, if_neg (by omega), if_pos (by rw [List.length_take, bytesOf_length]; omega)]
theorem prest_more {s : List UInt8} : (prest s).length ≤ s.length := by
  unfold prest pt; simp
end Go.Proofs.YtmimepjokkcbeaaDoor
