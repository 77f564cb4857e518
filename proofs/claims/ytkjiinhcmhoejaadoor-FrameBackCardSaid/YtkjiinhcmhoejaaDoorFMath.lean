/- Sums of bytes and frames as lists of bytes: plain mathematics, without the program. -/
namespace Go.Proofs.YtkjiinhcmhoejaaDoor

/-- One step of a sum: halved, and changed where it was odd. -/
def step1 (n : Nat) : Nat := if n % 2 = 1 then n / 2 ^^^ 3988292384 else n / 2
def step4 (n : Nat) : Nat := step1 (step1 (step1 (step1 n)))
def step8 (n : Nat) : Nat := step4 (step4 n)
/-- The sum, as it stands behind bytes. -/
def crcFrom : Nat → List UInt8 → Nat
  | s, [] => s
  | s, b :: r => crcFrom (step8 (s ^^^ b.toNat)) r
def crc (l : List UInt8) : Nat := crcFrom 4294967295 l ^^^ 4294967295

theorem xor_swap (a b c d : Nat) : (a ^^^ b) ^^^ (c ^^^ d) = (a ^^^ c) ^^^ (b ^^^ d) := by
  rw [Nat.xor_assoc, ← Nat.xor_assoc b c d, Nat.xor_comm b c, Nat.xor_assoc c b d, ← Nat.xor_assoc]
theorem xor_half (a b : Nat) : (a ^^^ b) / 2 = a / 2 ^^^ b / 2 := by
  have h : (a ^^^ b) >>> 1 = a >>> 1 ^^^ b >>> 1 := Nat.shiftRight_xor_distrib
  simpa [Nat.shiftRight_succ] using h
theorem xor_zero_eq {a b : Nat} (h : a ^^^ b = 0) : a = b := by
  have h1 : (a ^^^ b) ^^^ b = 0 ^^^ b := by rw [h]
  rwa [Nat.xor_assoc, Nat.xor_self, Nat.xor_zero, Nat.zero_xor] at h1
theorem xor_odd (a b : Nat) : (a ^^^ b) % 2 = (a % 2 + b % 2) % 2 := by
  have h : (a ^^^ b) % 2 = 1 ↔ ¬ (a % 2 = 1 ↔ b % 2 = 1) := Nat.xor_mod_two_eq_one
  have h1 := Nat.mod_two_eq_zero_or_one a
  have h2 := Nat.mod_two_eq_zero_or_one b
  have h3 := Nat.mod_two_eq_zero_or_one (a ^^^ b)
  omega
theorem step1_xor (a b : Nat) : step1 (a ^^^ b) = step1 a ^^^ step1 b := by
  have h := xor_odd a b
  have h1 := Nat.mod_two_eq_zero_or_one a
  have h2 := Nat.mod_two_eq_zero_or_one b
  unfold step1
  rw [xor_half]
  rcases h1 with h1 | h1 <;> rcases h2 with h2 | h2 <;> rw [h1, h2] at h <;> simp only [h1, h2, h]
  · simp
  · simp [Nat.xor_assoc]
  · simp only [if_true, Nat.zero_ne_one, if_false, Nat.reduceAdd, Nat.reduceMod]
    rw [Nat.xor_assoc, Nat.xor_comm (b / 2), ← Nat.xor_assoc]
  · rw [if_neg (by decide), if_pos trivial, if_pos trivial, xor_swap, Nat.xor_self, Nat.xor_zero]
theorem step4_xor (a b : Nat) : step4 (a ^^^ b) = step4 a ^^^ step4 b := by simp only [step4, step1_xor]
theorem step8_xor (a b : Nat) : step8 (a ^^^ b) = step8 a ^^^ step8 b := by simp only [step8, step4_xor]
theorem step1_lt {n : Nat} (h : n < 4294967296) : step1 n < 4294967296 := by
  unfold step1
  split
  · exact Nat.xor_lt_two_pow (n := 32) (by omega) (by decide)
  · omega
theorem step4_lt {n : Nat} (h : n < 4294967296) : step4 n < 4294967296 := step1_lt (step1_lt (step1_lt (step1_lt h)))
theorem step8_lt {n : Nat} (h : n < 4294967296) : step8 n < 4294967296 := step4_lt (step4_lt h)
theorem step1_zero {n : Nat} (h : n < 4294967296) (h0 : step1 n = 0) : n = 0 := by
  unfold step1 at h0
  split at h0
  · exfalso
    have e : n / 2 = 3988292384 := xor_zero_eq h0
    omega
  · omega
theorem step4_zero {n : Nat} (h : n < 4294967296) (h0 : step4 n = 0) : n = 0 :=
  step1_zero h (step1_zero (step1_lt h) (step1_zero (step1_lt (step1_lt h)) (step1_zero (step1_lt (step1_lt (step1_lt h))) h0)))
theorem step8_zero {n : Nat} (h : n < 4294967296) (h0 : step8 n = 0) : n = 0 := step4_zero h (step4_zero (step4_lt h) h0)
theorem step8_inj {a b : Nat} (ha : a < 4294967296) (hb : b < 4294967296) (h : step8 a = step8 b) : a = b := by
  have h0 : step8 (a ^^^ b) = 0 := by rw [step8_xor, h, Nat.xor_self]
  exact xor_zero_eq (step8_zero (Nat.xor_lt_two_pow (n := 32) ha hb) h0)

/-- Four steps at once. -/
def tab : List Int := [0, 498536548, 997073096, 651767980, 1994146192, 1802195444, 1303535960, 1342533948, 3988292384, 4027552580, 3604390888, 3412177804, 2607071920, 2262029012, 2685067896, 3183342108]
def tabN (k : Nat) : Nat := (tab.getD k 0).toNat
theorem tabN_int (k : Nat) (h : k < 16) : tab.getD k 0 = (tabN k : Int) := by
  have : ∀ k : Fin 16, tab.getD k.1 0 = (tabN k.1 : Int) := by decide
  exact this ⟨k, h⟩
theorem tabN_lt (k : Nat) (h : k < 16) : tabN k < 4294967296 := by
  have : ∀ k : Fin 16, tabN k.1 < 4294967296 := by decide
  exact this ⟨k, h⟩
theorem step4_low (k : Nat) (h : k < 16) : step4 k = tabN k := by
  have : ∀ k : Fin 16, step4 k.1 = tabN k.1 := by decide
  exact this ⟨k, h⟩
theorem step1_dbl (n : Nat) : step1 (2 * n) = n := by
  unfold step1
  rw [if_neg (by omega)]
  omega
theorem step4_high (n : Nat) : step4 (16 * n) = n := by
  unfold step4
  rw [show 16 * n = 2 * (2 * (2 * (2 * n))) by omega]
  simp only [step1_dbl]
theorem split16 (n : Nat) : n = 16 * (n / 16) ^^^ n % 16 := by
  apply Nat.eq_of_testBit_eq
  intro i
  have e1 : 16 * (n / 16) = (n >>> 4) <<< 4 := by
    rw [Nat.shiftLeft_eq, Nat.shiftRight_eq_div_pow]; omega
  have e2 : n % 16 = n % 2 ^ 4 := rfl
  rw [Nat.testBit_xor, e1, e2, Nat.testBit_shiftLeft, Nat.testBit_shiftRight, Nat.testBit_mod_two_pow]
  by_cases h : i < 4
  · simp [h, show ¬ 4 ≤ i by omega]
  · simp [h, show 4 ≤ i by omega, show 4 + (i - 4) = i by omega]
theorem step4_tab (n : Nat) : step4 n = n / 16 ^^^ tabN (n % 16) := by
  have h := split16 n
  rw [show step4 n = step4 (16 * (n / 16) ^^^ n % 16) by rw [← h], step4_xor, step4_high, step4_low _ (by omega)]

theorem crcFrom_lt {s : Nat} (h : s < 4294967296) (l : List UInt8) : crcFrom s l < 4294967296 := by
  induction l generalizing s with
  | nil => exact h
  | cons b r ih => exact ih (step8_lt (Nat.xor_lt_two_pow (n := 32) h (by have := b.toNat_lt; omega)))
theorem crc_lt (l : List UInt8) : crc l < 4294967296 := Nat.xor_lt_two_pow (n := 32) (crcFrom_lt (by decide) l) (by decide)
theorem crcFrom_append (s : Nat) (a b : List UInt8) : crcFrom s (a ++ b) = crcFrom (crcFrom s a) b := by
  induction a generalizing s with
  | nil => rfl
  | cons x a ih => exact ih _
theorem crcFrom_snoc (s : Nat) (a : List UInt8) (b : UInt8) : crcFrom s (a ++ [b]) = step8 (crcFrom s a ^^^ b.toNat) := crcFrom_append s a [b]
theorem crcFrom_inj {s t : Nat} (hs : s < 4294967296) (ht : t < 4294967296) (l : List UInt8) (h : crcFrom s l = crcFrom t l) : s = t := by
  induction l generalizing s t with
  | nil => exact h
  | cons b r ih =>
    have hb := b.toNat_lt
    have hx : s ^^^ b.toNat < 4294967296 := Nat.xor_lt_two_pow (n := 32) hs (by omega)
    have hy : t ^^^ b.toNat < 4294967296 := Nat.xor_lt_two_pow (n := 32) ht (by omega)
    have := step8_inj hx hy (ih (step8_lt hx) (step8_lt hy) h)
    have e := congrArg (· ^^^ b.toNat) this
    simpa [Nat.xor_assoc] using e
/-- Another byte at a place: another sum. -/
theorem crc_other (a : List UInt8) (x y : UInt8) (r : List UInt8) (h : x ≠ y) : crc (a ++ x :: r) ≠ crc (a ++ y :: r) := by
  intro e
  have e1 := congrArg (· ^^^ 4294967295) e
  simp only [crc, Nat.xor_assoc, Nat.xor_self, Nat.xor_zero] at e1
  rw [crcFrom_append, crcFrom_append] at e1
  have hs := crcFrom_lt (s := 4294967295) (by decide) a
  have hx := x.toNat_lt
  have hy := y.toNat_lt
  have hsx : crcFrom 4294967295 a ^^^ x.toNat < 4294967296 := Nat.xor_lt_two_pow (n := 32) hs (by omega)
  have hsy : crcFrom 4294967295 a ^^^ y.toNat < 4294967296 := Nat.xor_lt_two_pow (n := 32) hs (by omega)
  have e2 := step8_inj hsx hsy (crcFrom_inj (step8_lt hsx) (step8_lt hsy) r e1)
  have e3 := congrArg (crcFrom 4294967295 a ^^^ ·) e2
  simp only [← Nat.xor_assoc, Nat.xor_self, Nat.zero_xor] at e3
  exact h (UInt8.toNat_inj.1 e3)

/-- Two texts, byte by byte, by exclusive or. -/
def xors : List UInt8 → List UInt8 → List UInt8
  | x :: a, y :: b => (x ^^^ y) :: xors a b
  | _, _ => []
theorem xors_length {a b : List UInt8} (h : a.length = b.length) : (xors a b).length = a.length := by
  induction a generalizing b with
  | nil => cases b <;> rfl
  | cons x a ih =>
    cases b with
    | nil => simp at h
    | cons y b => simp only [xors, List.length_cons] at h ⊢; rw [ih (by omega)]
theorem xors_cons (x y : UInt8) (a b : List UInt8) : xors (x :: a) (y :: b) = (x ^^^ y) :: xors a b := rfl
theorem crcFrom_cons (s : Nat) (b : UInt8) (r : List UInt8) : crcFrom s (b :: r) = crcFrom (step8 (s ^^^ b.toNat)) r := rfl
theorem crcFrom_xors (s t u : Nat) (a b : List UInt8) (h : a.length = b.length) :
    crcFrom (s ^^^ t ^^^ u) (xors a b) = crcFrom s a ^^^ crcFrom t b ^^^ crcFrom u (List.replicate a.length 0) := by
  induction a generalizing s t u b with
  | nil => cases b with
    | nil => rfl
    | cons y b => simp at h
  | cons x a ih =>
    cases b with
    | nil => simp at h
    | cons y b =>
      have h' : a.length = b.length := by simpa using h
      rw [List.length_cons, List.replicate_succ, xors_cons, crcFrom_cons, crcFrom_cons, crcFrom_cons, crcFrom_cons, ← ih _ _ _ b h', ← step8_xor, ← step8_xor]
      have e : s ^^^ t ^^^ u ^^^ (x ^^^ y).toNat = s ^^^ x.toNat ^^^ (t ^^^ y.toNat) ^^^ (u ^^^ (0 : UInt8).toNat) := by
        rw [UInt8.toNat_xor, show (0 : UInt8).toNat = 0 from rfl, Nat.xor_zero, xor_swap s x.toNat, Nat.xor_assoc (s ^^^ t), Nat.xor_comm u, ← Nat.xor_assoc]
      rw [e]
theorem crc_xors (a b : List UInt8) (h : a.length = b.length) : crc a ^^^ crc b ^^^ crc (List.replicate a.length 0) = crc (xors a b) := by
  unfold crc
  have e := crcFrom_xors 4294967295 4294967295 4294967295 a b h
  rw [show (4294967295 ^^^ 4294967295 ^^^ 4294967295 : Nat) = 4294967295 by rw [Nat.xor_self, Nat.zero_xor]] at e
  rw [e]
  generalize crcFrom 4294967295 a = p
  generalize crcFrom 4294967295 b = q
  generalize crcFrom 4294967295 (List.replicate a.length 0) = r
  rw [xor_swap p, Nat.xor_self, Nat.xor_zero, ← Nat.xor_assoc]

theorem ofNat_toNat (n : Nat) (h : n < 256) : (UInt8.ofNat n).toNat = n := by simp; omega
theorem u8_eq {a b : UInt8} (h : a.toNat = b.toNat) : a = b := UInt8.toNat_inj.1 h

/-- A number in four bytes, the greatest one first; and back. -/
def be4 (n : Nat) : List UInt8 := [UInt8.ofNat (n / 16777216 % 256), UInt8.ofNat (n / 65536 % 256), UInt8.ofNat (n / 256 % 256), UInt8.ofNat (n % 256)]
def num (l : List UInt8) : Nat := l.foldl (fun n b => n * 256 + b.toNat) 0
def num4 (s : List UInt8) : Nat := num (s.take 4)
theorem be4_length (n : Nat) : (be4 n).length = 4 := rfl
theorem num_be4 {n : Nat} (h : n < 4294967296) : num (be4 n) = n := by
  simp only [num, be4, List.foldl_cons, List.foldl_nil]
  rw [ofNat_toNat _ (by omega), ofNat_toNat _ (by omega), ofNat_toNat _ (by omega), ofNat_toNat _ (by omega)]
  omega
theorem num4_app {n : Nat} (h : n < 4294967296) (r : List UInt8) : num4 (be4 n ++ r) = n := by
  unfold num4
  rw [List.take_left' (be4_length n), num_be4 h]
theorem num4_at (a b c d : UInt8) (r : List UInt8) : num4 (a :: b :: c :: d :: r) = ((a.toNat * 256 + b.toNat) * 256 + c.toNat) * 256 + d.toNat := by
  simp [num4, num]
theorem num4_lt (s : List UInt8) : num4 s < 4294967296 := by
  match s with
  | [] => decide
  | [a] => simp [num4, num]; have := a.toNat_lt; omega
  | [a, b] => simp [num4, num]; have := a.toNat_lt; have := b.toNat_lt; omega
  | [a, b, c] => simp [num4, num]; have := a.toNat_lt; have := b.toNat_lt; have := c.toNat_lt; omega
  | a :: b :: c :: d :: r =>
    rw [num4_at]
    have := a.toNat_lt; have := b.toNat_lt; have := c.toNat_lt; have := d.toNat_lt
    omega

/-- A text's frame. -/
def frameB (l : List UInt8) : List UInt8 := be4 l.length ++ be4 (crc l) ++ l
theorem frameB_length (l : List UInt8) : (frameB l).length = 8 + l.length := by simp [frameB, be4_length]; omega
/-- What is told of the frame that s begins with: 0, or the number of what is wrong. -/
def rcode (s : List UInt8) : Int :=
  if s.length < 8 then 21
  else if 60000 < num4 s then 30
  else if s.length - 8 < num4 s then 21
  else if crc ((s.drop 8).take (num4 s)) ≠ num4 (s.drop 4) then 31
  else 0
def rbytes (s : List UInt8) : List UInt8 := if rcode s = 0 then (s.drop 8).take (num4 s) else []
def rrest (s : List UInt8) : List UInt8 := if rcode s = 0 then s.drop (8 + num4 s) else s
theorem rcode_short {s : List UInt8} (h : s.length < 8) : rcode s = 21 := by rw [rcode, if_pos h]
theorem rcode_big {s : List UInt8} (h : ¬ s.length < 8) (h1 : 60000 < num4 s) : rcode s = 30 := by rw [rcode, if_neg h, if_pos h1]
theorem rcode_miss {s : List UInt8} (h : ¬ s.length < 8) (h1 : ¬ 60000 < num4 s) (h2 : s.length - 8 < num4 s) : rcode s = 21 := by rw [rcode, if_neg h, if_neg h1, if_pos h2]
theorem rcode_sum {s : List UInt8} (h : ¬ s.length < 8) (h1 : ¬ 60000 < num4 s) (h2 : ¬ s.length - 8 < num4 s) (h3 : crc ((s.drop 8).take (num4 s)) ≠ num4 (s.drop 4)) : rcode s = 31 := by rw [rcode, if_neg h, if_neg h1, if_neg h2, if_pos h3]
theorem rcode_ok {s : List UInt8} (h : ¬ s.length < 8) (h1 : ¬ 60000 < num4 s) (h2 : ¬ s.length - 8 < num4 s) (h3 : crc ((s.drop 8).take (num4 s)) = num4 (s.drop 4)) : rcode s = 0 := by rw [rcode, if_neg h, if_neg h1, if_neg h2, if_neg (by rw [h3]; simp)]
theorem rbytes_ok {s : List UInt8} (h : rcode s = 0) : rbytes s = (s.drop 8).take (num4 s) := if_pos h
theorem rrest_ok {s : List UInt8} (h : rcode s = 0) : rrest s = s.drop (8 + num4 s) := if_pos h
theorem rbytes_bad {s : List UInt8} (h : rcode s ≠ 0) : rbytes s = [] := if_neg h
theorem rrest_bad {s : List UInt8} (h : rcode s ≠ 0) : rrest s = s := if_neg h
theorem rcode_long {s : List UInt8} (h : rcode s = 0) : 8 ≤ s.length := by
  rcases Nat.lt_or_ge s.length 8 with h8 | h8
  · rw [rcode_short h8] at h; cases h
  · exact h8
theorem rcode_cases (s : List UInt8) : rcode s = 0 ∨ (21 ≤ rcode s ∧ rcode s ≤ 31) := by
  unfold rcode
  split
  · exact .inr (by decide)
  split
  · exact .inr (by decide)
  split
  · exact .inr (by decide)
  split
  · exact .inr (by decide)
  · exact .inl rfl

theorem drop8 (a b c : List UInt8) (ha : a.length = 4) (hb : b.length = 4) : (a ++ b ++ c).drop 8 = c := List.drop_left' (by simp [ha, hb])
theorem drop4 (a b c : List UInt8) (ha : a.length = 4) : (a ++ b ++ c).drop 4 = b ++ c := by rw [List.append_assoc]; exact List.drop_left' ha
theorem read_head (n m : Nat) (hn : n < 4294967296) (hm : m < 4294967296) (r : List UInt8) : num4 (be4 n ++ be4 m ++ r) = n ∧ num4 ((be4 n ++ be4 m ++ r).drop 4) = m ∧ (be4 n ++ be4 m ++ r).drop 8 = r ∧ (be4 n ++ be4 m ++ r).length = 8 + r.length := by
  refine ⟨?_, ?_, drop8 _ _ _ rfl rfl, by simp [be4_length]; omega⟩
  · rw [List.append_assoc]; exact num4_app hn _
  · rw [drop4 _ _ _ rfl]; exact num4_app hm _
/-- What is made is read again, whatever stands behind. -/
theorem read_make (l more : List UInt8) (hl : l.length ≤ 60000) : rcode (frameB l ++ more) = 0 ∧ rbytes (frameB l ++ more) = l ∧ rrest (frameB l ++ more) = more := by
  obtain ⟨h1, h2, h3, h4⟩ := read_head l.length (crc l) (by omega) (crc_lt l) (l ++ more)
  have e : frameB l ++ more = be4 l.length ++ be4 (crc l) ++ (l ++ more) := by simp [frameB]
  rw [e]
  have h0 : rcode (be4 l.length ++ be4 (crc l) ++ (l ++ more)) = 0 := by
    refine rcode_ok (by rw [h4]; omega) (by rw [h1]; omega) (by rw [h1, h4, List.length_append]; omega) ?_
    rw [h1, h2, h3, List.take_left' rfl]
  refine ⟨h0, ?_, ?_⟩
  · rw [rbytes_ok h0, h1, h3, List.take_left' rfl]
  · rw [rrest_ok h0, h1, ← List.drop_drop, h3, List.drop_left' rfl]
/-- Fewer bytes of a frame. -/
theorem read_cut (l : List UInt8) (hl : l.length ≤ 60000) (k : Nat) (hk : k < (frameB l).length) : rcode ((frameB l).take k) = 21 := by
  rcases Nat.lt_or_ge k 8 with h8 | h8
  · exact rcode_short (by rw [List.length_take]; omega)
  · rw [frameB_length] at hk
    have e : (frameB l).take k = be4 l.length ++ be4 (crc l) ++ l.take (k - 8) := by
      unfold frameB
      rw [List.take_append, List.take_of_length_le (by simp [be4_length]; omega)]
      simp [be4_length]
    obtain ⟨h1, h2, h3, h4⟩ := read_head l.length (crc l) (by omega) (crc_lt l) (l.take (k - 8))
    rw [e]
    have hlt : (l.take (k - 8)).length = k - 8 := by rw [List.length_take]; omega
    refine rcode_miss ?_ ?_ ?_
    · rw [h4]; omega
    · rw [h1]; omega
    · rw [h4, h1, hlt]; omega

theorem num4_other {a b : List UInt8} (ha : a.length = 4) (hb : b.length = 4) (r : List UInt8) (h : num4 (a ++ r) = num4 (b ++ r)) : a = b := by
  match a, b, ha, hb with
  | [a0, a1, a2, a3], [b0, b1, b2, b3], _, _ =>
    simp only [List.cons_append, List.nil_append] at h
    rw [num4_at, num4_at] at h
    have := a0.toNat_lt; have := a1.toNat_lt; have := a2.toNat_lt; have := a3.toNat_lt
    have := b0.toNat_lt; have := b1.toNat_lt; have := b2.toNat_lt; have := b3.toNat_lt
    rw [u8_eq (show a0.toNat = b0.toNat by omega), u8_eq (show a1.toNat = b1.toNat by omega), u8_eq (show a2.toNat = b2.toNat by omega), u8_eq (show a3.toNat = b3.toNat by omega)]
/-- One byte that is another one, behind the first four, is found. -/
theorem read_set (l : List UInt8) (hl : l.length ≤ 60000) (k : Nat) (hk4 : 4 ≤ k) (hk : k < (frameB l).length) (x : UInt8) (hx : (frameB l)[k]? ≠ some x) : rcode ((frameB l).set k x) = 31 := by
  rw [frameB_length] at hk
  rcases Nat.lt_or_ge k 8 with h8 | h8
  · have e : (frameB l).set k x = be4 l.length ++ ((be4 (crc l)).set (k - 4) x ++ l) := by
      unfold frameB
      rw [List.append_assoc, List.set_append_right _ _ (by rw [be4_length]; omega), be4_length, List.set_append_left _ _ (by rw [be4_length]; omega)]
    have hx' : (be4 (crc l))[k - 4]? ≠ some x := by
      intro h
      apply hx
      unfold frameB
      rw [List.append_assoc, List.getElem?_append_right (by rw [be4_length]; omega), be4_length, List.getElem?_append_left (by rw [be4_length]; omega), h]
    rw [e]
    have h1 : num4 (be4 l.length ++ ((be4 (crc l)).set (k - 4) x ++ l)) = l.length := num4_app (by omega) _
    have h2 : (be4 l.length ++ ((be4 (crc l)).set (k - 4) x ++ l)).drop 4 = (be4 (crc l)).set (k - 4) x ++ l := List.drop_left' (be4_length _)
    have h3 : (be4 l.length ++ ((be4 (crc l)).set (k - 4) x ++ l)).drop 8 = l := by
      rw [← List.append_assoc]; exact List.drop_left' (by simp [be4_length])
    have h4 : (be4 l.length ++ ((be4 (crc l)).set (k - 4) x ++ l)).length = 8 + l.length := by simp [be4_length]; omega
    refine rcode_sum (by rw [h4]; omega) (by rw [h1]; omega) (by rw [h1, h4]; omega) ?_
    rw [h1, h2, h3, List.take_length]
    intro h
    have h5 : num4 (be4 (crc l) ++ l) = crc l := num4_app (crc_lt l) l
    have h6 := num4_other (by rw [List.length_set]; rfl) rfl l (h.symm.trans h5.symm)
    apply hx'
    have h7 : ((be4 (crc l)).set (k - 4) x)[k - 4]? = some x := by
      rw [List.getElem?_set_self (by rw [be4_length]; omega)]
    rw [h6] at h7
    exact h7
  · have hkl : k - 8 < l.length := by omega
    have e : (frameB l).set k x = be4 l.length ++ be4 (crc l) ++ l.set (k - 8) x := by
      unfold frameB
      rw [List.set_append_right _ _ (by simp [be4_length]; omega)]
      simp [be4_length]
    have hx' : l[k - 8]? ≠ some x := by
      intro h
      apply hx
      unfold frameB
      rw [List.getElem?_append_right (by simp [be4_length]; omega)]
      simpa [be4_length] using h
    obtain ⟨h1, h2, h3, h4⟩ := read_head l.length (crc l) (by omega) (crc_lt l) (l.set (k - 8) x)
    rw [e]
    have hls : (l.set (k - 8) x).length = l.length := List.length_set
    refine rcode_sum (by rw [h4]; omega) (by rw [h1]; omega) (by rw [h1, h4, hls]; omega) ?_
    rw [h1, h2, h3, List.take_of_length_le (by omega)]
    have hsplit : l = l.take (k - 8) ++ l[k - 8] :: l.drop (k - 8 + 1) := by
      rw [List.getElem_cons_drop]; exact (List.take_append_drop _ _).symm
    have hset : l.set (k - 8) x = l.take (k - 8) ++ x :: l.drop (k - 8 + 1) := by
      rw [List.set_eq_take_append_cons_drop, if_pos hkl]
    intro h
    rw [hset] at h
    have h' : crc (l.take (k - 8) ++ x :: l.drop (k - 8 + 1)) = crc (l.take (k - 8) ++ l[k - 8] :: l.drop (k - 8 + 1)) := by rw [← hsplit]; exact h
    refine crc_other _ _ _ _ ?_ h'
    intro hh
    apply hx'
    rw [hh, List.getElem?_eq_getElem hkl]
end Go.Proofs.YtkjiinhcmhoejaaDoor
