/- (*reader).number: a varint read; skip. -/
import Derived.Test.YthoegicchjadaaaDoorVIs
import Derived.Test.YthoegicchjadaaaDoorVIter
import Derived.Stop.RegionWithIn
import Derived.Test.YthoegicchjadaaaDoorRKit
import Derived.RegionTactic
namespace Go.Proofs.YthoegicchjadaaaDoor
open Go.RowKit
attribute [local go_sem] Oper.semAt_some

set_option maxHeartbeats 1000000 in
theorem skip_any (B : Nat) (s : List UInt8) (er : Value) (k : Nat) (hk : k ≤ s.length) (w : World) (bB : Blk w B 148 #[.string ⟨s.toArray⟩, er]) :
    Calls Tryd.prog 96 #[.pointer (some ⟨B, 0, none⟩), .int .i64 k] w fun e w' => (∃ v, e = .returned v) ∧ w' = w.setCell ⟨B, 0, none⟩ (.string ⟨(s.drop k).toArray⟩) := by
  have d0 := bB.cell 0; have f0 := bB.frozen 0
  dsimp at d0
  have H : Hid ((ByteArray.mk s.toArray).extract k s.length = ⟨(s.drop k).toArray⟩) := Lib.hid ((ext_mk s k s.length).trans (mk_str (by rw [List.take_of_length_le (Nat.le_refl _)])))
  go_enter Tryd.func96, Tryd.ntmps96
  go_wp2
  go_end0
  rw [← H.out]
  exact ⟨⟨_, rfl⟩, rfl⟩

/-- A byte's digits at place k. -/
def shl7 (d k : Nat) : Int := ((d % 128 * 128 ^ k % 18446744073709551616 : Nat) : Int)
theorem and127_8 (d : Nat) : bits .and .u8 (d : Int) 127 = ((d % 128 : Nat) : Int) := by
  show IntKind.u8.wrap ((BitVec.ofInt 8 d &&& BitVec.ofInt 8 127).toNat : Int) = _
  rw [BitVec.toNat_and, BitVec.toNat_ofInt, BitVec.toNat_ofInt, show (127 % ((2 ^ 8 : Nat) : Int)).toNat = 2 ^ 7 - 1 from rfl, Nat.and_two_pow_sub_one_eq_mod]
  simp [IntKind.wrap, IntKind.bits, IntKind.signed]
  omega
theorem shl7_eq (e k : Nat) (hk : k < 10) : IntKind.u64.wrap ((e : Int) * 2 ^ min ((7 : Int) * k).toNat 64) = ((e * 128 ^ k % 18446744073709551616 : Nat) : Int) := by
  have e2 : (2 : Int) ^ min ((7 : Int) * k).toNat 64 = ((128 ^ k : Nat) : Int) := by
    rw [show min ((7 : Int) * k).toNat 64 = 7 * k by omega, Int.pow_mul]
    norm_cast
  rw [e2, u64_wrap, ← Int.natCast_mul]
  generalize e * 128 ^ k = q
  omega
theorem shift7 (d k : Nat) (hk : k < 10) (W : World) : (Op.shift .shl .u64 (IntKind.u64.wrap (bits .and .u8 (d : Int) 127)) .i64 (IntKind.i64.wrap (7 * (k : Int)))).run Tryd.prog W = .ok (.int .u64 (shl7 d k)) W := by
  have h1 : IntKind.i64.wrap (7 * (k : Int)) = 7 * k := by rw [IntKind.wrap_i64]; omega
  have h2 : IntKind.u64.wrap ((d % 128 : Nat) : Int) = ((d % 128 : Nat) : Int) := by rw [u64_wrap]; omega
  rw [and127_8, h1, h2, shift_shl_any _ _ _ _ (by omega)]
  show Result.ok (Value.int .u64 (IntKind.u64.wrap (((d % 128 : Nat) : Int) * 2 ^ min ((7 : Int) * k).toNat 64))) W = _
  rw [shl7_eq _ _ hk]
  rfl
/-- One more byte's digits. -/
def orAt (s : List UInt8) (n : Int) (x : Nat) : Int := bits .or .u64 n (shl7 (byteAt s (m10 x)) (m10 x))
def orAll (s : List UInt8) (pre : List Nat) : Int := pre.foldl (orAt s) 0
/-- All of them are 128 or more. -/
def AllHi (s : List UInt8) (pre : List Nat) : Prop := ∀ x ∈ pre, 128 ≤ byteAt s (m10 x)
/-- The last one is the first below 128; the boxes hold what it comes to. -/
def StopsAt (s : List UInt8) (N : Nat) (pre : List Nat) (W : World) : Prop := ∃ ini x, pre = ini ++ [x] ∧ AllHi s ini ∧ byteAt s (m10 x) < 128 ∧ Blk W N 53 #[.int .u64 (orAll s pre)] ∧ Blk W (N + 1) 3 #[.int .i64 (m10 x + 1 : Nat)] ∧ Blk W (N + 2) 5 #[.int .u8 (byteAt s (m10 x) : Nat)]
/-- 'Block g is just these cells' speaks of cells alone. -/
theorem blk_own {β : Type} (B : Nat) (t : TypeId) (f : β → Array Value) : Own (fun s W => Blk W B t (f s)) := fun s X Y row hs hg hrow => by
  have hlt := Blk.lt hs
  refine (hg.block B hlt (fun e => ?_)).trans hs
  obtain ⟨o, ho, hc⟩ := hrow B e.symm
  rw [show X.heap[B]? = _ from hs] at ho
  cases ho
  cases hc
theorem stops_own (N : Nat) (s : List UInt8) : Own (fun pre W => StopsAt s N pre W) := fun pre X Y row hs hg hr => by
  obtain ⟨ini, x, e1, e2, e3, h1, h2, h3⟩ := hs
  exact ⟨ini, x, e1, e2, e3, blk_own _ _ (fun (_ : Unit) => #[.int .u64 (orAll s pre)]) () X Y row h1 hg hr, blk_own _ _ (fun (_ : Unit) => #[.int .i64 (m10 x + 1 : Nat)]) () X Y row h2 hg hr, blk_own _ _ (fun (_ : Unit) => #[.int .u8 (byteAt s (m10 x) : Nat)]) () X Y row h3 hg hr⟩
/-- What a call of number leaves. -/
def NumPost (a b : Addr) (B : Nat) (s : List UInt8) (w : World) (e : Ending) (w' : World) : Prop :=
  e = .returned (.int .u64 (vnum s)) ∧ Blk w' B 148 #[.string ⟨(s.drop (vsize s)).toArray⟩, er a b (vcode s)] ∧ w.grownBy w' (some B)

theorem sum_lt {x c i : Nat} (hx : x < 2 ^ i) (hi : i ≤ 64) : x + c * 2 ^ i % 18446744073709551616 < 18446744073709551616 := by
  have e1 : c * 2 ^ i % 18446744073709551616 = 2 ^ i * (c % 2 ^ (64 - i)) := by
    rw [show (18446744073709551616 : Nat) = 2 ^ i * 2 ^ (64 - i) by rw [← Nat.pow_add, show i + (64 - i) = 64 by omega], Nat.mul_comm c, Nat.mul_mod_mul_left]
  have h2 : c % 2 ^ (64 - i) + 1 ≤ 2 ^ (64 - i) := Nat.mod_lt _ (Nat.pow_pos (by decide))
  have h3 : 2 ^ i * (c % 2 ^ (64 - i) + 1) ≤ 2 ^ i * 2 ^ (64 - i) := Nat.mul_le_mul_left _ h2
  rw [← Nat.pow_add, show i + (64 - i) = 64 by omega, Nat.mul_add] at h3
  rw [e1]
  omega

/-! The bytes' digits, or'ed: the number. -/
theorem or_add (x c i : Nat) (hx : x < 2 ^ i) (hi : i ≤ 64) : bits .or .u64 (x : Int) ((c * 2 ^ i % 18446744073709551616 : Nat) : Int) = ((x + c * 2 ^ i % 18446744073709551616 : Nat) : Int) := by
  have e1 : c * 2 ^ i % 18446744073709551616 = 2 ^ i * (c % 2 ^ (64 - i)) := by
    rw [show (18446744073709551616 : Nat) = 2 ^ i * 2 ^ (64 - i) by rw [← Nat.pow_add, show i + (64 - i) = 64 by omega], Nat.mul_comm c, Nat.mul_mod_mul_left]
  have e2 : 2 ^ i * (c % 2 ^ (64 - i)) + x = 2 ^ i * (c % 2 ^ (64 - i)) ||| x := Nat.two_pow_add_eq_or_of_lt hx _
  have e3 : c * 2 ^ i % 18446744073709551616 < 18446744073709551616 := Nat.mod_lt _ (by decide)
  have e4 : x < 18446744073709551616 := Nat.lt_of_lt_of_le hx (by rw [show (18446744073709551616 : Nat) = 2 ^ 64 from rfl]; exact Nat.pow_le_pow_right (by decide) hi)
  have e5 : x ||| c * 2 ^ i % 18446744073709551616 < 18446744073709551616 := by
    rw [show (18446744073709551616 : Nat) = 2 ^ 64 from rfl] at e3 e4 ⊢
    exact Nat.or_lt_two_pow e4 e3
  have e6 : x ||| c * 2 ^ i % 18446744073709551616 = x + c * 2 ^ i % 18446744073709551616 := by rw [e1, Nat.or_comm, ← e2, Nat.add_comm]
  show IntKind.u64.wrap ((BitVec.ofInt 64 (x : Int) ||| BitVec.ofInt 64 ((c * 2 ^ i % 18446744073709551616 : Nat) : Int)).toNat : Int) = _
  generalize c * 2 ^ i % 18446744073709551616 = y at *
  rw [BitVec.toNat_or, BitVec.ofInt_natCast, BitVec.ofInt_natCast, BitVec.toNat_ofNat, BitVec.toNat_ofNat, Nat.mod_eq_of_lt (by omega), Nat.mod_eq_of_lt (by omega), e6, u64_wrap]
  omega
theorem digs_take {s : List UInt8} {k : Nat} (h : k < s.length) : digs (s.take (k + 1)) = digs (s.take k) + 128 ^ k * (byteAt s k % 128) := by
  have e : s.take (k + 1) = s.take k ++ [s.getD k 0] := by
    rw [List.take_succ_eq_append_getElem h, List.getD_eq_getElem?_getD, List.getElem?_eq_getElem h]; rfl
  rw [e, digs_append]
  simp only [digs, List.length_take, byteAt]
  rw [Nat.min_eq_left (by omega)]
  simp
theorem digs_take_lt (s : List UInt8) (k : Nat) : digs (s.take k) < 128 ^ k :=
  Nat.lt_of_lt_of_le (digs_lt _) (Nat.pow_le_pow_right (by decide) (by simp; omega))
theorem pow128 {k : Nat} (h : k ≤ 9) : 128 ^ k ≤ 9223372036854775808 := Nat.le_trans (Nat.pow_le_pow_right (by decide) h) (by decide)
theorem orAll_range {s : List UInt8} : ∀ {j : Nat}, j ≤ s.length → j ≤ 10 → orAll s (List.range j) = ((digs (s.take j) % 18446744073709551616 : Nat) : Int)
  | 0, _, _ => by simp [orAll, digs]
  | j + 1, h1, h2 => by
    have ih := orAll_range (s := s) (j := j) (by omega) (by omega)
    have hlt := digs_take_lt s j
    have hp := pow128 (k := j) (by omega)
    rw [List.range_succ]
    have e : orAll s (List.range j ++ [j]) = orAt s (orAll s (List.range j)) j := by simp [orAll]
    rw [e, ih, Nat.mod_eq_of_lt (by omega), digs_take (by omega)]
    unfold orAt shl7
    have e2 : (128 : Nat) ^ j = 2 ^ (7 * j) := by rw [Nat.pow_mul]
    rw [e2] at hlt
    rw [m10_eq (by omega), e2, or_add _ _ _ hlt (by omega), Nat.mul_comm (2 ^ (7 * j)) (byteAt s j % 128)]
    have hsum := sum_lt (c := byteAt s j % 128) hlt (by omega : 7 * j ≤ 64)
    congr 1
    rw [Nat.add_mod, Nat.mod_eq_of_lt (show digs (s.take j) < 18446744073709551616 by omega), Nat.mod_eq_of_lt hsum]

theorem allHi_range {s : List UInt8} {j : Nat} (hj : j ≤ 10) (h : AllHi s (List.range j)) : ∀ i, i < j → 128 ≤ (s.getD i 0).toNat := fun i hi => by
  have := h i (by simpa using hi)
  rwa [m10_eq (by omega)] at this

/-- What is left of number, behind the book-keeping of its loop. -/
theorem NumPost.put {a b : Addr} {B : Nat} {s : List UInt8} {w W : World} {e : Ending} (h : NumPost a b B s w e W) (hB : B < w.heap.size) {D : Nat} (hD : w.heap.size ≤ D) (o : Obj) : NumPost a b B s w e (W.putObj D o) := by
  obtain ⟨h1, h2, h3⟩ := h
  refine ⟨h1, (World.putObj_heap_other (by omega)).trans h2, ⟨h3.os, h3.tape, h3.output, ?_, fun i hi hne => (World.putObj_heap_other (by omega)).trans (h3.block i hi hne)⟩⟩
  have := h3.size
  simpa [World.putObj] using this
theorem NumPost.drew {a b : Addr} {B : Nat} {s : List UInt8} {w W : World} {e : Ending} (h : NumPost a b B s w e W) : NumPost a b B s w e W.drew := by
  obtain ⟨h1, h2, h3⟩ := h
  exact ⟨h1, h2, ⟨h3.os, h3.tape, h3.output, h3.size, h3.block⟩⟩
theorem grown_set {w W : World} {B : Nat} (hb : Below w.heap.size w W) (i : Nat) (v : Value) : w.grownBy (W.setCell ⟨B, i, none⟩ v) (some B) :=
  ⟨hb.os, hb.tape, hb.output, by simpa [World.setCell] using hb.size, fun j hj hne => (Below.heap_setCell W ⟨B, i, none⟩ v j (fun e => hne (by rw [e]))).trans (hb.block j hj)⟩
theorem er_more (a b : Addr) : er a b 21 = .iface 164 (.pointer (some a)) := rfl
theorem er_none (a b : Addr) : er a b 20 = .iface 164 (.pointer (some b)) := rfl
/-- An error of code c is kept: the bytes stay. -/
theorem num_err {a b : Addr} {B : Nat} {s : List UInt8} {w W : World} {c : Int} (hc : vcode s = c) (h0 : c ≠ 0) (hb : Below w.heap.size w W) (bB : Blk W B 148 #[.string ⟨s.toArray⟩, .nilIface]) :
    NumPost a b B s w (.returned (.int .u64 0)) (W.setCell ⟨B, 1, none⟩ (er a b c)) := by
  subst hc
  refine ⟨by rw [vnum_err h0]; rfl, ?_, grown_set hb 1 _⟩
  rw [vsize_err h0, List.drop_zero]
  exact bB.set_ 1 _
theorem num_more {a b : Addr} {B : Nat} {s : List UInt8} {w W : World} (hp : AllHi s (List.range (min s.length 10))) (hlen : s.length < 10) (hb : Below w.heap.size w W) (bB : Blk W B 148 #[.string ⟨s.toArray⟩, .nilIface]) :
    NumPost a b B s w (.returned (.int .u64 0)) (W.setCell ⟨B, 1, none⟩ (.iface 164 (.pointer (some a)))) := by
  refine num_err (c := 21) ?_ (by decide) hb bB
  rw [vcode_none (fun j h1 h2 => allHi_range (Nat.min_le_right _ _) hp j (by omega)), if_pos hlen]
theorem num_long {a b : Addr} {B : Nat} {s : List UInt8} {w W : World} (hp : AllHi s (List.range (min s.length 10))) (hlen : ¬ s.length < 10) (hb : Below w.heap.size w W) (bB : Blk W B 148 #[.string ⟨s.toArray⟩, .nilIface]) :
    NumPost a b B s w (.returned (.int .u64 0)) (W.setCell ⟨B, 1, none⟩ (.iface 164 (.pointer (some b)))) := by
  refine num_err (c := 20) ?_ (by decide) hb bB
  rw [vcode_none (fun j h1 h2 => allHi_range (Nat.min_le_right _ _) hp j (by omega)), if_neg hlen]
/-- The bytes up to the first below 128 are a number's, just if neither test of the program's finds fault. -/
theorem fits_test {s : List UInt8} {k : Nat} (hk : k < min s.length 10) (h : ∀ i, i < k → 128 ≤ (s.getD i 0).toNat) (hl : (s.getD k 0).toNat < 128) :
    Fits (s.take (k + 1)) ↔ ¬ (1 < k + 1 ∧ byteAt s k = 0) ∧ ¬ (k + 1 = 10 ∧ 1 < byteAt s k) := by
  have hk1 : k < s.length := by omega
  have e : s.take (k + 1) = s.take k ++ [s.getD k 0] := by
    rw [List.take_succ_eq_append_getElem hk1, List.getD_eq_getElem?_getD, List.getElem?_eq_getElem hk1]; rfl
  have hlen : (s.take k).length = k := by simp; omega
  have hd := digs_take (s := s) (k := k) hk1
  have hlt := digs_take_lt s k
  rw [fits_iff, hd, e, canon_iff (hs := s.take k) (fun x hx => by
    obtain ⟨i, hi, rfl⟩ := List.getElem_of_mem hx
    have := h i (by omega)
    rw [List.getElem_take]
    rwa [List.getD_eq_getElem?_getD, List.getElem?_eq_getElem (by omega)] at this) hl]
  have h0 : s.take k = [] ↔ k = 0 := by rw [← List.length_eq_zero_iff, hlen]
  rw [h0]
  have hb : byteAt s k = (s.getD k 0).toNat := rfl
  rw [← hb] at hl ⊢
  rw [Nat.mod_eq_of_lt hl]
  generalize byteAt s k = d at *
  by_cases h9 : k = 9
  · subst h9
    omega
  · have hp := pow128 (k := k + 1) (by omega)
    rw [Nat.pow_succ] at hp
    have : 128 ^ k * d ≤ 128 ^ k * 127 := Nat.mul_le_mul_left _ (by omega)
    omega
theorem num_bad {a b : Addr} {B : Nat} {s : List UInt8} {w W : World} {k : Nat} (hk : k < min s.length 10) (h : AllHi s (List.range k)) (hl : byteAt s k < 128) (hbad : (1 < k + 1 ∧ byteAt s k = 0) ∨ (k + 1 = 10 ∧ 1 < byteAt s k)) (hb : Below w.heap.size w W) (bB : Blk W B 148 #[.string ⟨s.toArray⟩, .nilIface]) :
    NumPost a b B s w (.returned (.int .u64 0)) (W.setCell ⟨B, 1, none⟩ (.iface 164 (.pointer (some b)))) := by
  have hh := allHi_range (j := k) (by omega) h
  refine num_err (c := 20) ?_ (by decide) hb bB
  rw [(vcode_at (k := k) (by omega) (by omega) hh hl).2, if_neg (fun hf => by have := (fits_test hk hh hl).1 hf; omega)]
theorem num_good {a b : Addr} {B : Nat} {s : List UInt8} {w W : World} {k : Nat} (hk : k < min s.length 10) (h : AllHi s (List.range k)) (hl : byteAt s k < 128) (hbad : ¬ ((1 < k + 1 ∧ byteAt s k = 0) ∨ (k + 1 = 10 ∧ 1 < byteAt s k))) (hb : Below w.heap.size w W) (bB : Blk W B 148 #[.string ⟨s.toArray⟩, .nilIface]) :
    NumPost a b B s w (.returned (.int .u64 (orAll s (List.range (k + 1))))) (W.setCell ⟨B, 0, none⟩ (.string ⟨(s.drop (k + 1)).toArray⟩)) := by
  have hh := allHi_range (j := k) (by omega) h
  obtain ⟨e1, e2⟩ := vcode_at (s := s) (k := k) (by omega) (by omega) hh hl
  have hf := (fits_test hk hh hl).2 (by omega)
  rw [if_pos hf] at e2
  have es : vsize s = k + 1 := by unfold vsize; rw [if_pos e2, e1]
  have hd := (fits_iff.1 hf).2
  refine ⟨by rw [orAll_range (by omega) (by omega), Nat.mod_eq_of_lt hd]; unfold vnum; rw [es], ?_, grown_set hb 0 _⟩
  rw [es, e2]
  exact bB.set_ 0 _
end Go.Proofs.YthoegicchjadaaaDoor
