import Derived.Test.YtbfchlfagdhglaaDoorMG13
import Derived.Test.YtbfchlfagdhglaaDoorMG16
import Derived.Stop.RegionWithIn
import Derived.Test.YtbfchlfagdhglaaDoorMG11
import Derived.RegionTactic
import Derived.Deep.RegionWith
import Derived.Deep.DeepCutAuto
import Derived.Test.YtbfchlfagdhglaaDoorMG2
import Derived.Laws.Concat
import Derived.Laws.IdiomStrings
/- The bytes ahead: the iterator over what is left of a text. -/
namespace Go.Proofs.YtbfchlfagdhglaaDoor
open Go.RowKit
attribute [local go_sem] Oper.semAt_some


/-- A place of the first ten, and the byte there. -/
def m10 (x : Nat) : Nat := x % 10
def byteAt (l : List UInt8) (j : Nat) : Nat := (l.getD j 0).toNat
theorem m10_lt (x : Nat) : m10 x < 10 := Nat.mod_lt _ (by decide)
theorem m10_eq {x : Nat} (h : x < 10) : m10 x = x := Nat.mod_eq_of_lt h
theorem byteAt_lt (l : List UInt8) (j : Nat) : byteAt l j < 256 := UInt8.toNat_lt _

theorem byte_get (s : List UInt8) (k : Nat) (h : k < s.length) : ((⟨s.toArray⟩ : ByteArray)[k]'(show k < s.toArray.size by simpa using h)).toNat = byteAt s k := by
  unfold byteAt
  rw [List.getD_eq_getElem?_getD, List.getElem?_eq_getElem h]
  rfl
theorem ahead_any (p : Option Addr) (w : World) :
    Calls Tryd.prog 63 #[.pointer p] w fun e w' => e = .returned (.func (.func 65) #[] #[.pointer (some ⟨w.heap.size, 0, none⟩)]) ∧ w' = w.alloc (.cells #[.pointer p] 137) := by
  go_enter Tryd.func63, Tryd.ntmps63
  go_wp2
  go_ret
  exact ⟨rfl, rfl⟩

set_option maxRecDepth 100000 in
set_option maxHeartbeats 2000000 in
theorem ahead1_in (n : Nat) (hn : 1 ≤ n) (l Bl B : Nat) (s : List UInt8) (er : Value) (hs : s.length ≤ 9223372036854775807) (J Jx : List Nat → World → Prop)
    (hY : ∀ pre x W, J pre W → pre.length < 10 → YieldAt Fence.wide (n - 1) Tryd.prog l #[.int .i64 (m10 x : Nat), .int .u8 (byteAt s (m10 x) : Nat)] W fun e W' =>
      (e = .returned (.bool true) ∧ J (pre ++ [x]) W' ∧ Keeps2V Bl B W W') ∨ (e = .returned (.bool false) ∧ Jx (pre ++ [x]) W'))
    (W : World) (bl : Blk W Bl 137 #[.pointer (some ⟨B, 0, none⟩)]) (bB : Blk W B 114 #[.string ⟨s.toArray⟩, er]) (h0 : J [] W) :
    CallsIn Fence.wide n Tryd.prog 65 #[.func (.yield l) #[] #[], .pointer (some ⟨Bl, 0, none⟩)] W (SeqPostV (fun ys => ys = List.range (min s.length 10)) (fun pre => ∃ k, k < min s.length 10 ∧ pre = List.range (k + 1)) J Jx) := by
  have c0 := bl.cell 0; have d0 := bB.cell 0
  dsimp at c0 d0
  refine callsIn_of_wp Tryd.func65 rfl trivial ?_ rfl
  simp only [Tryd.ntmps65, List.size_toArray, List.length_cons, List.length_nil, Nat.reduceAdd, Nat.reduceSub, Array.replicate_succ, Array.replicate_zero, List.push_toArray, List.append_toArray, List.nil_append, List.cons_append]
  gi_wp2
  all_goals
    have hN : min s.length 10 ≤ 10 := Nat.min_le_right _ _
    gi_loopw [10] (fun i wr => ∃ k : Nat, k ≤ min s.length 10 ∧ i = .int .i64 k ∧ J (List.range k) wr ∧ Blk wr Bl 137 #[.pointer (some ⟨B, 0, none⟩)] ∧ Blk wr B 114 #[.string ⟨s.toArray⟩, er])
      (fun i _ => 10 - (intOf i).toNat)
    case atStart => exact ⟨0, Nat.zero_le _, rfl, h0, bl, bB⟩
    case round =>
      obtain ⟨k, hk, rfl, hJs, bl1, bB1⟩ := hrel
      by_cases hlt : k < min s.length 10
      · have hk1 : k < s.length := Nat.lt_of_lt_of_le hlt (Nat.min_le_left _ _)
        have hk2 : k < 10 := Nat.lt_of_lt_of_le hlt (Nat.min_le_right _ _)
        have c1 := bl1.cell 0; have d1 := bB1.cell 0
        dsimp at c1 d1
        obtain ⟨fn, tmps, assign, body, hy, hR⟩ := hY (List.range k) k wr hJs (by simp; omega)
        rw [m10_eq hk2] at hy
        have hb := byte_get s k hk1
        have HR : Hid (List.range k ++ [k] = List.range (k + 1)) := Lib.hid List.range_succ.symm
        gi_wp2
        refine hR.mono ?_
        rintro e W3 (⟨rfl, hJ3, hk3⟩ | ⟨rfl, hJx3⟩)
        · gi_wp2
          go_roundw
          case rel => exact ⟨k + 1, by omega, by simp, by rw [← HR.out]; exact hJ3, hk3.1.trans bl1, hk3.2.trans bB1⟩
          case measure => simp [intOf]; omega
        · gi_wp2
          refine bodyPost_ret (results_none rfl _ _ _) rfl ?_
          exact .stop ⟨k, hlt, HR.out⟩ hJx3
      · have HK : Hid (k = min s.length 10) := Lib.hid (by omega)
        have hge : ¬ (k : Int) < 10 ∨ ¬ (k : Int) < s.length := by omega
        rcases hge with hge | hge
        all_goals
          gi_wp2
          all_goals
            go_end0
            exact .all (by rw [← HK.out]) hJs

/-- The next bytes, for a loop's body that keeps the reader and the box that it was boxed in. -/
theorem ahead_stops (n : Nat) (hn : 1 ≤ n) (Bl B : Nat) (s : List UInt8) (er : Value) (hs : s.length ≤ 9223372036854775807) (w : World) (bl : Blk w Bl 137 #[.pointer (some ⟨B, 0, none⟩)]) (bB : Blk w B 114 #[.string ⟨s.toArray⟩, er]) :
    SeqStopsK Fence.wide n Tryd.prog 65 #[.pointer (some ⟨Bl, 0, none⟩)] (fun x : Nat => #[.int .i64 (m10 x : Nat), .int .u8 (byteAt s (m10 x) : Nat)]) (Keeps2V Bl B) (fun ys => ys = List.range (min s.length 10)) (fun pre => ∃ k, k < min s.length 10 ∧ pre = List.range (k + 1)) 10 w := fun l J Jx W hW _ _ hY h0 =>
  ahead1_in n hn l Bl B s er hs J Jx hY W (bl.under hW) (bB.under hW) h0
end Go.Proofs.YtbfchlfagdhglaaDoor
/- (*reader).number: a varint read; skip. -/
namespace Go.Proofs.YtbfchlfagdhglaaDoor
open Go.RowKit
attribute [local go_sem] Oper.semAt_some

set_option maxHeartbeats 1000000 in
theorem skip_any (B : Nat) (s : List UInt8) (er : Value) (k : Nat) (hk : k ≤ s.length) (w : World) (bB : Blk w B 114 #[.string ⟨s.toArray⟩, er]) :
    Calls Tryd.prog 64 #[.pointer (some ⟨B, 0, none⟩), .int .i64 k] w fun e w' => (∃ v, e = .returned v) ∧ w' = w.setCell ⟨B, 0, none⟩ (.string ⟨(s.drop k).toArray⟩) := by
  have d0 := bB.cell 0; have f0 := bB.frozen 0
  dsimp at d0
  have H : Hid ((ByteArray.mk s.toArray).extract k s.length = ⟨(s.drop k).toArray⟩) := Lib.hid ((ext_mk s k s.length).trans (mk_str (by rw [List.take_of_length_le (Nat.le_refl _)])))
  go_enter Tryd.func64, Tryd.ntmps64
  go_wp2
  go_end0
  rw [← H.out]
  exact ⟨⟨_, rfl⟩, rfl⟩

/-- A byte's digits at place k. -/
def shl7 (d k : Nat) : Int := ((d % 128 * 128 ^ k % 18446744073709551616 : Nat) : Int)
theorem and127_8 (d : Nat) : bits .and .u8 (d : Int) 127 = ((d % 128 : Nat) : Int) := by
  show IntKind.u8.wrap ((BitVec.ofInt 8 d &&& BitVec.ofInt 8 127).toNat : Int) = _
  rw [BitVec.toNat_and, BitVec.toNat_ofInt, BitVec.toNat_ofInt, show (127 % ((2 ^ 8 : Nat) : Int)).toNat = 2 ^ 7 - 1 from rfl, Nat.and_two_pow_sub_one_eq_mod]
  simp [IntKind.wrap, IntKind.bits, IntKind.signed]
  omega
theorem shl7_eq (e k : Nat) (hk : k < 10) : IntKind.u64.wrap ((e : Int) * 2 ^ min ((7 : Int) * k).toNat 64) = ((e * 128 ^ k % 18446744073709551616 : Nat) : Int) := by
  have e2 : (2 : Int) ^ min ((7 : Int) * k).toNat 64 = ((128 ^ k : Nat) : Int) := by
    rw [show min ((7 : Int) * k).toNat 64 = 7 * k by omega, Int.pow_mul]
    norm_cast
  rw [e2, u64_wrap, ← Int.natCast_mul]
  generalize e * 128 ^ k = q
  omega
theorem shift7 (d k : Nat) (hk : k < 10) (W : World) : (Op.shift .shl .u64 (IntKind.u64.wrap (bits .and .u8 (d : Int) 127)) .i64 (IntKind.i64.wrap (7 * (k : Int)))).run Tryd.prog W = .ok (.int .u64 (shl7 d k)) W := by
  have h1 : IntKind.i64.wrap (7 * (k : Int)) = 7 * k := by rw [IntKind.wrap_i64]; omega
  have h2 : IntKind.u64.wrap ((d % 128 : Nat) : Int) = ((d % 128 : Nat) : Int) := by rw [u64_wrap]; omega
  rw [and127_8, h1, h2, shift_shl_any _ _ _ _ (by omega)]
  show Result.ok (Value.int .u64 (IntKind.u64.wrap (((d % 128 : Nat) : Int) * 2 ^ min ((7 : Int) * k).toNat 64))) W = _
  rw [shl7_eq _ _ hk]
  rfl
/-- One more byte's digits. -/
def orAt (s : List UInt8) (n : Int) (x : Nat) : Int := bits .or .u64 n (shl7 (byteAt s (m10 x)) (m10 x))
def orAll (s : List UInt8) (pre : List Nat) : Int := pre.foldl (orAt s) 0
/-- All of them are 128 or more. -/
def AllHi (s : List UInt8) (pre : List Nat) : Prop := ∀ x ∈ pre, 128 ≤ byteAt s (m10 x)
/-- The last one is the first below 128; the boxes hold what it comes to. -/
def StopsAt (s : List UInt8) (N : Nat) (pre : List Nat) (W : World) : Prop := ∃ ini x, pre = ini ++ [x] ∧ AllHi s ini ∧ byteAt s (m10 x) < 128 ∧ Blk W N 44 #[.int .u64 (orAll s pre)] ∧ Blk W (N + 1) 3 #[.int .i64 (m10 x + 1 : Nat)] ∧ Blk W (N + 2) 5 #[.int .u8 (byteAt s (m10 x) : Nat)]
/-- 'Block g is just these cells' speaks of cells alone. -/
theorem blk_ownV {β : Type} (B : Nat) (t : TypeId) (f : β → Array Value) : Own (fun s W => Blk W B t (f s)) := fun s X Y row hs hg hrow => by
  have hlt := Blk.lt hs
  refine (hg.block B hlt (fun e => ?_)).trans hs
  obtain ⟨o, ho, hc⟩ := hrow B e.symm
  rw [show X.heap[B]? = _ from hs] at ho
  cases ho
  cases hc
theorem stops_own (N : Nat) (s : List UInt8) : Own (fun pre W => StopsAt s N pre W) := fun pre X Y row hs hg hr => by
  obtain ⟨ini, x, e1, e2, e3, h1, h2, h3⟩ := hs
  exact ⟨ini, x, e1, e2, e3, blk_ownV _ _ (fun (_ : Unit) => #[.int .u64 (orAll s pre)]) () X Y row h1 hg hr, blk_ownV _ _ (fun (_ : Unit) => #[.int .i64 (m10 x + 1 : Nat)]) () X Y row h2 hg hr, blk_ownV _ _ (fun (_ : Unit) => #[.int .u8 (byteAt s (m10 x) : Nat)]) () X Y row h3 hg hr⟩
/-- What a call of number leaves. -/
def NumPost (a b : Addr) (B : Nat) (s : List UInt8) (w : World) (e : Ending) (w' : World) : Prop :=
  e = .returned (.int .u64 (vnum s)) ∧ Blk w' B 114 #[.string ⟨(s.drop (vsize s)).toArray⟩, er a b (vcode s)] ∧ w.grownBy w' (some B)

theorem sum_lt {x c i : Nat} (hx : x < 2 ^ i) (hi : i ≤ 64) : x + c * 2 ^ i % 18446744073709551616 < 18446744073709551616 := by
  have e1 : c * 2 ^ i % 18446744073709551616 = 2 ^ i * (c % 2 ^ (64 - i)) := by
    rw [show (18446744073709551616 : Nat) = 2 ^ i * 2 ^ (64 - i) by rw [← Nat.pow_add, show i + (64 - i) = 64 by omega], Nat.mul_comm c, Nat.mul_mod_mul_left]
  have h2 : c % 2 ^ (64 - i) + 1 ≤ 2 ^ (64 - i) := Nat.mod_lt _ (Nat.pow_pos (by decide))
  have h3 : 2 ^ i * (c % 2 ^ (64 - i) + 1) ≤ 2 ^ i * 2 ^ (64 - i) := Nat.mul_le_mul_left _ h2
  rw [← Nat.pow_add, show i + (64 - i) = 64 by omega, Nat.mul_add] at h3
  rw [e1]
  omega

/-! The bytes' digits, or'ed: the number. -/
theorem or_add (x c i : Nat) (hx : x < 2 ^ i) (hi : i ≤ 64) : bits .or .u64 (x : Int) ((c * 2 ^ i % 18446744073709551616 : Nat) : Int) = ((x + c * 2 ^ i % 18446744073709551616 : Nat) : Int) := by
  have e1 : c * 2 ^ i % 18446744073709551616 = 2 ^ i * (c % 2 ^ (64 - i)) := by
    rw [show (18446744073709551616 : Nat) = 2 ^ i * 2 ^ (64 - i) by rw [← Nat.pow_add, show i + (64 - i) = 64 by omega], Nat.mul_comm c, Nat.mul_mod_mul_left]
  have e2 : 2 ^ i * (c % 2 ^ (64 - i)) + x = 2 ^ i * (c % 2 ^ (64 - i)) ||| x := Nat.two_pow_add_eq_or_of_lt hx _
  have e3 : c * 2 ^ i % 18446744073709551616 < 18446744073709551616 := Nat.mod_lt _ (by decide)
  have e4 : x < 18446744073709551616 := Nat.lt_of_lt_of_le hx (by rw [show (18446744073709551616 : Nat) = 2 ^ 64 from rfl]; exact Nat.pow_le_pow_right (by decide) hi)
  have e5 : x ||| c * 2 ^ i % 18446744073709551616 < 18446744073709551616 := by
    rw [show (18446744073709551616 : Nat) = 2 ^ 64 from rfl] at e3 e4 ⊢
    exact Nat.or_lt_two_pow e4 e3
  have e6 : x ||| c * 2 ^ i % 18446744073709551616 = x + c * 2 ^ i % 18446744073709551616 := by rw [e1, Nat.or_comm, ← e2, Nat.add_comm]
  show IntKind.u64.wrap ((BitVec.ofInt 64 (x : Int) ||| BitVec.ofInt 64 ((c * 2 ^ i % 18446744073709551616 : Nat) : Int)).toNat : Int) = _
  generalize c * 2 ^ i % 18446744073709551616 = y at *
  rw [BitVec.toNat_or, BitVec.ofInt_natCast, BitVec.ofInt_natCast, BitVec.toNat_ofNat, BitVec.toNat_ofNat, Nat.mod_eq_of_lt (by omega), Nat.mod_eq_of_lt (by omega), e6, u64_wrap]
  omega
theorem digs_take {s : List UInt8} {k : Nat} (h : k < s.length) : digs (s.take (k + 1)) = digs (s.take k) + 128 ^ k * (byteAt s k % 128) := by
  have e : s.take (k + 1) = s.take k ++ [s.getD k 0] := by
    rw [List.take_succ_eq_append_getElem h, List.getD_eq_getElem?_getD, List.getElem?_eq_getElem h]; rfl
  rw [e, digs_append]
  simp only [digs, List.length_take, byteAt]
  rw [Nat.min_eq_left (by omega)]
  simp
theorem digs_take_lt (s : List UInt8) (k : Nat) : digs (s.take k) < 128 ^ k :=
  Nat.lt_of_lt_of_le (digs_lt _) (Nat.pow_le_pow_right (by decide) (by simp; omega))
theorem pow128 {k : Nat} (h : k ≤ 9) : 128 ^ k ≤ 9223372036854775808 := Nat.le_trans (Nat.pow_le_pow_right (by decide) h) (by decide)
theorem orAll_range {s : List UInt8} : ∀ {j : Nat}, j ≤ s.length → j ≤ 10 → orAll s (List.range j) = ((digs (s.take j) % 18446744073709551616 : Nat) : Int)
  | 0, _, _ => by simp [orAll, digs]
  | j + 1, h1, h2 => by
    have ih := orAll_range (s := s) (j := j) (by omega) (by omega)
    have hlt := digs_take_lt s j
    have hp := pow128 (k := j) (by omega)
    rw [List.range_succ]
    have e : orAll s (List.range j ++ [j]) = orAt s (orAll s (List.range j)) j := by simp [orAll]
    rw [e, ih, Nat.mod_eq_of_lt (by omega), digs_take (by omega)]
    unfold orAt shl7
    have e2 : (128 : Nat) ^ j = 2 ^ (7 * j) := by rw [Nat.pow_mul]
    rw [e2] at hlt
    rw [m10_eq (by omega), e2, or_add _ _ _ hlt (by omega), Nat.mul_comm (2 ^ (7 * j)) (byteAt s j % 128)]
    have hsum := sum_lt (c := byteAt s j % 128) hlt (by omega : 7 * j ≤ 64)
    congr 1
    rw [Nat.add_mod, Nat.mod_eq_of_lt (show digs (s.take j) < 18446744073709551616 by omega), Nat.mod_eq_of_lt hsum]

theorem allHi_range {s : List UInt8} {j : Nat} (hj : j ≤ 10) (h : AllHi s (List.range j)) : ∀ i, i < j → 128 ≤ (s.getD i 0).toNat := fun i hi => by
  have := h i (by simpa using hi)
  rwa [m10_eq (by omega)] at this

/-- What is left of number, behind the book-keeping of its loop. -/
theorem NumPost.put {a b : Addr} {B : Nat} {s : List UInt8} {w W : World} {e : Ending} (h : NumPost a b B s w e W) (hB : B < w.heap.size) {D : Nat} (hD : w.heap.size ≤ D) (o : Obj) : NumPost a b B s w e (W.putObj D o) := by
  obtain ⟨h1, h2, h3⟩ := h
  refine ⟨h1, (World.putObj_heap_other (by omega)).trans h2, ⟨h3.os, h3.tape, h3.output, ?_, fun i hi hne => (World.putObj_heap_other (by omega)).trans (h3.block i hi hne)⟩⟩
  have := h3.size
  simpa [World.putObj] using this
theorem NumPost.drew {a b : Addr} {B : Nat} {s : List UInt8} {w W : World} {e : Ending} (h : NumPost a b B s w e W) : NumPost a b B s w e W.drew := by
  obtain ⟨h1, h2, h3⟩ := h
  exact ⟨h1, h2, ⟨h3.os, h3.tape, h3.output, h3.size, h3.block⟩⟩
theorem grown_setV {w W : World} {B : Nat} (hb : Below w.heap.size w W) (i : Nat) (v : Value) : w.grownBy (W.setCell ⟨B, i, none⟩ v) (some B) :=
  ⟨hb.os, hb.tape, hb.output, by simpa [World.setCell] using hb.size, fun j hj hne => (Below.heap_setCell W ⟨B, i, none⟩ v j (fun e => hne (by rw [e]))).trans (hb.block j hj)⟩
theorem er_more (a b : Addr) : er a b 21 = .iface 139 (.pointer (some a)) := rfl
theorem er_none (a b : Addr) : er a b 20 = .iface 139 (.pointer (some b)) := rfl
/-- An error of code c is kept: the bytes stay. -/
theorem num_err {a b : Addr} {B : Nat} {s : List UInt8} {w W : World} {c : Int} (hc : vcode s = c) (h0 : c ≠ 0) (hb : Below w.heap.size w W) (bB : Blk W B 114 #[.string ⟨s.toArray⟩, .nilIface]) :
    NumPost a b B s w (.returned (.int .u64 0)) (W.setCell ⟨B, 1, none⟩ (er a b c)) := by
  subst hc
  refine ⟨by rw [vnum_err h0]; rfl, ?_, grown_setV hb 1 _⟩
  rw [vsize_err h0, List.drop_zero]
  exact bB.set_ 1 _
theorem num_more {a b : Addr} {B : Nat} {s : List UInt8} {w W : World} (hp : AllHi s (List.range (min s.length 10))) (hlen : s.length < 10) (hb : Below w.heap.size w W) (bB : Blk W B 114 #[.string ⟨s.toArray⟩, .nilIface]) :
    NumPost a b B s w (.returned (.int .u64 0)) (W.setCell ⟨B, 1, none⟩ (.iface 139 (.pointer (some a)))) := by
  refine num_err (c := 21) ?_ (by decide) hb bB
  rw [vcode_none (fun j h1 h2 => allHi_range (Nat.min_le_right _ _) hp j (by omega)), if_pos hlen]
theorem num_long {a b : Addr} {B : Nat} {s : List UInt8} {w W : World} (hp : AllHi s (List.range (min s.length 10))) (hlen : ¬ s.length < 10) (hb : Below w.heap.size w W) (bB : Blk W B 114 #[.string ⟨s.toArray⟩, .nilIface]) :
    NumPost a b B s w (.returned (.int .u64 0)) (W.setCell ⟨B, 1, none⟩ (.iface 139 (.pointer (some b)))) := by
  refine num_err (c := 20) ?_ (by decide) hb bB
  rw [vcode_none (fun j h1 h2 => allHi_range (Nat.min_le_right _ _) hp j (by omega)), if_neg hlen]
/-- The bytes up to the first below 128 are a number's, just if neither test of the program's finds fault. -/
theorem fits_test {s : List UInt8} {k : Nat} (hk : k < min s.length 10) (h : ∀ i, i < k → 128 ≤ (s.getD i 0).toNat) (hl : (s.getD k 0).toNat < 128) :
    Fits (s.take (k + 1)) ↔ ¬ (1 < k + 1 ∧ byteAt s k = 0) ∧ ¬ (k + 1 = 10 ∧ 1 < byteAt s k) := by
  have hk1 : k < s.length := by omega
  have e : s.take (k + 1) = s.take k ++ [s.getD k 0] := by
    rw [List.take_succ_eq_append_getElem hk1, List.getD_eq_getElem?_getD, List.getElem?_eq_getElem hk1]; rfl
  have hlen : (s.take k).length = k := by simp; omega
  have hd := digs_take (s := s) (k := k) hk1
  have hlt := digs_take_lt s k
  rw [fits_iff, hd, e, canon_iff (hs := s.take k) (fun x hx => by
    obtain ⟨i, hi, rfl⟩ := List.getElem_of_mem hx
    have := h i (by omega)
    rw [List.getElem_take]
    rwa [List.getD_eq_getElem?_getD, List.getElem?_eq_getElem (by omega)] at this) hl]
  have h0 : s.take k = [] ↔ k = 0 := by rw [← List.length_eq_zero_iff, hlen]
  rw [h0]
  have hb : byteAt s k = (s.getD k 0).toNat := rfl
  rw [← hb] at hl ⊢
  rw [Nat.mod_eq_of_lt hl]
  generalize byteAt s k = d at *
  by_cases h9 : k = 9
  · subst h9
    omega
  · have hp := pow128 (k := k + 1) (by omega)
    rw [Nat.pow_succ] at hp
    have : 128 ^ k * d ≤ 128 ^ k * 127 := Nat.mul_le_mul_left _ (by omega)
    omega
theorem num_bad {a b : Addr} {B : Nat} {s : List UInt8} {w W : World} {k : Nat} (hk : k < min s.length 10) (h : AllHi s (List.range k)) (hl : byteAt s k < 128) (hbad : (1 < k + 1 ∧ byteAt s k = 0) ∨ (k + 1 = 10 ∧ 1 < byteAt s k)) (hb : Below w.heap.size w W) (bB : Blk W B 114 #[.string ⟨s.toArray⟩, .nilIface]) :
    NumPost a b B s w (.returned (.int .u64 0)) (W.setCell ⟨B, 1, none⟩ (.iface 139 (.pointer (some b)))) := by
  have hh := allHi_range (j := k) (by omega) h
  refine num_err (c := 20) ?_ (by decide) hb bB
  rw [(vcode_at (k := k) (by omega) (by omega) hh hl).2, if_neg (fun hf => by have := (fits_test hk hh hl).1 hf; omega)]
theorem num_good {a b : Addr} {B : Nat} {s : List UInt8} {w W : World} {k : Nat} (hk : k < min s.length 10) (h : AllHi s (List.range k)) (hl : byteAt s k < 128) (hbad : ¬ ((1 < k + 1 ∧ byteAt s k = 0) ∨ (k + 1 = 10 ∧ 1 < byteAt s k))) (hb : Below w.heap.size w W) (bB : Blk W B 114 #[.string ⟨s.toArray⟩, .nilIface]) :
    NumPost a b B s w (.returned (.int .u64 (orAll s (List.range (k + 1))))) (W.setCell ⟨B, 0, none⟩ (.string ⟨(s.drop (k + 1)).toArray⟩)) := by
  have hh := allHi_range (j := k) (by omega) h
  obtain ⟨e1, e2⟩ := vcode_at (s := s) (k := k) (by omega) (by omega) hh hl
  have hf := (fits_test hk hh hl).2 (by omega)
  rw [if_pos hf] at e2
  have es : vsize s = k + 1 := by unfold vsize; rw [if_pos e2, e1]
  have hd := (fits_iff.1 hf).2
  refine ⟨by rw [orAll_range (by omega) (by omega), Nat.mod_eq_of_lt hd]; unfold vnum; rw [es], ?_, grown_setV hb 0 _⟩
  rw [es, e2]
  exact bB.set_ 0 _
end Go.Proofs.YtbfchlfagdhglaaDoor
/- (*reader).number: a varint read. -/
namespace Go.Proofs.YtbfchlfagdhglaaDoor
open Go.RowKit
attribute [local go_sem] Oper.semAt_some

set_option maxRecDepth 100000 in
set_option maxHeartbeats 1000000 in
theorem number_any {n₀ : Nat} (a b : Addr) (B : Nat) (s : List UInt8) (hs : s.length ≤ 9223372036854775807) (w : World) (hS : Sent n₀ w a b) (hn₀ : n₀ ≤ w.heap.size) (_ : n₀ ≤ B) (bB : Blk w B 114 #[.string ⟨s.toArray⟩, .nilIface]) :
    Calls Tryd.prog 57 #[.pointer (some ⟨B, 0, none⟩)] w (NumPost a b B s w) := by
  have hBlt := bB.lt
  refine (callsIn_wide (n := 4)).1 ?_
  refine callsIn_of_wp_marks Tryd.func57 rfl trivial ?_ rfl
  simp only [Tryd.ntmps57, List.size_toArray, List.length_cons, List.length_nil, Nat.reduceAdd, Nat.reduceSub, Array.replicate_succ, Array.replicate_zero, List.push_toArray, List.append_toArray, List.nil_append, List.cons_append]
  rw [wpIn_wide]
  go_wp2
  go_step3
  go_wp2
  go_step3
  go_wp2_with (go_at_call 63; refine (ahead_any _ _).mono ?_; rintro e w' ⟨rfl, rfl⟩)
  have bn := (((Blk.new w 44 #[.int .u64 0]).alloc (.cells #[.int .i64 0] 3)).alloc (.cells #[.int .u8 0] 5)).alloc (.cells #[.pointer (some ⟨B, 0, none⟩)] 137)
  have bz := ((Blk.new (w.alloc (.cells #[.int .u64 0] 44)) 3 #[.int .i64 0]).alloc (.cells #[.int .u8 0] 5)).alloc (.cells #[.pointer (some ⟨B, 0, none⟩)] 137)
  have bt := (Blk.new ((w.alloc (.cells #[.int .u64 0] 44)).alloc (.cells #[.int .i64 0] 3)) 5 #[.int .u8 0]).alloc (.cells #[.pointer (some ⟨B, 0, none⟩)] 137)
  have bl := Blk.new (((w.alloc (.cells #[.int .u64 0] 44)).alloc (.cells #[.int .i64 0] 3)).alloc (.cells #[.int .u8 0] 5)) 137 #[.pointer (some ⟨B, 0, none⟩)]
  simp only [World.size_alloc] at bz bt bl
  have hB0 : Below w.heap.size w ((((w.alloc (.cells #[.int .u64 0] 44)).alloc (.cells #[.int .i64 0] 3)).alloc (.cells #[.int .u8 0] 5)).alloc (.cells #[.pointer (some ⟨B, 0, none⟩)] 137)) := ((((Below.refl _ w).alloc (Nat.le_refl _) _).alloc (by simp) _).alloc (by simp; omega) _).alloc (by simp; omega) _
  have hsz : ((((w.alloc (.cells #[.int .u64 0] 44)).alloc (.cells #[.int .i64 0] 3)).alloc (.cells #[.int .u8 0] 5)).alloc (.cells #[.pointer (some ⟨B, 0, none⟩)] 137)).heap.size = w.heap.size + 4 := by simp
  have bB0 := bB.under hB0
  generalize ((((w.alloc (.cells #[.int .u64 0] 44)).alloc (.cells #[.int .i64 0] 3)).alloc (.cells #[.int .u8 0] 5)).alloc (.cells #[.pointer (some ⟨B, 0, none⟩)] 137)) = W0 at *
  refine (wpIn_wide (n := 4)).1 ?_
  refine wpIn_rangeFunc_ownF (n := 4) rfl (by decide) (gf := 65) (lb := #[.pointer (some ⟨w.heap.size + 1 + 1 + 1, 0, none⟩)]) rfl trivial (enters_of Tryd.func65 (by kernel_rfl) rfl)
    (ahead_stops 3 (by decide) (w.heap.size + 1 + 1 + 1) B s .nilIface hs W0 bl bB0) keeps2_tV (keeps2_bV (by omega) (by omega)) (Below.refl _ _) (fun _ => rfl)
    (fun pre W => (((Blk W w.heap.size 44 #[.int .u64 (orAll s pre)] ∧ Blk W (w.heap.size + 1) 3 #[.int .i64 0]) ∧ Blk W (w.heap.size + 1 + 1) 5 #[.int .u8 0]) ∧ AllHi s pre) ∧ Below w.heap.size w W)
    (fun c pre W => (c = .exit 0 ∧ StopsAt s w.heap.size pre W) ∧ Below w.heap.size w W)
    (OwnFrom.and (OwnFrom.and (OwnFrom.and (OwnFrom.and (Own.from (blk_ownV _ _ (fun pre => #[.int .u64 (orAll s pre)])) _) (Own.from (blk_ownV _ _ (fun _ => #[.int .i64 0])) _)) (Own.from (blk_ownV _ _ (fun _ => #[.int .u8 0])) _)) (ownFrom_pure _ _)) (ownFrom_below (Nat.le_refl _) (by omega)))
    (fun c => OwnFrom.and (Own.from (fun s' X Y row hs hg hr => ⟨hs.1, stops_own _ s s' X Y row hs.2 hg hr⟩) _) (ownFrom_below (Nat.le_refl _) (by omega)))
    ⟨⟨⟨⟨bn, bz⟩, bt⟩, fun p hp => by cases hp⟩, hB0⟩
    (fun x => { tmps := #[.pointer (some ⟨B, 0, none⟩), undef, .int .u64 0, .pointer (some ⟨w.heap.size, 0, none⟩), .pointer (some ⟨w.heap.size + 1, 0, none⟩), .pointer (some ⟨w.heap.size + 1 + 1, 0, none⟩), .int .i64 (m10 x : Nat), .int .u8 (byteAt s (m10 x) : Nat), .pointer (some ⟨B, 0, none⟩), .pointer (some ⟨B, 0, none⟩), .pointer (some ⟨B, 0, none⟩), .func (.func 65) #[] #[.pointer (some ⟨w.heap.size + 1 + 1 + 1, 0, none⟩)], .int .i64 (m10 x : Nat), .int .u8 (byteAt s (m10 x) : Nat), undef, undef, undef, undef, undef, undef, undef, undef, undef, undef, undef, undef, undef, undef, undef, undef, undef, undef, undef, undef, undef, undef, undef, undef, undef, undef, undef, undef, undef, undef, undef, undef, undef, undef, undef, undef, undef, undef, undef, undef, undef, undef, undef, undef, undef, undef, undef, undef, undef, undef, undef, undef, undef, undef], defers := [] }) ?assign ?body ?done ?stop
  case assign =>
    intro l x W K hK
    gi_wp2
    exact hK
  case body =>
    rintro l pre x W ⟨⟨⟨⟨b1, b2⟩, b3⟩, hp⟩, hB1⟩ _
    have c1 := b1.cell 0; have f1 := b1.frozen 0
    have c2 := b2.cell 0; have f2 := b2.frozen 0
    have c3 := b3.cell 0; have f3 := b3.frozen 0
    dsimp at c1 c2 c3
    have hm := m10_lt x
    have hbt := byteAt_lt s (m10 x)
    have HO : Hid (orAll s (pre ++ [x]) = bits .or .u64 (orAll s pre) (shl7 (byteAt s (m10 x)) (m10 x))) := Lib.hid (by simp [orAll, orAt])
    generalize hk : m10 x = k at *
    generalize hd : byteAt s k = d at *
    have HK := Lib.hid hk; have HD := Lib.hid hd
    clear hk hd
    have hm' : (k : Int) < 10 := by omega
    have hd' : (d : Int) < 256 := by omega
    have hsh := shift7 d k hm
    generalize shl7 d k = v at *
    generalize orAll s pre = p at *
    gi_wp2
    refine wpIn_mono (Q := fun e a' w' => e = .normal ∧ (∃ u14 u15 u16 u17 u18 u19 u20 u21 : Value, a' = { tmps := #[.pointer (some ⟨B, 0, none⟩), undef, .int .u64 0, .pointer (some ⟨w.heap.size, 0, none⟩), .pointer (some ⟨w.heap.size + 1, 0, none⟩), .pointer (some ⟨w.heap.size + 1 + 1, 0, none⟩), .int .i64 k, .int .u8 d, .pointer (some ⟨B, 0, none⟩), .pointer (some ⟨B, 0, none⟩), .pointer (some ⟨B, 0, none⟩), .func (.func 65) #[] #[.pointer (some ⟨w.heap.size + 1 + 1 + 1, 0, none⟩)], .int .i64 k, .int .u8 d, u14, u15, u16, u17, u18, u19, u20, u21, undef, undef, undef, undef, undef, undef, undef, undef, undef, undef, undef, undef, undef, undef, undef, undef, undef, undef, undef, undef, undef, undef, undef, undef, undef, undef, undef, undef, undef, undef, undef, undef, undef, undef, undef, undef, undef, undef, undef, undef, undef, undef, undef, undef, undef, undef], defers := [] }) ∧ w' = (W.setCell ⟨w.heap.size, 0, none⟩ (.int .u64 (bits .or .u64 p v))).drew) ?_ ?_
    · refine wpIn_region_round rfl (by kernel_rfl) (by kernel_rfl) ?_
      refine wpAnyIn_take (i := 1) (v := ?_) rfl rfl (by kernel_rfl) (by kernel_rfl) (by kernel_rfl) (fun _ _ _ h => by cases h.1) ⟨Or.inl ⟨by rfl, ?_⟩, fun _ => rfl⟩ ?_
      rotate_left
      · intro w; go_simp; try with_reducible rfl
      refine wpAnyIn_take (i := 2) (v := ?_) rfl rfl (by kernel_rfl) (by kernel_rfl) (by kernel_rfl) (fun _ _ _ h => by cases h.1) ⟨Or.inl ⟨by rfl, ?_⟩, fun _ => rfl⟩ ?_
      rotate_left
      · intro w; go_simp; try with_reducible rfl
      refine wpAnyIn_take (i := 3) (v := ?_) rfl rfl (by kernel_rfl) (by kernel_rfl) (by kernel_rfl) (fun _ _ _ h => by cases h.1) ⟨Or.inl ⟨by rfl, ?_⟩, fun _ => rfl⟩ ?_
      rotate_left
      · intro w; go_simp; try with_reducible rfl
      refine wpAnyIn_take (i := 4) (v := ?_) rfl rfl (by kernel_rfl) (by kernel_rfl) (by kernel_rfl) (fun _ _ _ h => by cases h.1) ⟨Or.inl ⟨by rfl, ?_⟩, fun _ => rfl⟩ ?_
      rotate_left
      · intro w; go_simp; try with_reducible rfl
      refine wpAnyIn_take (i := 5) (v := ?_) rfl rfl (by kernel_rfl) (by kernel_rfl) (by kernel_rfl) (fun _ _ _ h => by cases h.1) ⟨Or.inl ⟨by rfl, ?_⟩, fun _ => rfl⟩ ?_
      rotate_left
      · intro w; go_simp; try with_reducible rfl
      refine wpAnyIn_take (i := 6) (v := ?_) rfl rfl (by kernel_rfl) (by kernel_rfl) (by kernel_rfl) (fun _ _ _ h => by cases h.1) ⟨Or.inl ⟨by rfl, ?_⟩, fun _ => rfl⟩ ?_
      rotate_left
      · intro w; go_simp; try with_reducible rfl
      refine wpAnyIn_ready (rs := [0]) (by kernel_rfl) (by simp) ?_
      refine AllReadyIn.cons rfl (fun K hK => ?_) AllReadyIn.nil
      go_simp
      refine hK _ _ ?_
      clear hK K
      refine wpAnyIn_ready (rs := [7]) (by kernel_rfl) (by simp) ?_
      refine AllReadyIn.cons rfl (fun K hK => ?_) AllReadyIn.nil
      go_simp
      refine hK _ _ ?_
      clear hK K
      refine wpAnyIn_ready (rs := [8]) (by kernel_rfl) (by simp) ?_
      refine AllReadyIn.cons rfl (fun K hK => ?_) AllReadyIn.nil
      go_simp
      refine hK _ _ ?_
      clear hK K
      refine wpAnyIn_done (by kernel_rfl) ?_ _
      exact ⟨rfl, ⟨_, _, _, _, _, _, _, _, rfl⟩, rfl⟩
    · rintro e a' w' ⟨rfl, ⟨u14, u15, u16, u17, u18, u19, u20, u21, rfl⟩, rfl⟩
      by_cases hlo : (d : Int) < 128
      · gi_wp2
        refine ⟨(((KeepsOthers.setCell _ _ _).trans (KeepsOthers.setCell _ _ _)).trans (KeepsOthers.setCell _ _ _)).trans (KeepsOthers.drew _), ⟨rfl, pre, x, rfl, hp, by rw [HK.out, HD.out]; omega, ?_, ?_, ?_⟩, ?_⟩
        · rw [HO.out]; exact (((b1.set_ 0 _).far (by simp) _).far (by simp; omega) _).drew
        · rw [HK.out]; exact (((b2.far (by simp) _).set_ 0 _).far (by simp) _).drew
        · rw [HK.out, HD.out]; exact (((b3.far (by simp; omega) _).far (by simp) _).set_ 0 _).drew
        · exact (((hB1.setCell (p := ⟨w.heap.size, 0, none⟩) (Nat.le_refl _) _).setCell (p := ⟨w.heap.size + 1, 0, none⟩) (by simp) _).setCell (p := ⟨w.heap.size + 1 + 1, 0, none⟩) (by simp; omega) _).drew
      · gi_wp2
        refine ⟨(KeepsOthers.setCell _ _ _).trans (KeepsOthers.drew _), keeps2_drew (keeps2_setV _ _ _ (by simp; omega) (by simp; omega)), ⟨⟨⟨?_, ?_⟩, ?_⟩, ?_⟩, ?_⟩
        · rw [HO.out]; exact (b1.set_ 0 _).drew
        · exact (b2.far (by simp) _).drew
        · exact (b3.far (by simp; omega) _).drew
        · intro y hy
          rcases List.mem_append.1 hy with hy | hy
          · exact hp y hy
          · rw [List.mem_singleton.1 hy, HK.out, HD.out]; omega
        · exact (hB1.setCell (p := ⟨w.heap.size, 0, none⟩) (Nat.le_refl _) _).drew
  case done =>
    rintro D ys W hD rfl ⟨⟨⟨⟨b1, b2⟩, b3⟩, hp⟩, hB1⟩ hK
    have hD0 : w.heap.size ≤ D := by omega
    have c1 := b1.cell 0; have c2 := b2.cell 0; have c3 := b3.cell 0
    dsimp at c1 c2 c3
    have bB2 := bB.under hB1
    have dB := bB2.cell 0; have dB1 := bB2.cell 1; have fB1 := bB2.frozen 1
    dsimp at dB dB1
    have hS2 := hS.below (hB1.mono hn₀)
    have va := hS2.va; have vb := hS2.vb
    by_cases hlen : s.length < 10
    · have hl : (s.length : Int) < 10 := by omega
      have HP := Lib.hid (num_more (a := a) (b := b) hp hlen hB1 bB2)
      clear hp
      go_wp2
      rw [Exit.noGoto_ret]
      have hK2 := (KeepsOthers.setCell W ⟨B, 1, none⟩ (.iface 139 (.pointer (some a)))).same D _ hK rfl
      exact ⟨by simp, .inl ⟨_, _, rfl, run_takeDeferred hK2, _, results_tmp (t := 2) rfl _ _ _, (show NumPost a b B s w (.returned (.int .u64 0)) _ from HP.out.put hBlt hD0 _)⟩⟩
    · have hl : ¬ (s.length : Int) < 10 := by omega
      have HP := Lib.hid (num_long (a := a) (b := b) hp hlen hB1 bB2)
      clear hp
      go_wp2
      try rw [Exit.noGoto_ret]
      have hK2 := (KeepsOthers.setCell W ⟨B, 1, none⟩ (.iface 139 (.pointer (some b)))).same D _ hK rfl
      exact ⟨by simp, .inl ⟨_, _, rfl, run_takeDeferred hK2, _, results_tmp (t := 2) rfl _ _ _, (show NumPost a b B s w (.returned (.int .u64 0)) _ from HP.out.put hBlt hD0 _)⟩⟩
  case stop =>
    rintro D c pre W hD ⟨k, hk, rfl⟩ ⟨⟨rfl, ini, x, e1, e2, e3, b1, b2, b3⟩, hB1⟩ hK
    have hD0 : w.heap.size ≤ D := by omega
    rw [List.range_succ] at e1
    obtain ⟨rfl, e1⟩ := List.append_inj' e1 rfl
    obtain rfl : k = x := by simpa using e1
    have hk10 : k < 10 := by omega
    rw [m10_eq hk10] at e3 b2 b3
    have c1 := b1.cell 0; have c2 := b2.cell 0; have c3 := b3.cell 0
    dsimp at c1 c2 c3
    have bB2 := bB.under hB1
    have dB := bB2.cell 0; have dB1 := bB2.cell 1; have fB1 := bB2.frozen 1
    dsimp at dB dB1
    have hS2 := hS.below (hB1.mono hn₀)
    have va := hS2.va; have vb := hS2.vb
    have h0 : ((k : Int) + 1 == 0) = false := by simp; omega
    refine (wpIn_wide (n := 4)).2 ?_
    by_cases hbad : (1 < k + 1 ∧ byteAt s k = 0) ∨ (k + 1 = 10 ∧ 1 < byteAt s k)
    · have HP := Lib.hid (num_bad (a := a) (b := b) hk e2 e3 hbad hB1 bB2)
      clear e2
      generalize orAll s (List.range (k + 1)) = p at *
      generalize byteAt s k = d at *
      have hK2 := (KeepsOthers.setCell W ⟨B, 1, none⟩ (.iface 139 (.pointer (some b)))).same D _ hK rfl
      rcases hbad with ⟨h1, rfl⟩ | ⟨h1, h2⟩
      · have hk4 : (1 : Int) < (k : Int) + 1 := by omega
        go_wp2
        try rw [Exit.noGoto_ret]
        exact ⟨by simp, .inl ⟨_, _, rfl, run_takeDeferred hK2, _, results_tmp (t := 2) rfl _ _ _, (show NumPost a b B s w (.returned (.int .u64 0)) _ from HP.out.put hBlt hD0 _)⟩⟩
      · obtain rfl : k = 9 := by omega
        have hd2 : ((d : Int) == 0) = false := by simp; omega
        have hd3 : (1 : Int) < d := by omega
        go_wp2
        try rw [Exit.noGoto_ret]
        exact ⟨by simp, .inl ⟨_, _, rfl, run_takeDeferred hK2, _, results_tmp (t := 2) rfl _ _ _, (show NumPost a b B s w (.returned (.int .u64 0)) _ from HP.out.put hBlt hD0 _)⟩⟩
    · have HP := Lib.hid (num_good (a := a) (b := b) hk e2 e3 hbad hB1 bB2)
      clear e2
      have hsk : ∀ w', Blk w' B 114 #[.string ⟨s.toArray⟩, .nilIface] → Calls Tryd.prog 64 #[.pointer (some ⟨B, 0, none⟩), .int .i64 ((k : Int) + 1)] w' fun e w'' => (∃ v, e = .returned v) ∧ w'' = w'.setCell ⟨B, 0, none⟩ (.string ⟨(s.drop (k + 1)).toArray⟩) := fun w' hb => by
        have := skip_any B s .nilIface (k + 1) (by omega) w' hb
        simpa using this
      have HS := Lib.hid hsk
      clear hsk
      generalize hq : (s.drop (k + 1)) = q at *
      clear hq
      generalize orAll s (List.range (k + 1)) = p at *
      generalize byteAt s k = d at *
      have bB3 := bB2.drew
      have hK2 := (KeepsOthers.setCell W ⟨B, 0, none⟩ (.string ⟨q.toArray⟩)).same D _ hK rfl
      have hpar : (k = 0 ∧ d < 128) ∨ (0 < k ∧ k < 9 ∧ 0 < d) ∨ (k = 9 ∧ d = 1) := by omega
      rcases hpar with ⟨rfl, _⟩ | ⟨hk1, hk2, hd1⟩ | ⟨rfl, rfl⟩
      · go_wp2
        go_cut [2] from 27 to 31 (fun s2 wx => s2 = .int .u64 0 ∧ wx = (W.setCell ⟨B, 0, none⟩ (.string ⟨q.toArray⟩)).drew)
        case first =>
          refine wp_region_noPanic ?_
          go_region_with (go_at_call 64; refine (HS.out _ bB3).mono ?_; rintro e w' ⟨⟨v, rfl⟩, rfl⟩)
          all_goals (refine NoPanic.normal ?_; go_wp2_with fail; go_meet; exact ⟨rfl, rfl⟩)
        case rest =>
          obtain ⟨rfl, rfl⟩ := hcut
          go_wp2
          try rw [Exit.noGoto_ret]
          exact ⟨by simp, .inl ⟨_, _, rfl, run_takeDeferred hK2, _, results_tmp (t := 2) rfl _ _ _, (show NumPost a b B s w (.returned (.int .u64 p)) _ from (HP.out.drew).put hBlt hD0 _)⟩⟩
      · have hk3 : ((k : Int) + 1 == 10) = false := by simp; omega
        have hk4 : (1 : Int) < (k : Int) + 1 := by omega
        have hd2 : ((d : Int) == 0) = false := by simp; omega
        go_wp2
        go_cut [2] from 27 to 31 (fun s2 wx => s2 = .int .u64 0 ∧ wx = (W.setCell ⟨B, 0, none⟩ (.string ⟨q.toArray⟩)).drew)
        case first =>
          refine wp_region_noPanic ?_
          go_region_with (go_at_call 64; refine (HS.out _ bB3).mono ?_; rintro e w' ⟨⟨v, rfl⟩, rfl⟩)
          all_goals (refine NoPanic.normal ?_; go_wp2_with fail; go_meet; exact ⟨rfl, rfl⟩)
        case rest =>
          obtain ⟨rfl, rfl⟩ := hcut
          go_wp2
          try rw [Exit.noGoto_ret]
          exact ⟨by simp, .inl ⟨_, _, rfl, run_takeDeferred hK2, _, results_tmp (t := 2) rfl _ _ _, (show NumPost a b B s w (.returned (.int .u64 p)) _ from (HP.out.drew).put hBlt hD0 _)⟩⟩
      · go_wp2
        go_cut [2] from 27 to 31 (fun s2 wx => s2 = .int .u64 0 ∧ wx = (W.setCell ⟨B, 0, none⟩ (.string ⟨q.toArray⟩)).drew)
        case first =>
          refine wp_region_noPanic ?_
          go_region_with (go_at_call 64; refine (HS.out _ bB3).mono ?_; rintro e w' ⟨⟨v, rfl⟩, rfl⟩)
          all_goals (refine NoPanic.normal ?_; go_wp2_with fail; go_meet; exact ⟨rfl, rfl⟩)
        case rest =>
          obtain ⟨rfl, rfl⟩ := hcut
          go_wp2
          try rw [Exit.noGoto_ret]
          exact ⟨by simp, .inl ⟨_, _, rfl, run_takeDeferred hK2, _, results_tmp (t := 2) rfl _ _ _, (show NumPost a b B s w (.returned (.int .u64 p)) _ from (HP.out.drew).put hBlt hD0 _)⟩⟩
end Go.Proofs.YtbfchlfagdhglaaDoor
/- The document's answers: Put, Get. -/
namespace Go.Proofs.YtbfchlfagdhglaaDoor
open Go.RowKit

theorem conv_one (x : UInt8) (c : Nat) (W : World) (b : Nat) (h : W.cell? ⟨b, 0, none⟩ = some (.int .u8 (x.toNat : Int))) : (convert 42 9 (.slice (some ⟨b, 0, none⟩) 1 c)).run Tryd.prog W = .ok (.string ⟨[x].toArray⟩) W :=
  run_convert_bytes_back W _ _ _ ⟨b, 0, none⟩ c [x] Tryd.underlying42 Tryd.underlying5 Tryd.underlying9 (fun j hj => by
    obtain rfl : j = 0 := by simpa using hj
    exact h)

set_option maxRecDepth 100000 in
set_option maxHeartbeats 1000000 in
theorem ref_put_any (n : Nat) : n < 18446744073709551616 → ∀ w : World, Calls Tryd.prog 19 #[.int .u64 n] w fun e w' => e = .returned (.string ⟨(vput n).toArray⟩) ∧ Below w.heap.size w w' := by
  induction n using Nat.strongRecOn with
  | _ n ih =>
    intro hn w
    by_cases h : n < 128
    · have H := Lib.hid (vput_lo h)
      have h1 : (n : Int) < 128 := by omega
      have hx := ofNat_toNat n (by omega)
      generalize UInt8.ofNat n = x at *
      have hcv := conv_one x 1
      rw [hx] at hcv
      have h2 : (n : Int) % 256 = n := by omega
      clear ih hx
      go_enter Tryd.func19, Tryd.ntmps19
      go_wp2
      go_ret
      exact ⟨ret_bs (by rw [H.out]), (Below.refl _ _).alloc (Nat.le_refl _) _⟩
    · have H := Lib.hid (vput_hi h)
      have h1 : ¬ (n : Int) < 128 := by omega
      have hl := length_put (n := n / 128) (by omega)
      have IH : Hid (∀ w : World, Calls Tryd.prog 19 #[.int .u64 ((n : Int) / 128)] w fun e w' => e = .returned (.string ⟨(vput (n / 128)).toArray⟩) ∧ Below w.heap.size w w') := Lib.hid (by simpa using ih (n / 128) (by omega) (by omega))
      have hx := ofNat_toNat (128 + n % 128) (by omega)
      generalize UInt8.ofNat (128 + n % 128) = x at *
      generalize vput (n / 128) = q at *
      have hadd : ∀ W : World, (Op.stringOp .add ⟨#[x]⟩ ⟨q.toArray⟩).run Tryd.prog W = .ok (.string ⟨(x :: q).toArray⟩) W := fun W => by
        rw [run_string_add_sum W _ _ (by simp [ByteArray.size]; omega)]
        rw [show (ByteArray.mk #[x]) = ⟨[x].toArray⟩ from rfl, app_mk]
        rfl
      have hcv := conv_one x 1
      rw [hx] at hcv
      have e1 : IntKind.u64.wrap (128 + (n : Int) % 128) = 128 + (n : Int) % 128 := by rw [u64_wrap]; omega
      have e0 : (n : Int).tmod 128 = (n : Int) % 128 := Int.tmod_eq_emod_of_nonneg (by omega)
      have e2 : IntKind.u8.wrap (128 + (n : Int) % 128) = 128 + (n : Int) % 128 := by simp [IntKind.wrap, IntKind.bits, IntKind.signed]; omega
      have e4 : IntKind.u64.wrap ((n : Int) / 128) = (n : Int) / 128 := by rw [u64_wrap]; omega
      have e3 : ((128 + n % 128 : Nat) : Int) = 128 + (n : Int) % 128 := by omega
      rw [e3] at hcv
      have HX := Lib.hid hx
      clear ih hx e3
      go_enter Tryd.func19, Tryd.ntmps19
      go_wp2_with fail
      go_region_with (go_at_call 19; refine (IH.out _).mono ?_; rintro e w' ⟨rfl, hb⟩; try have hk := (hb.cell (p := ⟨w.heap.size, 0, none⟩) (by simp)).trans (World.cell?_alloc_new _ _ _ _))
      all_goals
        go_wp2
        go_ret
        refine ⟨ret_bs (by rw [H.out]), ?_⟩
        first
          | exact (((Below.refl _ _).drew).alloc (Nat.le_refl _) _).trans (hb.mono (by simp))
          | exact (((Below.refl _ _).drew).trans hb).alloc hb.size _
end Go.Proofs.YtbfchlfagdhglaaDoor
