/- varint.sevens, the digits of a number; (*left).ahead, the next bytes: what they hand to a loop's body, for every body. -/
import Derived.RangeFuncNested
import Derived.RangeFuncBound
import Derived.RangeFuncCalls
import Derived.RangeFuncLeaves
import Derived.RangeFuncBox
import Derived.Shelf.Abstract
import Derived.OwnWalkIn
import Derived.TacticsInMore
import Derived.LoopNIn
import Derived.LoopIn
import Derived.Test.YthoegicchjadaaaDoorVLeaf
namespace Go.Proofs.YthoegicchjadaaaDoor
open Go.RowKit
attribute [local go_sem] Oper.semAt_some

theorem keeps_of_below {a w : World} (h : Below a.heap.size a w) : KeepsOthers a w := ⟨h.size, fun k _ hk _ => (h.block k (Array.getElem?_eq_some_iff.1 hk).1).trans hk⟩

/-- What an iterator leaves; hidden from the walk. -/
def SeqPost {α : Type} (S Sp : List α → Prop) (J Jx : List α → World → Prop) (e : Ending) (W' : World) : Prop := (∃ v, e = .returned v) ∧ ((∃ ys, S ys ∧ J ys W') ∨ (∃ pre, Sp pre ∧ Jx pre W'))
theorem SeqPost.all {α : Type} {S Sp : List α → Prop} {J Jx : List α → World → Prop} {v : Value} {W' : World} {ys : List α} (h : S ys) (hj : J ys W') : SeqPost S Sp J Jx (.returned v) W' := ⟨⟨_, rfl⟩, .inl ⟨ys, h, hj⟩⟩
theorem SeqPost.stop {α : Type} {S Sp : List α → Prop} {J Jx : List α → World → Prop} {v : Value} {W' : World} {ys : List α} (h : Sp ys) (hj : Jx ys W') : SeqPost S Sp J Jx (.returned v) W' := ⟨⟨_, rfl⟩, .inr ⟨ys, h, hj⟩⟩

/-- The digits of n, seven by seven, and which ones are the last. -/
def sevs (n : Nat) : List (UInt8 × Bool) :=
  if n < 128 then [(UInt8.ofNat n, true)] else (UInt8.ofNat (n % 128), false) :: sevs (n / 128)
termination_by n
decreasing_by omega
theorem sevs_lo {n : Nat} (h : n < 128) : sevs n = [(UInt8.ofNat n, true)] := by rw [sevs, if_pos h]
theorem sevs_hi {n : Nat} (h : ¬ n < 128) : sevs n = (UInt8.ofNat (n % 128), false) :: sevs (n / 128) := by rw [sevs, if_neg h]
/-- Shifting n by k sevens. -/
def shr7 (n : Nat) : Nat → Nat
  | 0 => n
  | k + 1 => shr7 n k / 128

theorem and127 (r : Nat) : bits .and .u64 (r : Int) 127 = ((UInt8.ofNat (r % 128)).toNat : Int) := by
  rw [ofNat_toNat _ (by omega)]
  show IntKind.u64.wrap ((BitVec.ofInt 64 r &&& BitVec.ofInt 64 127).toNat : Int) = _
  rw [BitVec.toNat_and, BitVec.toNat_ofInt, BitVec.toNat_ofInt, u64_wrap, show (127 % ((2 ^ 64 : Nat) : Int)).toNat = 2 ^ 7 - 1 from rfl, Nat.and_two_pow_sub_one_eq_mod]
  omega

theorem wrap8 (r : Nat) (h : r < 256) : (r : Int) % 256 = ((UInt8.ofNat r).toNat : Int) := by
  rw [ofNat_toNat r h]
  omega
theorem seven_lt {r k : Nat} (h : r * 128 ^ k < 18446744073709551616) : r < 18446744073709551616 := Nat.lt_of_le_of_lt (Nat.le_mul_of_pos_right r (Nat.pow_pos (by decide))) h
theorem seven_k {r k : Nat} (h : r * 128 ^ k < 18446744073709551616) (hr : 128 ≤ r) : k + 1 ≤ 9 := by
  rcases Nat.lt_or_ge k 9 with h9 | h9
  · omega
  · have h1 : 128 * 128 ^ 9 ≤ r * 128 ^ k := Nat.mul_le_mul hr (Nat.pow_le_pow_right (by decide) h9)
    omega
theorem seven_next {r k : Nat} (h : r * 128 ^ k < 18446744073709551616) : (r / 128) * 128 ^ (k + 1) < 18446744073709551616 := by
  rw [Nat.pow_succ, Nat.mul_comm (128 ^ k), ← Nat.mul_assoc]
  exact Nat.lt_of_le_of_lt (Nat.mul_le_mul_right _ (Nat.div_mul_le_self r 128)) h

set_option maxHeartbeats 1000000 in
theorem sevens_any (n : Int) (w : World) :
    Calls Tryd.prog 86 #[.int .u64 n] w fun e w' => e = .returned (.func (.func 91) #[] #[.pointer (some ⟨w.heap.size, 0, none⟩)]) ∧ w' = w.alloc (.cells #[.int .u64 n] 53) := by
  go_enter Tryd.func86, Tryd.ntmps86
  go_wp2
  go_ret
  exact ⟨rfl, rfl⟩

set_option maxRecDepth 100000 in
set_option maxHeartbeats 2000000 in
theorem sevens1_in (n : Nat) (hn : 1 ≤ n) (l Bn n₀ m : Nat) (hm : m < 18446744073709551616) (J Jx : List (UInt8 × Bool) → World → Prop)
    (hY : ∀ pre x W, J pre W → pre.length < 10 → YieldAt Fence.wide (n - 1) Tryd.prog l #[.int .u8 (x.1.toNat : Int), .bool x.2] W fun e W' =>
      (e = .returned (.bool true) ∧ J (pre ++ [x]) W' ∧ Below n₀ W W') ∨ (e = .returned (.bool false) ∧ Jx (pre ++ [x]) W'))
    (W : World) (hc : W.cell? ⟨Bn, 0, none⟩ = some (.int .u64 m)) (h0 : J [] W) :
    CallsIn Fence.wide n Tryd.prog 91 #[.func (.yield l) #[] #[], .pointer (some ⟨Bn, 0, none⟩)] W fun e W' => (∃ v, e = .returned v) ∧
      ((∃ ys, ys = sevs m ∧ J ys W') ∨ (∃ pre, pre <+: sevs m ∧ Jx pre W')) := by
  refine callsIn_of_wp Tryd.func91 rfl trivial ?_ rfl
  simp only [Tryd.ntmps91, List.size_toArray, List.length_cons, List.length_nil, Nat.reduceAdd, Nat.reduceSub, Array.replicate_succ, Array.replicate_zero, List.push_toArray, List.append_toArray, List.nil_append, List.cons_append]
  gi_wp2
  gi_loopw [3] (fun i wr => ∃ (pre : List (UInt8 × Bool)) (r k : Nat), i = .int .u64 r ∧ Hid (sevs m = pre ++ sevs r) ∧ J pre wr ∧ pre.length = k ∧ k ≤ 9 ∧ Hid (r * 128 ^ k < 18446744073709551616))
    (fun i _ => (intOf i).toNat)
  case atStart => exact ⟨[], m, 0, rfl, Lib.hid rfl, h0, rfl, by omega, Lib.hid (by simpa using hm)⟩
  case round =>
    obtain ⟨pre, r, k, rfl, HS, hJs, hpl, hk9, HR⟩ := hrel
    have hr64 : r < 18446744073709551616 := seven_lt HR.out
    by_cases hlt : r < 128
    · have h1 : ¬ (127 : Int) < r := by omega
      have HL : Hid (sevs m = pre ++ [(UInt8.ofNat r, true)]) := Lib.hid (by rw [HS.out, sevs_lo hlt])
      have hd0 := ofNat_toNat r (by omega)
      generalize UInt8.ofNat r = d at *
      have hd : d.toNat = r := hd0
      obtain ⟨fn, tmps, assign, body, hy, hR⟩ := hY pre (d, true) wr hJs (by omega)
      dsimp only at hy
      rw [hd] at hy
      clear hd0 hd
      clear hpl
      gi_wp2
      refine hR.mono ?_
      rintro e W3 (⟨rfl, hJ3, _⟩ | ⟨rfl, hJx3⟩)
      · gi_wp2
        go_end0
        exact ⟨⟨_, rfl⟩, .inl ⟨_, HL.out.symm, hJ3⟩⟩
      · gi_wp2
        go_end0
        exact ⟨⟨_, rfl⟩, .inr ⟨_, by rw [HL.out]; exact List.prefix_refl _, hJx3⟩⟩
    · have h1 : (127 : Int) < r := by omega
      have HL : Hid (sevs m = pre ++ [(UInt8.ofNat (r % 128), false)] ++ sevs (r / 128)) := Lib.hid (by rw [HS.out, sevs_hi hlt]; simp)
      have e7 := and127 r
      generalize UInt8.ofNat (r % 128) = d at *
      have e8 : (d.toNat : Int) % 256 = d.toNat := by have := d.toNat_lt; omega
      obtain ⟨fn, tmps, assign, body, hy, hR⟩ := hY pre (d, false) wr hJs (by omega)
      dsimp only at hy
      have hk8 : k + 1 ≤ 9 := seven_k HR.out (by omega)
      have HR' : Hid ((r / 128) * 128 ^ (k + 1) < 18446744073709551616) := Lib.hid (seven_next HR.out)
      have HP := Lib.hid hpl
      clear hpl
      gi_wp2
      refine hR.mono ?_
      rintro e W3 (⟨rfl, hJ3, _⟩ | ⟨rfl, hJx3⟩)
      · gi_wp2
        go_roundw
        case rel => exact ⟨_, r / 128, k + 1, by simp, HL, hJ3, by simp [HP.out], hk8, HR'⟩
        case measure => simp [intOf]; omega
      · gi_wp2
        refine bodyPost_ret (results_none rfl _ _ _) rfl ?_
        exact ⟨⟨_, rfl⟩, .inr ⟨_, by rw [HL.out]; exact List.prefix_append _ _, hJx3⟩⟩

/-- The number's digits, for a loop's body that keeps what lay below n₀. -/
theorem sevens_stops (n : Nat) (hn : 1 ≤ n) (Bn n₀ m : Nat) (hm : m < 18446744073709551616) (w : World) (hBn : Bn < w.heap.size) (hc : w.cell? ⟨Bn, 0, none⟩ = some (.int .u64 m)) :
    SeqStopsK Fence.wide n Tryd.prog 91 #[.pointer (some ⟨Bn, 0, none⟩)] (fun x : UInt8 × Bool => #[.int .u8 (x.1.toNat : Int), .bool x.2]) (Below n₀) (fun ys => ys = sevs m) (fun pre => pre <+: sevs m) 10 w := fun l J Jx W hW _ _ hY h0 =>
  sevens1_in n hn l Bn n₀ m hm J Jx hY W ((hW.cell (p := ⟨Bn, 0, none⟩) hBn).trans hc) h0
/-- Two blocks lie as they lay. -/
def Keeps2 (Ba Bb : Nat) (W W' : World) : Prop := W'.heap[Ba]? = W.heap[Ba]? ∧ W'.heap[Bb]? = W.heap[Bb]?
theorem keeps2_t {Ba Bb : Nat} {A B C : World} (h : Keeps2 Ba Bb A B) (k : Keeps2 Ba Bb B C) : Keeps2 Ba Bb A C := ⟨k.1.trans h.1, k.2.trans h.2⟩
theorem keeps2_b {Ba Bb B : Nat} (ha : Ba < B) (hb : Bb < B) (W : World) (l : Nat) (o o' : Obj) (hl : B ≤ l) (_ : W.heap[l]? = some o) (_ : o.isCells = false) (_ : o.isWalk = false) : Keeps2 Ba Bb W (W.putObj l o') :=
  ⟨World.putObj_heap_other (by omega), World.putObj_heap_other (by omega)⟩
theorem keeps2_set {Ba Bb : Nat} (W : World) (p : Addr) (v : Value) (ha : Ba ≠ p.block) (hb : Bb ≠ p.block) : Keeps2 Ba Bb W (W.setCell p v) :=
  ⟨Below.heap_setCell W p v Ba ha, Below.heap_setCell W p v Bb hb⟩
theorem keeps2_drew {Ba Bb : Nat} {A B : World} (h : Keeps2 Ba Bb A B) : Keeps2 Ba Bb A B.drew := h

/-- A place of the first ten, and the byte there. -/
def m10 (x : Nat) : Nat := x % 10
def byteAt (l : List UInt8) (j : Nat) : Nat := (l.getD j 0).toNat
theorem m10_lt (x : Nat) : m10 x < 10 := Nat.mod_lt _ (by decide)
theorem m10_eq {x : Nat} (h : x < 10) : m10 x = x := Nat.mod_eq_of_lt h
theorem byteAt_lt (l : List UInt8) (j : Nat) : byteAt l j < 256 := UInt8.toNat_lt _

theorem byte_get (s : List UInt8) (k : Nat) (h : k < s.length) : ((⟨s.toArray⟩ : ByteArray)[k]'(show k < s.toArray.size by simpa using h)).toNat = byteAt s k := by
  unfold byteAt
  rw [List.getD_eq_getElem?_getD, List.getElem?_eq_getElem h]
  rfl
theorem ahead_any (p : Option Addr) (w : World) :
    Calls Tryd.prog 95 #[.pointer p] w fun e w' => e = .returned (.func (.func 98) #[] #[.pointer (some ⟨w.heap.size, 0, none⟩)]) ∧ w' = w.alloc (.cells #[.pointer p] 158) := by
  go_enter Tryd.func95, Tryd.ntmps95
  go_wp2
  go_ret
  exact ⟨rfl, rfl⟩

set_option maxRecDepth 100000 in
set_option maxHeartbeats 2000000 in
theorem ahead1_in (n : Nat) (hn : 1 ≤ n) (l Bl B : Nat) (s : List UInt8) (er : Value) (hs : s.length ≤ 9223372036854775807) (J Jx : List Nat → World → Prop)
    (hY : ∀ pre x W, J pre W → pre.length < 10 → YieldAt Fence.wide (n - 1) Tryd.prog l #[.int .i64 (m10 x : Nat), .int .u8 (byteAt s (m10 x) : Nat)] W fun e W' =>
      (e = .returned (.bool true) ∧ J (pre ++ [x]) W' ∧ Keeps2 Bl B W W') ∨ (e = .returned (.bool false) ∧ Jx (pre ++ [x]) W'))
    (W : World) (bl : Blk W Bl 158 #[.pointer (some ⟨B, 0, none⟩)]) (bB : Blk W B 148 #[.string ⟨s.toArray⟩, er]) (h0 : J [] W) :
    CallsIn Fence.wide n Tryd.prog 98 #[.func (.yield l) #[] #[], .pointer (some ⟨Bl, 0, none⟩)] W (SeqPost (fun ys => ys = List.range (min s.length 10)) (fun pre => ∃ k, k < min s.length 10 ∧ pre = List.range (k + 1)) J Jx) := by
  have c0 := bl.cell 0; have d0 := bB.cell 0
  dsimp at c0 d0
  refine callsIn_of_wp Tryd.func98 rfl trivial ?_ rfl
  simp only [Tryd.ntmps98, List.size_toArray, List.length_cons, List.length_nil, Nat.reduceAdd, Nat.reduceSub, Array.replicate_succ, Array.replicate_zero, List.push_toArray, List.append_toArray, List.nil_append, List.cons_append]
  gi_wp2
  all_goals
    have hN : min s.length 10 ≤ 10 := Nat.min_le_right _ _
    gi_loopw [10] (fun i wr => ∃ k : Nat, k ≤ min s.length 10 ∧ i = .int .i64 k ∧ J (List.range k) wr ∧ Blk wr Bl 158 #[.pointer (some ⟨B, 0, none⟩)] ∧ Blk wr B 148 #[.string ⟨s.toArray⟩, er])
      (fun i _ => 10 - (intOf i).toNat)
    case atStart => exact ⟨0, Nat.zero_le _, rfl, h0, bl, bB⟩
    case round =>
      obtain ⟨k, hk, rfl, hJs, bl1, bB1⟩ := hrel
      by_cases hlt : k < min s.length 10
      · have hk1 : k < s.length := Nat.lt_of_lt_of_le hlt (Nat.min_le_left _ _)
        have hk2 : k < 10 := Nat.lt_of_lt_of_le hlt (Nat.min_le_right _ _)
        have c1 := bl1.cell 0; have d1 := bB1.cell 0
        dsimp at c1 d1
        obtain ⟨fn, tmps, assign, body, hy, hR⟩ := hY (List.range k) k wr hJs (by simp; omega)
        rw [m10_eq hk2] at hy
        have hb := byte_get s k hk1
        have HR : Hid (List.range k ++ [k] = List.range (k + 1)) := Lib.hid List.range_succ.symm
        gi_wp2
        refine hR.mono ?_
        rintro e W3 (⟨rfl, hJ3, hk3⟩ | ⟨rfl, hJx3⟩)
        · gi_wp2
          go_roundw
          case rel => exact ⟨k + 1, by omega, by simp, by rw [← HR.out]; exact hJ3, hk3.1.trans bl1, hk3.2.trans bB1⟩
          case measure => simp [intOf]; omega
        · gi_wp2
          refine bodyPost_ret (results_none rfl _ _ _) rfl ?_
          exact .stop ⟨k, hlt, HR.out⟩ hJx3
      · have HK : Hid (k = min s.length 10) := Lib.hid (by omega)
        have hge : ¬ (k : Int) < 10 ∨ ¬ (k : Int) < s.length := by omega
        rcases hge with hge | hge
        all_goals
          gi_wp2
          all_goals
            go_end0
            exact .all (by rw [← HK.out]) hJs

/-- The next bytes, for a loop's body that keeps the reader and the box that it was boxed in. -/
theorem ahead_stops (n : Nat) (hn : 1 ≤ n) (Bl B : Nat) (s : List UInt8) (er : Value) (hs : s.length ≤ 9223372036854775807) (w : World) (bl : Blk w Bl 158 #[.pointer (some ⟨B, 0, none⟩)]) (bB : Blk w B 148 #[.string ⟨s.toArray⟩, er]) :
    SeqStopsK Fence.wide n Tryd.prog 98 #[.pointer (some ⟨Bl, 0, none⟩)] (fun x : Nat => #[.int .i64 (m10 x : Nat), .int .u8 (byteAt s (m10 x) : Nat)]) (Keeps2 Bl B) (fun ys => ys = List.range (min s.length 10)) (fun pre => ∃ k, k < min s.length 10 ∧ pre = List.range (k + 1)) 10 w := fun l J Jx W hW _ _ hY h0 =>
  ahead1_in n hn l Bl B s er hs J Jx hY W (bl.under hW) (bB.under hW) h0
end Go.Proofs.YthoegicchjadaaaDoor
