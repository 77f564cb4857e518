/- wide.Compare: the halves gone through, up to the first that differ. -/
import Derived.Test.YtalhaceclfeohaaWIter
import Derived.Test.YtalhaceclfeohaaWSum
import Derived.Stop.RegionWithIn
namespace Go.Proofs.Ytalhaceclfeohaa
open Go.RowKit
attribute [local go_sem] Oper.semAt_some

theorem xor_top (a : Nat) (ha : a < 18446744073709551616) : a ^^^ 9223372036854775808 = (9223372036854775808 + a) % 18446744073709551616 := by
  rw [show (9223372036854775808 : Nat) = 2 ^ 63 from rfl, show (18446744073709551616 : Nat) = 2 ^ 64 from rfl] at *
  apply Nat.eq_of_testBit_eq
  intro i
  rw [Nat.testBit_xor, Nat.testBit_two_pow, Nat.testBit_mod_two_pow]
  by_cases h1 : i < 63
  · rw [Nat.testBit_two_pow_add_gt h1, decide_eq_false (by omega), decide_eq_true (show i < 64 by omega)]; simp
  · by_cases h2 : i = 63
    · subst h2
      rw [Nat.testBit_two_pow_add_eq, decide_eq_true rfl, decide_eq_true (show 63 < 64 by omega)]; simp
    · rw [decide_eq_false (by omega), decide_eq_false (show ¬ i < 64 by omega), Nat.testBit_lt_two_pow (Nat.lt_of_lt_of_le ha (Nat.pow_le_pow_right (by decide) (by omega)))]; simp
theorem xor_u64 (n : Int) (h1 : -9223372036854775808 ≤ n) (h2 : n ≤ 9223372036854775807) : bits .xor .u64 (IntKind.u64.wrap n) 9223372036854775808 = n + 9223372036854775808 := by
  show IntKind.u64.wrap ((BitVec.ofInt 64 (IntKind.u64.wrap n) ^^^ BitVec.ofInt 64 9223372036854775808).toNat : Int) = _
  rw [BitVec.toNat_xor, BitVec.toNat_ofInt, BitVec.toNat_ofInt, u64_wrap, u64_wrap, show (9223372036854775808 % ((2 ^ 64 : Nat) : Int)).toNat = 9223372036854775808 from rfl, xor_top _ (by omega)]
  omega

set_option maxHeartbeats 400000 in
theorem above_any (n : Int) (h1 : -9223372036854775808 ≤ n) (h2 : n ≤ 9223372036854775807) (w : World) :
    Calls Try.prog 35 #[.int .i64 n] w fun e w' => e = .returned (.int .u64 (n + 9223372036854775808)) ∧ w = w' := by
  have H := Lib.hid (xor_u64 n h1 h2)
  go_enter Try.func35, Try.ntmps35
  go_wp2
  go_ret
  exact ⟨by rw [← H.out]; rfl, rfl⟩

theorem halves_any (y z : Int) (w : World) : Calls Try.prog 31 #[(.agg #[.int .i64 (wHi (y)), .int .u64 (wLo (y))]), (.agg #[.int .i64 (wHi (z)), .int .u64 (wLo (z))])] w fun e w' => e = .returned (.func (.func 34) #[] #[.pointer (some ⟨w.heap.size, 0, none⟩), .pointer (some ⟨w.heap.size + 1, 0, none⟩)]) ∧
    w' = (w.alloc (.cells #[.int .i64 (wHi y), .int .u64 (wLo y)] 24)).alloc (.cells #[.int .i64 (wHi z), .int .u64 (wLo z)] 24) := by
  go_enter Try.func31, Try.ntmps31
  go_wp2
  go_ret
  exact ⟨rfl, rfl⟩

/-- Two blocks lie as they lay. -/
def Keeps2 (Ba Bb : Nat) (W W' : World) : Prop := W'.heap[Ba]? = W.heap[Ba]? ∧ W'.heap[Bb]? = W.heap[Bb]?

set_option maxRecDepth 100000 in
set_option maxHeartbeats 2000000 in
theorem halves1_in (n : Nat) (hn : 1 ≤ n) (l Ba Bb : Nat) (y z : Int) (J Jx : List (Int × Int) → World → Prop)
    (hY : ∀ pre x W, J pre W → pre.length < 2 → YieldAt Fence.wide (n - 1) Try.prog l #[.int .u64 x.1, .int .u64 x.2] W fun e W' =>
      (e = .returned (.bool true) ∧ J (pre ++ [x]) W' ∧ Keeps2 Ba Bb W W') ∨ (e = .returned (.bool false) ∧ Jx (pre ++ [x]) W'))
    (W : World) (hJd : AbidesFrom W.heap.size J) (ba : Blk W Ba 24 #[.int .i64 (wHi y), .int .u64 (wLo y)]) (bb : Blk W Bb 24 #[.int .i64 (wHi z), .int .u64 (wLo z)]) (h0 : J [] W) :
    CallsIn Fence.wide n Try.prog 34 #[.func (.yield l) #[] #[], .pointer (some ⟨Ba, 0, none⟩), .pointer (some ⟨Bb, 0, none⟩)] W fun e W' => (∃ v, e = .returned v) ∧
      ((∃ ys, ys = [(wHi y + 9223372036854775808, wHi z + 9223372036854775808), (wLo y, wLo z)] ∧ J ys W') ∨
       (∃ pre, (pre = [(wHi y + 9223372036854775808, wHi z + 9223372036854775808)] ∨ pre = [(wHi y + 9223372036854775808, wHi z + 9223372036854775808), (wLo y, wLo z)]) ∧ Jx pre W')) := by
  have ga1 := wHi_lo y; have ga2 := wHi_up y; have gb1 := wHi_lo z; have gb2 := wHi_up z
  have a0 := ba.cell 0; have a1 := ba.cell 1; have b0 := bb.cell 0; have b1 := bb.cell 1
  dsimp at a0 a1 b0 b1
  refine callsIn_of_wp Try.func34 rfl trivial ?_ rfl
  simp only [Try.ntmps34, List.size_toArray, List.length_cons, List.length_nil, Nat.reduceAdd, Nat.reduceSub, Array.replicate_succ, Array.replicate_zero, List.push_toArray, List.append_toArray, List.nil_append, List.cons_append]
  have hJ0 : J [] W.drew := hJd _ _ W.drew none h0 (grownBy_of_below (Below.refl _ _).drew none) (fun r e => by cases e)
  obtain ⟨fn, tmps, assign, body, hy, hR⟩ := hY [] (wHi y + 9223372036854775808, wHi z + 9223372036854775808) W.drew hJ0 (by simp)
  dsimp only at hy
  have hR2 := hR.mono (R' := fun e W1 => ∃ t, e = .returned (.bool t) ∧ ((t = true ∧ J [(wHi y + 9223372036854775808, wHi z + 9223372036854775808)] W1 ∧ Keeps2 Ba Bb W.drew W1) ∨ (t = false ∧ Jx [(wHi y + 9223372036854775808, wHi z + 9223372036854775808)] W1)))
    (fun e W1 hh => by
      rcases hh with ⟨rfl, h1, h2⟩ | ⟨rfl, h1⟩
      · exact ⟨true, rfl, .inl ⟨rfl, h1, h2⟩⟩
      · exact ⟨false, rfl, .inr ⟨rfl, h1⟩⟩)
  clear hR
  gi_wp2
  gi_region_with (first | ((try refine ⟨trivial, ?_⟩); gi_at_call 35; refine (callsIn_wide.2 (above_any _ (by assumption) (by assumption) _)).mono ?_; rintro e w' ⟨rfl, rfl⟩) | (refine hR2.mono ?_; rintro e W1 ⟨t, rfl, ht⟩))
  all_goals
    clear hR2 hy
    rcases ht with ⟨rfl, hJ1, hk⟩ | ⟨rfl, hx⟩
    · have ba' : Blk W1 Ba 24 #[.int .i64 (wHi y), .int .u64 (wLo y)] := hk.1.trans ba
      have bb' : Blk W1 Bb 24 #[.int .i64 (wHi z), .int .u64 (wLo z)] := hk.2.trans bb
      have a1' := ba'.cell 1; have b1' := bb'.cell 1
      dsimp at a1' b1'
      obtain ⟨fn2, tmps2, assign2, body2, hy2, hR3⟩ := hY [(wHi y + 9223372036854775808, wHi z + 9223372036854775808)] (wLo y, wLo z) W1 hJ1 (by simp)
      dsimp only at hy2
      gi_wp2
      refine hR3.mono ?_
      rintro e W3 (⟨rfl, hJ3, _⟩ | ⟨rfl, hx3⟩)
      · gi_wp2
        go_end0
        exact ⟨⟨_, rfl⟩, .inl ⟨_, rfl, hJ3⟩⟩
      · gi_wp2
        go_end0
        exact ⟨⟨_, rfl⟩, .inr ⟨_, .inr rfl, hx3⟩⟩
    · gi_wp2
      go_end0
      exact ⟨⟨_, rfl⟩, .inr ⟨_, .inl rfl, hx⟩⟩

theorem halves_stops (n : Nat) (hn : 1 ≤ n) (Ba Bb : Nat) (y z : Int) (w : World) (ba : Blk w Ba 24 #[.int .i64 (wHi y), .int .u64 (wLo y)]) (bb : Blk w Bb 24 #[.int .i64 (wHi z), .int .u64 (wLo z)]) :
    SeqStopsK Fence.wide n Try.prog 34 #[.pointer (some ⟨Ba, 0, none⟩), .pointer (some ⟨Bb, 0, none⟩)] (fun x : Int × Int => #[Value.int .u64 x.1, .int .u64 x.2]) (Keeps2 Ba Bb)
      (fun ys => ys = [(wHi y + 9223372036854775808, wHi z + 9223372036854775808), (wLo y, wLo z)])
      (fun pre => pre = [(wHi y + 9223372036854775808, wHi z + 9223372036854775808)] ∨ pre = [(wHi y + 9223372036854775808, wHi z + 9223372036854775808), (wLo y, wLo z)]) 2 w := fun l J Jx W hW hJ _ hY h0 =>
  halves1_in n hn l Ba Bb y z J Jx hY W hJ (ba.under hW) (bb.under hW) h0

/-- The sign of what the halves differ by. -/
def cmpW (y z : Int) : Int := if wHi y < wHi z then -1 else if wHi z < wHi y then 1 else if wLo y < wLo z then -1 else if wLo z < wLo y then 1 else 0
def sgn (p : Int × Int) : Int := if p.1 < p.2 then -1 else 1
theorem cmp_none {y z : Int} (h : ∀ p ∈ [(wHi y + 9223372036854775808, wHi z + 9223372036854775808), (wLo y, wLo z)], p.1 = p.2) : cmpW y z = 0 := by
  have h1 := h _ (List.mem_cons_self ..)
  have h2 := h _ (List.mem_cons_of_mem _ (List.mem_cons_self ..))
  dsimp at h1 h2
  unfold cmpW
  rw [if_neg (by omega), if_neg (by omega), if_neg (by omega), if_neg (by omega)]
theorem cmp_one {y z : Int} {ini : List (Int × Int)} {p : Int × Int} (e : [(wHi y + 9223372036854775808, wHi z + 9223372036854775808)] = ini ++ [p]) (hp : p.1 ≠ p.2) : sgn p = cmpW y z := by
  cases ini with
  | nil =>
    simp only [List.nil_append, List.cons.injEq, and_true] at e
    subst e
    dsimp at hp
    unfold sgn cmpW
    dsimp
    by_cases h : wHi y < wHi z
    · rw [if_pos (by omega), if_pos h]
    · rw [if_neg (by omega), if_neg h, if_pos (by omega)]
  | cons a t => simp at e
theorem cmp_two {y z : Int} {ini : List (Int × Int)} {p : Int × Int} (e : [(wHi y + 9223372036854775808, wHi z + 9223372036854775808), (wLo y, wLo z)] = ini ++ [p]) (hi : ∀ q ∈ ini, q.1 = q.2) (hp : p.1 ≠ p.2) : sgn p = cmpW y z := by
  match ini, e with
  | [], e => simp at e
  | [a], e =>
    simp only [List.cons_append, List.nil_append, List.cons.injEq, and_true] at e
    obtain ⟨rfl, rfl⟩ := e
    have h1 := hi _ (List.mem_cons_self ..)
    dsimp at h1 hp
    unfold sgn cmpW
    dsimp
    rw [if_neg (show ¬ wHi y < wHi z by omega), if_neg (show ¬ wHi z < wHi y by omega)]
    by_cases h : wLo y < wLo z
    · rw [if_pos h, if_pos h]
    · rw [if_neg h, if_neg h, if_pos (by omega)]
  | a :: b :: t, e => simp at e
end Go.Proofs.Ytalhaceclfeohaa
