/- (*digits).each: the digits of a text's bytes, for every loop's body that keeps the reader; (*digits).skip. -/
import Derived.Test.YtmimepjokkcbeaaDoorLNext
import Derived.Test.YtmimepjokkcbeaaDoorVIter
import Derived.Test.YtmimepjokkcbeaaDoorPBytes
namespace Go.Proofs.YtmimepjokkcbeaaDoor
open Go.RowKit
attribute [local go_sem] Oper.semAt_some

theorem and_one8 (q : Nat) : bits .and .u8 (q : Int) 1 = ((q % 2 : Nat) : Int) := by
  show IntKind.u8.wrap ((BitVec.ofInt 8 q &&& BitVec.ofInt 8 1).toNat : Int) = _
  rw [BitVec.toNat_and, BitVec.toNat_ofInt, BitVec.toNat_ofInt, show (1 % ((2 ^ 8 : Nat) : Int)).toNat = 1 from rfl, Nat.and_one_is_mod]
  simp [IntKind.wrap, IntKind.bits, IntKind.signed]
  omega

theorem each_any (p : Option Addr) (w : World) :
    Calls Tryd.prog 42 #[.pointer p] w fun e w' => e = .returned (.func (.func 46) #[] #[.pointer (some ⟨w.heap.size, 0, none⟩)]) ∧ w' = w.alloc (.cells #[.pointer p] 78) := by
  go_enter Tryd.func42, Tryd.ntmps42
  go_wp2
  go_ret
  exact ⟨rfl, rfl⟩

/-- What comes next: the next place, and the digit there. -/
def Next8 (s : List UInt8) (pre : List Nat) (x : Nat) : Prop := x = pre.length ∧ x < 8 * s.length

set_option maxRecDepth 100000 in
set_option maxHeartbeats 2000000 in
theorem each1_in (n : Nat) (hn : 1 ≤ n) (l Bl B : Nat) (s : List UInt8) (v1 v2 : Value) (hs : s.length ≤ 1000000) (J Jx : List Nat → World → Prop)
    (hY : ∀ pre x W, J pre W → Next8 s pre x → YieldAt Fence.wide (n - 1) Tryd.prog l #[.int .i64 (x : Nat), .int .i64 (tgt s x : Nat)] W fun e W' =>
      (e = .returned (.bool true) ∧ J (pre ++ [x]) W' ∧ Keeps2 Bl B W W') ∨ (e = .returned (.bool false) ∧ Jx (pre ++ [x]) W'))
    (W : World) (bl : Blk W Bl 78 #[.pointer (some ⟨B, 0, none⟩)]) (bB : Blk W B 50 #[.string ⟨s.toArray⟩, v1, v2]) (h0 : J [] W) :
    CallsIn Fence.wide n Tryd.prog 46 #[.func (.yield l) #[] #[], .pointer (some ⟨Bl, 0, none⟩)] W (SeqPost (fun ys => ys = List.range (8 * s.length)) (fun pre => ∃ k, k < 8 * s.length ∧ pre = List.range (k + 1)) J Jx) := by
  have c0 := bl.cell 0; have d0 := bB.cell 0
  dsimp at c0 d0
  refine callsIn_of_wp Tryd.func46 rfl trivial ?_ rfl
  simp only [Tryd.ntmps46, List.size_toArray, List.length_cons, List.length_nil, Nat.reduceAdd, Nat.reduceSub, Array.replicate_succ, Array.replicate_zero, List.push_toArray, List.append_toArray, List.nil_append, List.cons_append]
  gi_wp2
  gi_loopw [11] (fun i wr => ∃ k : Nat, k ≤ 8 * s.length ∧ i = .int .i64 k ∧ J (List.range k) wr ∧ Blk wr Bl 78 #[.pointer (some ⟨B, 0, none⟩)] ∧ Blk wr B 50 #[.string ⟨s.toArray⟩, v1, v2])
    (fun i _ => 8 * s.length - (intOf i).toNat)
  case atStart => exact ⟨0, Nat.zero_le _, rfl, h0, bl, bB⟩
  case round =>
    obtain ⟨k, hk, rfl, hJs, bl1, bB1⟩ := hrel
    by_cases hlt : k < 8 * s.length
    · have c1 := bl1.cell 0; have d1 := bB1.cell 0
      dsimp at c1 d1
      obtain ⟨fn, tmps, assign, body, hy, hR⟩ := hY (List.range k) k wr hJs ⟨by simp, hlt⟩
      have hlt' : (k : Int) < 8 * s.length := by omega
      have e8 : (k : Int).tmod 8 = (k : Int) % 8 := Int.tmod_eq_emod_of_nonneg (by omega)
      have e9 : (k : Int).tdiv 8 = (k : Int) / 8 := Int.tdiv_eq_ediv_of_nonneg (by omega)
      have hT : tgt s k = byteAt s (k / 8) / 2 ^ (7 - k % 8) % 2 := rfl
      obtain ⟨r, hr⟩ : ∃ r, r = k % 8 := ⟨_, rfl⟩
      have hr' : (k : Int) % 8 = r := by omega
      obtain ⟨c, hc⟩ : ∃ c, c = k / 8 := ⟨_, rfl⟩
      have hc' : (k : Int) / 8 = c := by omega
      have hcl : c < s.length := by omega
      have hb := byte_get s c hcl
      have hbl := byteAt_lt s c
      rw [← hr, ← hc] at hT
      generalize byteAt s c = b at *
      have hsr := shr_at b (7 - r)
      have hql := Nat.div_le_self b (2 ^ (7 - r))
      generalize b / 2 ^ (7 - r) = q at *
      have hand := and_one8 q
      generalize tgt s k = d at *
      rw [← hT] at hand
      have hd2 : d < 2 := by omega
      have hr8 : r ≤ 7 := by omega
      have HR : Hid (List.range k ++ [k] = List.range (k + 1)) := Lib.hid List.range_succ.symm
      clear hT hc hr
      gi_wp2
      refine hR.mono ?_
      rintro e W3 (⟨rfl, hJ3, hk3⟩ | ⟨rfl, hJx3⟩)
      · gi_wp2
        go_roundw
        case rel => exact ⟨k + 1, by omega, by simp, by rw [← HR.out]; exact hJ3, hk3.1.trans bl1, hk3.2.trans bB1⟩
        case measure => simp [intOf]; omega
      · gi_wp2
        refine bodyPost_ret (results_none rfl _ _ _) rfl ?_
        exact .stop ⟨k, hlt, HR.out⟩ hJx3
    · have HK : Hid (k = 8 * s.length) := Lib.hid (by omega)
      have hge : ¬ (k : Int) < 8 * s.length := by omega
      gi_wp2
      all_goals
        go_end0
        exact .all (by rw [← HK.out]) hJs

/-- The digits, for a loop's body that keeps the reader and the box that it was boxed in. -/
theorem each_seq (n : Nat) (hn : 1 ≤ n) (Bl B : Nat) (s : List UInt8) (v1 v2 : Value) (hs : s.length ≤ 1000000) (w : World) (bl : Blk w Bl 78 #[.pointer (some ⟨B, 0, none⟩)]) (bB : Blk w B 50 #[.string ⟨s.toArray⟩, v1, v2]) :
    SeqN Fence.wide n Tryd.prog 46 #[.pointer (some ⟨Bl, 0, none⟩)] (fun x : Nat => #[.int .i64 (x : Nat), .int .i64 (tgt s x : Nat)]) (Next8 s) (Keeps2 Bl B) (fun ys => ys = List.range (8 * s.length)) (fun pre => ∃ k, k < 8 * s.length ∧ pre = List.range (k + 1)) w := fun l J Jx W hW hY h0 =>
  each1_in n hn l Bl B s v1 v2 hs J Jx hY W (bl.under hW) (bB.under hW) h0

set_option maxRecDepth 100000 in
theorem pskip_any (B : Nat) (s : List UInt8) (v1 v2 : Value) (k : Nat) (hk : k ≤ s.length) (hs : s.length ≤ 1000000) (w : World) (bB : Blk w B 50 #[.string ⟨s.toArray⟩, v1, v2]) :
    Calls Tryd.prog 36 #[.pointer (some ⟨B, 0, none⟩), .int .i64 k] w fun e w' => (∃ v, e = .returned v) ∧ w' = w.setCell ⟨B, 0, none⟩ (.string ⟨(s.drop k).toArray⟩) := by
  have c0 := bB.cell 0; have f0 := bB.frozen 0
  dsimp at c0
  have hk' : (k : Int) ≤ s.length := by omega
  have H := Lib.hid ((ext_mk s k s.length).trans (mk_str (by rw [List.take_length])))
  have hext := H.out
  clear bB
  go_enter Tryd.func36, Tryd.ntmps36
  go_wp2
  go_end0
  exact ⟨⟨_, rfl⟩, rfl⟩
end Go.Proofs.YtmimepjokkcbeaaDoor
