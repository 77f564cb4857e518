/- (*reader).words: the next words, up to what is none: what it hands to a loop's body, for every body that leaves the reader alone. -/
import Derived.Test.YthoegicchjadaaaDoorLOwnT
import Derived.Test.YthoegicchjadaaaDoorDRead
import Derived.Test.YthoegicchjadaaaDoorVIter
namespace Go.Proofs.YthoegicchjadaaaDoor
open Go.RowKit
attribute [local go_sem] Oper.semAt_some

/-- What is handed on: words, and, where there is none, its error. -/
def yl : Nat → List UInt8 → List UInt8 → List (List UInt8 × Int)
  | 0, _, _ => []
  | n + 1, last, s => if wc last s = 0 then (ww last s, 0) :: yl n (ww last s) (wrr s) else [([], wc last s)]
theorem yl_ok {n : Nat} {last s : List UInt8} (h : wc last s = 0) : yl (n + 1) last s = (ww last s, 0) :: yl n (ww last s) (wrr s) := by rw [yl, if_pos h]
theorem yl_bad {n : Nat} {last s : List UInt8} (h : wc last s ≠ 0) : yl (n + 1) last s = [([], wc last s)] := by rw [yl, if_neg h]
theorem rrests_ok {n : Nat} {last s : List UInt8} (h : wc last s = 0) : rrests (n + 1) last s = rrests n (ww last s) (wrr s) := by rw [rrests, if_pos h]
/-- None tells an error. -/
def AllZ (pre : List (List UInt8 × Int)) : Prop := ∀ p ∈ pre, p.2 = 0
def fsts (pre : List (List UInt8 × Int)) : List (List UInt8) := pre.map (·.1)
theorem fsts_snoc (pre : List (List UInt8 × Int)) (x : List UInt8 × Int) : fsts (pre ++ [x]) = fsts pre ++ [x.1] := by simp [fsts]
theorem yl_length : ∀ n last s, (yl n last s).length ≤ n
  | 0, _, _ => Nat.le_refl _
  | n + 1, last, s => by
    rw [yl]
    split
    · have := yl_length n (ww last s) (wrr s); simp; omega
    · simp
theorem yl_all : ∀ n last s, AllZ (yl n last s) → rcodes n last s = 0 ∧ fsts (yl n last s) = rlist n last s
  | 0, _, _, _ => ⟨rfl, rfl⟩
  | n + 1, last, s, h => by
    by_cases e : wc last s = 0
    · rw [yl_ok e] at h ⊢
      obtain ⟨h1, h2⟩ := yl_all n (ww last s) (wrr s) (fun p hp => h p (List.mem_cons_of_mem _ hp))
      rw [rcodes, rlist, if_pos e, if_pos e]
      exact ⟨h1, by rw [← h2]; rfl⟩
    · rw [yl_bad e] at h
      exact absurd (h _ (List.mem_singleton.2 rfl)) e
theorem yl_mem : ∀ n last s q e, (q, e) ∈ yl n last s → e ≠ 0 → rcodes n last s = e
  | 0, _, _, _, _, h, _ => by simp [yl] at h
  | n + 1, last, s, q, e, h, he => by
    by_cases hw : wc last s = 0
    · rw [yl_ok hw] at h
      rcases List.mem_cons.1 h with h | h
      · cases h; exact absurd rfl he
      · rw [rcodes, if_pos hw]; exact yl_mem n _ _ q e h he
    · rw [yl_bad hw] at h
      have := List.mem_singleton.1 h
      cases this
      rw [rcodes, if_neg hw]
theorem yl_stop {n : Nat} {last s : List UInt8} {ini : List (List UInt8 × Int)} {q : List UInt8} {e : Int} (h : ini ++ [(q, e)] <+: yl n last s) (he : e ≠ 0) : rcodes n last s = e := yl_mem n last s q e (h.subset (by simp)) he

set_option maxHeartbeats 1000000 in
theorem words_any (R count : Nat) (w : World) :
    Calls Tryd.prog 75 #[.pointer (some ⟨R, 0, none⟩), .int .i64 count] w fun e w' => e = .returned (.func (.func 88) #[] #[.pointer (some ⟨w.heap.size + 1, 0, none⟩), .pointer (some ⟨w.heap.size, 0, none⟩)]) ∧ w' = (w.alloc (.cells #[.pointer (some ⟨R, 0, none⟩)] 85)).alloc (.cells #[.int .i64 count] 3) := by
  go_enter Tryd.func75, Tryd.ntmps75
  go_wp2
  go_ret
  exact ⟨rfl, rfl⟩

/-- What lies below n₀, and two blocks, lie as they lay. -/
def KeepD (n₀ Bl R : Nat) (A B : World) : Prop := Below n₀ A B ∧ B.heap[Bl]? = A.heap[Bl]? ∧ B.heap[R]? = A.heap[R]?
theorem keepD_t {n₀ Bl R : Nat} {A B C : World} (h : KeepD n₀ Bl R A B) (k : KeepD n₀ Bl R B C) : KeepD n₀ Bl R A C := ⟨h.1.trans k.1, k.2.1.trans h.2.1, k.2.2.trans h.2.2⟩
theorem below_put' {n : Nat} (W : World) (l : Nat) (o : Obj) (h : n ≤ l) : Below n W (W.putObj l o) := ⟨rfl, rfl, rfl, by simp, fun _ _ => World.putObj_heap_other (by omega)⟩
theorem keepD_b {n₀ Bl R N : Nat} (h1 : n₀ ≤ N) (h2 : Bl < N) (h3 : R < N) (W : World) (l : Nat) (o : Obj) (hl : N ≤ l) : KeepD n₀ Bl R W (W.putObj l o) :=
  ⟨below_put' W l o (by omega), World.putObj_heap_other (by omega), World.putObj_heap_other (by omega)⟩
/-- What the reader has left, if all words were right. -/
def LeftZ (count R : Nat) (s : List UInt8) (ys : List (List UInt8 × Int)) (W : World) : Prop := AllZ ys → Rd R (rrests count [] s) W

set_option maxRecDepth 100000 in
set_option maxHeartbeats 4000000 in
theorem words1_in {n₀ : Nat} (a b : Addr) (n : Nat) (hn : 1 ≤ n) (l Bc Bl R count : Nat) (hlR : Bl ≠ R) (hn₁ : n₀ ≤ R) (hc : count ≤ 1000) (s : List UInt8) (hs : s.length ≤ 9223372036854775807) (J Jx : List (List UInt8 × Int) → World → Prop) (hJ : AbidesR R 60 J)
    (hY : ∀ pre x W, J pre W → pre.length < count → YieldAt Fence.wide (n - 1) Tryd.prog l #[.string ⟨x.1.toArray⟩, flt x.2] W fun e W' =>
      (e = .returned (.bool true) ∧ J (pre ++ [x]) W' ∧ KeepD n₀ Bl R W W') ∨ (e = .returned (.bool false) ∧ Jx (pre ++ [x]) W'))
    (W : World) (hS : Sent n₀ W a b) (hn₀ : n₀ ≤ W.heap.size) (bc : Blk W Bc 3 #[.int .i64 count]) (bl : Blk W Bl 85 #[.pointer (some ⟨R, 0, none⟩)]) (bR : Rd R s W) (h0 : J [] W) :
    CallsIn Fence.wide n Tryd.prog 88 #[.func (.yield l) #[] #[], .pointer (some ⟨Bc, 0, none⟩), .pointer (some ⟨Bl, 0, none⟩)] W (SeqPost (fun ys => ys = yl count [] s) (fun pre => pre <+: yl count [] s) (fun ys W => J ys W ∧ LeftZ count R s ys W) Jx) := by
  have c0 := bc.cell 0
  dsimp at c0
  refine callsIn_of_wp Tryd.func88 rfl trivial ?_ rfl
  simp only [Tryd.ntmps88, List.size_toArray, List.length_cons, List.length_nil, Nat.reduceAdd, Nat.reduceSub, Array.replicate_succ, Array.replicate_zero, List.push_toArray, List.append_toArray, List.nil_append, List.cons_append]
  gi_wp2
  gi_loopw [4, 8] (fun v i wr => ∃ (k : Nat) (pre : List (List UInt8 × Int)) (last r : List UInt8), k ≤ count ∧ i = .int .i64 k ∧ v = .string ⟨last.toArray⟩ ∧ last.length ≤ 100 ∧ r.length ≤ s.length ∧ Hid (pre.length = k) ∧ Hid (yl count [] s = pre ++ yl (count - k) last r) ∧ Hid (rrests count [] s = rrests (count - k) last r) ∧ J pre wr ∧ Hid (Sent n₀ wr a b) ∧ n₀ ≤ wr.heap.size ∧ Blk wr Bl 85 #[.pointer (some ⟨R, 0, none⟩)] ∧ Rd R r wr)
    (fun _ i _ => count - (intOf i).toNat)
  case atStart => exact ⟨0, [], [], s, Nat.zero_le _, rfl, rfl, by simp, Nat.le_refl _, Lib.hid rfl, Lib.hid rfl, Lib.hid rfl, h0, Lib.hid hS, hn₀, bl, bR⟩
  case round =>
    obtain ⟨k, pre, last, r, hk, rfl, rfl, hll, hr, HK, HYs, HZ, hJs, HSn, hnw, bl1, bR1⟩ := hrel
    by_cases hlt : k < count
    · have c1 := bl1.cell 0
      dsimp at c1
      have hlt' : (k : Int) < count := by omega
      have hck : count - k = (count - (k + 1)) + 1 := by omega
      rw [hck] at HYs HZ
      have HF := Lib.hid (word_any a b R last r (by omega) hll wr HSn.out hnw hn₁ bR1)
      gi_wp2_with (refine ⟨trivial, ?_⟩; gi_at_call 89; refine (callsIn_wide.2 HF.out).mono ?_; rintro e w1 ⟨rfl, hg, r2, bR2, hr2, hrw⟩)
      have hB1 : Below n₀ wr w1 := grown_below hg hn₁ hnw
      have HS1 : Hid (Sent n₀ w1 a b) := Lib.hid (HSn.out.below hB1)
      have bl2 : Blk w1 Bl 85 #[.pointer (some ⟨R, 0, none⟩)] := (hg.block Bl bl1.lt (fun e => hlR (Option.some.inj e))).trans bl1
      have hJ1 : J pre w1 := hJ pre wr w1 hJs hg ⟨_, _, bR1⟩ ⟨_, _, bR2⟩
      have hn1 := hB1.size
      have hpl : pre.length < count := by rw [HK.out]; exact hlt
      have hnw1 : n₀ ≤ w1.heap.size := Nat.le_trans hnw hg.size
      clear hg HF hB1
      by_cases hw : wc last r = 0
      · obtain rfl := hrw hw
        have HY2 : Hid (yl count [] s = (pre ++ [(ww last r, (0 : Int))]) ++ yl (count - (k + 1)) (ww last r) (wrr r)) := Lib.hid (by rw [HYs.out, yl_ok hw, List.append_assoc]; rfl)
        have HZ2 : Hid (rrests count [] s = rrests (count - (k + 1)) (ww last r) (wrr r)) := Lib.hid (by rw [HZ.out, rrests_ok hw])
        have hwl := ww_length hw
        rw [hw, wv_ok hw, flt_zero]
        obtain ⟨fn, tmps, assign, body, hy, hR⟩ := hY pre (ww last r, 0) w1 hJ1 hpl
        rw [flt_zero] at hy
        dsimp only at hy
        clear hw hrw HYs HZ
        generalize ww last r = t at *
        generalize wrr r = q at *
        rw [hy]
        gi_wp2
        refine hR.mono ?_
        rintro e W3 (⟨rfl, hJ3, hk3⟩ | ⟨rfl, hJx3⟩)
        · gi_wp2
          go_roundw
          case rel => exact ⟨k + 1, pre ++ [(t, 0)], t, q, by omega, by simp, rfl, hwl, by omega, Lib.hid (by simp [HK.out]), HY2, HZ2, hJ3, Lib.hid (HS1.out.below hk3.1), Nat.le_trans hnw1 hk3.1.size, hk3.2.1.trans bl2, hk3.2.2.trans bR2⟩
          case measure => simp [intOf]; omega
        · gi_wp2
          refine bodyPost_ret (results_none rfl _ _ _) rfl ?_
          exact .stop ⟨_, HY2.out.symm⟩ hJx3
      · have HY2 : Hid (yl count [] s = pre ++ [([], wc last r)]) := Lib.hid (by rw [HYs.out, yl_bad hw])
        have HNZ : Hid (¬ AllZ (pre ++ [([], wc last r)])) := Lib.hid (fun h => hw (h ([], wc last r) (by simp)))
        rw [wv_bad hw]
        obtain ⟨fn, tmps, assign, body, hy, hR⟩ := hY pre ([], wc last r) w1 hJ1 hpl
        rw [flt_ne hw] at hy ⊢
        dsimp only at hy
        clear hw hrw HYs HZ
        generalize wc last r = c at *
        rw [hy]
        gi_wp2
        refine hR.mono ?_
        rintro e W3 (⟨rfl, hJ3, hk3⟩ | ⟨rfl, hJx3⟩)
        · gi_wp2
          refine bodyPost_ret (results_none rfl _ _ _) rfl ?_
          exact .all HY2.out.symm ⟨hJ3, fun h => absurd h HNZ.out⟩
        · gi_wp2
          refine bodyPost_ret (results_none rfl _ _ _) rfl ?_
          exact .stop ⟨[], by rw [List.append_nil]; exact HY2.out.symm⟩ hJx3
    · obtain rfl : k = count := by omega
      have HE : Hid (pre = yl k [] s) := Lib.hid (by rw [HYs.out, Nat.sub_self, yl, List.append_nil])
      have HZ2 : Hid (LeftZ k R s pre wr) := Lib.hid (fun _ => by rw [HZ.out, Nat.sub_self, rrests]; exact bR1)
      have hge : ¬ (k : Int) < k := by omega
      clear hlt
      gi_wp2
      go_end0
      exact .all HE.out ⟨hJs, HZ2.out⟩

theorem words_seq {n₀ : Nat} (a b : Addr) (n : Nat) (hn : 1 ≤ n) (Bc Bl R count : Nat) (hlR : Bl ≠ R) (hn₁ : n₀ ≤ R) (hc : count ≤ 1000) (s : List UInt8) (hs : s.length ≤ 9223372036854775807) (w : World) (hS : Sent n₀ w a b) (hn₀ : n₀ ≤ w.heap.size) (bc : Blk w Bc 3 #[.int .i64 count]) (bl : Blk w Bl 85 #[.pointer (some ⟨R, 0, none⟩)]) (bR : Rd R s w) :
    SeqT Fence.wide n Tryd.prog 88 #[.pointer (some ⟨Bc, 0, none⟩), .pointer (some ⟨Bl, 0, none⟩)] (fun x : List UInt8 × Int => #[.string ⟨x.1.toArray⟩, flt x.2]) R 60 (KeepD n₀ Bl R) (fun ys => ys = yl count [] s) (fun pre => pre <+: yl count [] s) (LeftZ count R s) count w := fun l J Jx W hW hJ hY h0 =>
  words1_in a b n hn l Bc Bl R count hlR hn₁ hc s hs J Jx hJ hY W (hS.below (hW.mono hn₀)) (Nat.le_trans hn₀ hW.size) (bc.under hW) (bl.under hW) (bR.under hW) h0
end Go.Proofs.YthoegicchjadaaaDoor
