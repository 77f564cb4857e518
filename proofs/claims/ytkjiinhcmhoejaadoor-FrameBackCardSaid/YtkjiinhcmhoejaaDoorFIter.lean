/- (*reader).frames: the frames that are left, up to what is none: what it hands to a loop's body, for every body that leaves the reader alone. -/
import Derived.Test.YtkjiinhcmhoejaaDoorLOwn
import Derived.Test.YtkjiinhcmhoejaaDoorFList
namespace Go.Proofs.YtkjiinhcmhoejaaDoor
open Go.RowKit
attribute [local go_sem] Oper.semAt_some

/-- What is handed on: the frames' bytes, and, where the rest is none, its error. -/
def yields (s : List UInt8) : List (List UInt8 × Int) := (slist s).map (fun b => (b, 0)) ++ (if scode s = 0 then [] else [([], scode s)])
theorem yields_nil : yields [] = [] := by simp [yields, slist_nil, scode_nil]
theorem yields_ok {s : List UInt8} (h : rcode s = 0) : yields s = (rbytes s, 0) :: yields (rrest s) := by simp [yields, slist_ok h, scode_ok h]
theorem yields_bad {s : List UInt8} (h0 : s ≠ []) (h : rcode s ≠ 0) : yields s = [([], rcode s)] := by
  have e := scode_bad h0 h
  unfold yields
  rw [slist_bad h, e, if_neg h]
  rfl

/-- Three blocks lie as they lay. -/
def Keeps3 (Bg Bl R : Nat) (W W' : World) : Prop := W'.heap[Bg]? = W.heap[Bg]? ∧ W'.heap[Bl]? = W.heap[Bl]? ∧ W'.heap[R]? = W.heap[R]?
theorem keeps3_t {Bg Bl R : Nat} {A B C : World} (h : Keeps3 Bg Bl R A B) (k : Keeps3 Bg Bl R B C) : Keeps3 Bg Bl R A C := ⟨k.1.trans h.1, k.2.1.trans h.2.1, k.2.2.trans h.2.2⟩
theorem keeps3_b {Bg Bl R B : Nat} (ha : Bg < B) (hb : Bl < B) (hc : R < B) (W : World) (l : Nat) (o' : Obj) (hl : B ≤ l) : Keeps3 Bg Bl R W (W.putObj l o') :=
  ⟨World.putObj_heap_other (by omega), World.putObj_heap_other (by omega), World.putObj_heap_other (by omega)⟩
theorem Tab.same {w w' : World} (h : Tab w) (hk : w'.heap[0]? = w.heap[0]?) : Tab w' := fun i hi => (World.cell?_of_block (a := ⟨0, i, none⟩) hk).trans (h i hi)

/-- What an iterator leaves; hidden from the walk. -/
def SeqPost {α : Type} (S Sp : List α → Prop) (J Jx : List α → World → Prop) (e : Ending) (W' : World) : Prop := (∃ v, e = .returned v) ∧ ((∃ ys, S ys ∧ J ys W') ∨ (∃ pre, Sp pre ∧ Jx pre W'))
theorem SeqPost.all {α : Type} {S Sp : List α → Prop} {J Jx : List α → World → Prop} {v : Value} {W' : World} {ys : List α} (h : S ys) (hj : J ys W') : SeqPost S Sp J Jx (.returned v) W' := ⟨⟨_, rfl⟩, .inl ⟨ys, h, hj⟩⟩
theorem SeqPost.stop {α : Type} {S Sp : List α → Prop} {J Jx : List α → World → Prop} {v : Value} {W' : World} {ys : List α} (h : Sp ys) (hj : Jx ys W') : SeqPost S Sp J Jx (.returned v) W' := ⟨⟨_, rfl⟩, .inr ⟨ys, h, hj⟩⟩

set_option maxHeartbeats 1000000 in
theorem frames_any (p : Option Addr) (w : World) :
    Calls Tryd.prog 28 #[.pointer p] w fun e w' => e = .returned (.func (.func 34) #[] #[.pointer (some ⟨w.heap.size, 0, none⟩)]) ∧ w' = w.alloc (.cells #[.pointer p] 66) := by
  go_enter Tryd.func28, Tryd.ntmps28
  go_wp2
  go_ret
  exact ⟨rfl, rfl⟩

/-- The length of the text that a reader has left. -/
def leftOf (R : Nat) (W : World) : Nat := match W.cell? ⟨R, 0, none⟩ with | some (.string b) => b.size | _ => 0
theorem leftOf_blk {R : Nat} {W : World} {r : List UInt8} (h : Blk W R 51 #[.string ⟨r.toArray⟩]) : leftOf R W = r.length := by
  unfold leftOf
  rw [h.cell 0]
  simp [ByteArray.size]

set_option maxRecDepth 100000 in
set_option maxHeartbeats 4000000 in
theorem frames1_in (n : Nat) (hn : 1 ≤ n) (l Bl R : Nat) (hlR : Bl ≠ R) (hgR : 0 ≠ R) (s : List UInt8) (hs : s.length ≤ 1000000) (J Jx : List (List UInt8 × Int) → World → Prop) (hJ : AbidesR R 51 J)
    (hY : ∀ pre x W, J pre W → pre.length < (yields s).length → YieldAt Fence.wide (n - 1) Tryd.prog l #[.string ⟨x.1.toArray⟩, .int .i64 x.2] W fun e W' =>
      (e = .returned (.bool true) ∧ J (pre ++ [x]) W' ∧ Keeps3 0 Bl R W W') ∨ (e = .returned (.bool false) ∧ Jx (pre ++ [x]) W'))
    (W : World) (hT : Tab W) (bl : Blk W Bl 66 #[.pointer (some ⟨R, 0, none⟩)]) (bR : Blk W R 51 #[.string ⟨s.toArray⟩]) (h0 : J [] W) :
    CallsIn Fence.wide n Tryd.prog 34 #[.func (.yield l) #[] #[], .pointer (some ⟨Bl, 0, none⟩)] W (SeqPost (fun ys => ys = yields s) (fun pre => pre <+: yields s) J Jx) := by
  refine callsIn_of_wp Tryd.func34 rfl trivial ?_ rfl
  simp only [Tryd.ntmps34, List.size_toArray, List.length_cons, List.length_nil, Nat.reduceAdd, Nat.reduceSub, Array.replicate_succ, Array.replicate_zero, List.push_toArray, List.append_toArray, List.nil_append, List.cons_append]
  gi_wp2
  gi_loopw [] (fun wr => ∃ (pre : List (List UInt8 × Int)) (r : List UInt8), r.length ≤ s.length ∧ Hid (yields s = pre ++ yields r) ∧ J pre wr ∧ Hid (Tab wr) ∧ Blk wr Bl 66 #[.pointer (some ⟨R, 0, none⟩)] ∧ Blk wr R 51 #[.string ⟨r.toArray⟩])
    (fun wr => leftOf R wr)
  case atStart => exact ⟨[], s, Nat.le_refl _, Lib.hid rfl, h0, Lib.hid hT, bl, bR⟩
  case round =>
    obtain ⟨pre, r, hr, HYs, hJs, HT, bl1, bR1⟩ := hrel
    have c1 := bl1.cell 0; have d1 := bR1.cell 0
    dsimp at c1 d1
    by_cases hr0 : r = []
    · subst hr0
      have HE : Hid (pre = yields s) := Lib.hid (by rw [HYs.out, yields_nil, List.append_nil])
      gi_wp2
      go_end0
      exact .all HE.out hJs
    · have hne : r.isEmpty = false := by simpa using hr0
      have HF := Lib.hid (frame_any R r (by omega) wr HT.out bR1)
      have hgr : Hid (∀ w1 : World, (∀ k, k < wr.heap.size → k ≠ R → w1.heap[k]? = wr.heap[k]?) → Below 0 wr w1 → wr.grownBy w1 (some R)) := Lib.hid (fun w1 hk hb => ⟨hb.os, hb.tape, hb.output, hb.size, fun k hk1 hne => hk k hk1 (fun e => hne (by rw [e]))⟩)
      gi_wp2_with (refine ⟨trivial, ?_⟩; gi_at_call 26; refine (callsIn_wide.2 HF.out).mono ?_; rintro e w1 ⟨rfl, b1, hk, hb, hsz⟩)
      have bl2 : Blk w1 Bl 66 #[.pointer (some ⟨R, 0, none⟩)] := (hk Bl bl1.lt hlR).trans bl1
      have HT2 : Hid (Tab w1) := Lib.hid (HT.out.same (hk _ HT.out.lt hgR))
      have hJ1 : J pre w1 := hJ pre wr w1 hJs (hgr.out w1 hk hb) ⟨_, _, bR1⟩ ⟨_, _, b1⟩
      clear hk hb hsz HF hgr
      by_cases hc : rcode r = 0
      · have h1 := rest_shorter hc
        have HY2 : Hid (yields s = (pre ++ [(rbytes r, (0 : Int))]) ++ yields (rrest r)) := Lib.hid (by rw [HYs.out, yields_ok hc, List.append_assoc]; rfl)
        have hlen : pre.length < (yields s).length := by rw [HYs.out, yields_ok hc]; simp
        have hm1 := leftOf_blk bR1
        rw [hc]
        obtain ⟨fn, tmps, assign, body, hy, hR⟩ := hY pre (rbytes r, 0) w1 hJ1 hlen
        dsimp only at hy
        clear hc hlen
        generalize rbytes r = b at *
        generalize rrest r = q at *
        rw [hy]
        gi_wp2
        refine hR.mono ?_
        rintro e W3 (⟨rfl, hJ3, hk3⟩ | ⟨rfl, hJx3⟩)
        · have b3 : Blk W3 R 51 #[.string ⟨q.toArray⟩] := hk3.2.2.trans b1
          gi_wp2
          go_roundw
          case rel => exact ⟨pre ++ [(b, 0)], q, by omega, HY2, hJ3, Lib.hid (HT2.out.same hk3.1), hk3.2.1.trans bl2, b3⟩
          case measure => rw [leftOf_blk b3, hm1]; omega
        · gi_wp2
          refine bodyPost_ret (results_none rfl _ _ _) rfl ?_
          exact .stop ⟨_, HY2.out.symm⟩ hJx3
      · have HY2 : Hid (yields s = pre ++ [(rbytes r, rcode r)]) := Lib.hid (by rw [HYs.out, yields_bad hr0 hc, rbytes_bad hc])
        have hlen : pre.length < (yields s).length := by rw [HY2.out]; simp
        have hnc : (rcode r == 0) = false := by simpa using hc
        obtain ⟨fn, tmps, assign, body, hy, hR⟩ := hY pre (rbytes r, rcode r) w1 hJ1 hlen
        dsimp only at hy
        clear hlen hc
        generalize rbytes r = b at *
        generalize rrest r = q at *
        generalize rcode r = c at *
        rw [hy]
        gi_wp2
        refine hR.mono ?_
        rintro e W3 (⟨rfl, hJ3, hk3⟩ | ⟨rfl, hJx3⟩)
        · gi_wp2
          refine bodyPost_ret (results_none rfl _ _ _) rfl ?_
          exact .all HY2.out.symm hJ3
        · gi_wp2
          refine bodyPost_ret (results_none rfl _ _ _) rfl ?_
          exact .stop ⟨[], by rw [List.append_nil]; exact HY2.out.symm⟩ hJx3

/-- The frames, for a loop's body that keeps the reader, the box that it was boxed in, and the table. -/
theorem frames_stops (n : Nat) (hn : 1 ≤ n) (Bl R : Nat) (hlR : Bl ≠ R) (hgR : 0 ≠ R) (s : List UInt8) (hs : s.length ≤ 1000000) (w : World) (hT : Tab w) (bl : Blk w Bl 66 #[.pointer (some ⟨R, 0, none⟩)]) (bR : Blk w R 51 #[.string ⟨s.toArray⟩]) :
    SeqR Fence.wide n Tryd.prog 34 #[.pointer (some ⟨Bl, 0, none⟩)] (fun x : List UInt8 × Int => #[.string ⟨x.1.toArray⟩, .int .i64 x.2]) R 51 (Keeps3 0 Bl R) (fun ys => ys = yields s) (fun pre => pre <+: yields s) (yields s).length w := fun l J Jx W hW hJ hY h0 =>
  frames1_in n hn l Bl R hlR hgR s hs J Jx hJ hY W (hT.below hW) (bl.under hW) (bR.under hW) h0
end Go.Proofs.YtkjiinhcmhoejaaDoor
