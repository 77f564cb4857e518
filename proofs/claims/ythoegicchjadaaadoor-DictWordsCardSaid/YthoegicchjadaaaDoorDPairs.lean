/- pairs: the words, each behind the one ahead of it, for every loop's body that keeps them and the box that they were boxed in. -/
import Derived.Test.YthoegicchjadaaaDoorLNext
import Derived.Test.YthoegicchjadaaaDoorVIter
import Derived.Test.YthoegicchjadaaaDoorTStr
import Derived.Test.YthoegicchjadaaaDoorDCode
namespace Go.Proofs.YthoegicchjadaaaDoor
open Go.RowKit
attribute [local go_sem] Oper.semAt_some

theorem pairs_any (x : Option Addr) (len cap : Nat) (w : World) :
    Calls Tryd.prog 52 #[.slice x len cap] w fun e w' => e = .returned (.func (.func 73) #[] #[.pointer (some ⟨w.heap.size, 0, none⟩)]) ∧ w' = w.alloc (.cells #[.slice x len cap] 22) := by
  go_enter Tryd.func52, Tryd.ntmps52
  go_wp2
  go_ret
  exact ⟨rfl, rfl⟩

/-- What comes next: the next word's place. -/
def NextP (len : Nat) (pre : List Nat) (x : Nat) : Prop := x = pre.length ∧ x < len
/-- What lies below n₀ lies as it lay, and so does the box. -/
def KeepP (n₀ Bl : Nat) (v : Value) (A B : World) : Prop := Below n₀ A B ∧ (Blk A Bl 22 #[v] → Blk B Bl 22 #[v])
theorem keepP_t {n₀ Bl : Nat} {v : Value} {A B C : World} (h : KeepP n₀ Bl v A B) (k : KeepP n₀ Bl v B C) : KeepP n₀ Bl v A C := ⟨h.1.trans k.1, fun x => k.2 (h.2 x)⟩
theorem below_put {n : Nat} (W : World) (l : Nat) (o : Obj) (h : n ≤ l) : Below n W (W.putObj l o) := ⟨rfl, rfl, rfl, by simp, fun _ _ => World.putObj_heap_other (by omega)⟩
theorem keepP_b {n₀ Bl N : Nat} {v : Value} (h1 : n₀ ≤ N) (h2 : Bl < N) (W : World) (l : Nat) (o : Obj) (hl : N ≤ l) : KeepP n₀ Bl v W (W.putObj l o) :=
  ⟨below_put W l o (by omega), fun h => (World.putObj_heap_other (by omega)).trans h⟩
/-- What is handed on: the word ahead, and the word. -/
def encP (ls : List (List UInt8)) (k : Nat) : Array Value := #[.string ⟨(prevW ls k).toArray⟩, .string ⟨(ls[k]?.getD []).toArray⟩]

set_option maxRecDepth 100000 in
set_option maxHeartbeats 2000000 in
theorem pairs1_in (n : Nat) (hn : 1 ≤ n) (l Bl n₀ : Nat) (x : Option Addr) (len cap : Nat) (ls : List (List UInt8)) (hlen : ls.length = len) (hl : len ≤ 100000) (J Jx : List Nat → World → Prop)
    (hY : ∀ pre k W, J pre W → NextP len pre k → YieldAt Fence.wide (n - 1) Tryd.prog l (encP ls k) W fun e W' =>
      (e = .returned (.bool true) ∧ J (pre ++ [k]) W' ∧ KeepP n₀ Bl (.slice x len cap) W W') ∨ (e = .returned (.bool false) ∧ Jx (pre ++ [k]) W'))
    (W : World) (hI : Strs n₀ W (.slice x len cap) ls) (bl : Blk W Bl 22 #[.slice x len cap]) (h0 : J [] W) :
    CallsIn Fence.wide n Tryd.prog 73 #[.func (.yield l) #[] #[], .pointer (some ⟨Bl, 0, none⟩)] W (SeqPost (fun ys => ys = List.range len) (fun pre => ∃ k, k < len ∧ pre = List.range (k + 1)) J Jx) := by
  have c0 := bl.cell 0
  dsimp at c0
  have HL := Lib.hid hlen
  refine callsIn_of_wp Tryd.func73 rfl trivial ?_ rfl
  simp only [Tryd.ntmps73, List.size_toArray, List.length_cons, List.length_nil, Nat.reduceAdd, Nat.reduceSub, Array.replicate_succ, Array.replicate_zero, List.push_toArray, List.append_toArray, List.nil_append, List.cons_append]
  gi_wp2
  gi_loopw [3, 8] (fun a i wr => ∃ k : Nat, k ≤ len ∧ i = .int .i64 k ∧ a = .string ⟨(prevW ls k).toArray⟩ ∧ J (List.range k) wr ∧ Hid (Strs n₀ wr (.slice x len cap) ls) ∧ Blk wr Bl 22 #[.slice x len cap])
    (fun _ i _ => len - (intOf i).toNat)
  case atStart => exact ⟨0, Nat.zero_le _, rfl, rfl, h0, Lib.hid hI, bl⟩
  case round =>
    obtain ⟨k, hk, rfl, rfl, hJs, HI, bl1⟩ := hrel
    by_cases hlt : k < len
    · obtain ⟨b, off, rfl, hb, hcell⟩ := HI.out.at_ hlt
      have hcell' : wr.cell? ⟨b, off + k, none⟩ = some (.string ⟨(ls[k]?.getD []).toArray⟩) := hcell
      have hlt' : (k : Int) < len := by omega
      have HR : Hid (List.range k ++ [k] = List.range (k + 1)) := Lib.hid List.range_succ.symm
      have HP : Hid (prevW ls (k + 1) = ls[k]?.getD []) := Lib.hid (prevW_succ ls k)
      obtain ⟨fn, tmps, assign, body, hy, hR⟩ := hY (List.range k) k wr hJs ⟨by simp, hlt⟩
      unfold encP at hy
      generalize ls[k]?.getD [] = t at *
      generalize prevW ls k = p at *
      gi_wp2
      refine hR.mono ?_
      rintro e W3 (⟨rfl, hJ3, hk3⟩ | ⟨rfl, hJx3⟩)
      · gi_wp2
        go_roundw
        case rel => exact ⟨k + 1, by omega, by simp, by rw [HP.out], by rw [← HR.out]; exact hJ3, Lib.hid (HI.out.below hk3.1), hk3.2 bl1⟩
        case measure => simp [intOf]; omega
      · gi_wp2
        refine bodyPost_ret (results_none rfl _ _ _) rfl ?_
        exact .stop ⟨k, hlt, HR.out⟩ hJx3
    · obtain rfl : k = len := by omega
      have hge : ¬ (k : Int) < k := by omega
      clear hlt
      gi_wp2
      go_end0
      exact .all rfl hJs

theorem pairs_seq (n : Nat) (hn : 1 ≤ n) (Bl n₀ : Nat) (x : Option Addr) (len cap : Nat) (ls : List (List UInt8)) (hlen : ls.length = len) (hl : len ≤ 100000) (w : World) (h0 : n₀ ≤ w.heap.size) (hI : Strs n₀ w (.slice x len cap) ls) (bl : Blk w Bl 22 #[.slice x len cap]) :
    SeqN Fence.wide n Tryd.prog 73 #[.pointer (some ⟨Bl, 0, none⟩)] (encP ls) (NextP len) (KeepP n₀ Bl (.slice x len cap)) (fun ys => ys = List.range len) (fun pre => ∃ k, k < len ∧ pre = List.range (k + 1)) w := fun l J Jx W hW hY hJ =>
  pairs1_in n hn l Bl n₀ x len cap ls hlen hl J Jx hY W (hI.below (hW.mono h0)) (bl.under hW) hJ
end Go.Proofs.YthoegicchjadaaaDoor
