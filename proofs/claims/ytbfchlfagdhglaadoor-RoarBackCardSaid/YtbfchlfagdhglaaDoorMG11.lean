import Derived.RangeFuncNested
import Derived.RangeFuncBound
import Derived.RangeFuncCalls
import Derived.RangeFuncLeaves
import Derived.RangeFuncBox
import Derived.Shelf.Abstract
import Derived.OwnWalkIn
import Derived.TacticsInMore
import Derived.LoopNIn
import Derived.LoopIn
import Derived.Test.YtbfchlfagdhglaaDoorMG10
import Derived.Test.YtbfchlfagdhglaaDoorMG7
import Derived.RegionIn
import Derived.Deep.RegionHeld3
import Derived.OrdersHeld
import Derived.Lib.Hide
/- A loop over a function whose iterator hands over a known element each time: the body may lean on which one comes next (E pre x: x comes when pre has come); the iterator may make memory. -/
namespace Go.Proofs.YtbfchlfagdhglaaDoor
open Go Go.RowKit

/-- The contract of such an iterator. -/
def SeqB {α : Type} (F : Fence) (n : Nat) (P : Program) (g : Nat) (lb : Array Value) (encs : α → Array Value) (E : List α → α → Prop) (Kp : World → World → Prop) (S Sp : List α → Prop) (w : World) : Prop :=
  ∀ (l : Nat) (J Jx : List α → World → Prop) (W : World), Below w.heap.size w W →
    (∀ pre x W1, J pre W1 → E pre x → YieldAt F (n - 1) P l (encs x) W1 fun e W' =>
      (e = .returned (.bool true) ∧ J (pre ++ [x]) W' ∧ Kp W1 W') ∨ (e = .returned (.bool false) ∧ Jx (pre ++ [x]) W')) →
    J [] W → (∀ pre W1 W2, J pre W1 → Below W1.heap.size W1 W2 → J pre W2) →
    CallsIn F n P g (#[.func (.yield l) #[] #[]] ++ lb) W fun e W' => (∃ v, e = .returned v) ∧ ((∃ xs, S xs ∧ J xs W') ∨ (∃ pre, Sp pre ∧ Jx pre W'))

variable {F : Fence} {n : Nat} {P : Program}

/-- A world that has grown is one that grew by no row. -/
theorem below_grown {W W2 : World} (hb : Below W.heap.size W W2) (row : Option Nat) : W.grownBy W2 row := ⟨hb.os, hb.tape, hb.output, hb.size, fun k hk _ => hb.block k hk⟩

theorem keepsB_below {a w : World} (h : Below a.heap.size a w) : KeepsOthers a w := ⟨h.size, fun k _ hk _ => (h.block k (Array.getElem?_eq_some_iff.1 hk).1).trans hk⟩

/-- The law of the loop. -/
theorem wpIn_rangeFunc_nextB {α : Type} {g : Operand} {ps : Array Tmp} {assign body : Code} {Q : Exit → Act → World → Prop} {a : Act} {w : World}
    (hro : F.round = none) (h1 : 1 ≤ n) {gf : Nat} {lb : Array Value} (hg : a.eval g = .func (.func gf) #[] lb) (hFg : F.fn gf) (eg : ∀ args w, (callFunc gf args).run P w = .ok (.enter gf args) w)
    {encs : α → Array Value} {E : List α → α → Prop} {Kp : World → World → Prop} {S Sp : List α → Prop} (hseq : SeqB F (n - 1) P gf lb encs E Kp S Sp w)
    (hKt : ∀ {A B C : World}, Kp A B → Kp B C → Kp A C) (hKb : ∀ (W : World) (l : Nat) (o : Obj), w.heap.size ≤ l → Kp W (W.putObj l o)) (hps : ∀ x, (encs x).size = ps.size)
    (I : List α → World → Prop) (Ix : Code → List α → World → Prop) (hI : OwnFrom w.heap.size I) (hIx : ∀ c, OwnFrom w.heap.size (Ix c)) (h0 : I [] w) (Ax : α → Act → World → Prop) (hAx : ∀ x a', OwnFrom w.heap.size (fun (_ : Unit) W => Ax x a' W))
    (hassign : ∀ (l : Nat) (pre : List α) (x : α) (W : World) (K : Act → World → Prop), I pre W → E pre x → (∀ a' W', KeepsOthers W W' → Kp W W' → I pre W' → Ax x a' W' → K a' W') →
      assign.wpIn (F.inRound l) (n - 1 - 1) P (Exit.then K (fun _ _ _ => False)) { tmps := (ps.zip (encs x)).foldl (fun t (p, v) => t.setIfInBounds p v) a.tmps, defers := [] } W)
    (hbody : ∀ (l : Nat) (pre : List α) (x : α) (a' : Act) (W : World), I pre W → E pre x → Ax x a' W → body.wpIn (F.inRound l) (n - 1 - 1) P (ownPostK Kp I Ix (pre ++ [x]) W) a' W)
    (hdone : ∀ (D : Nat) (xs : List α) (W : World), w.heap.size ≤ D → S xs → I xs W → W.heap[D]? = some (.deferred (some [])) → Q .normal { a with defers := { target := .collected D, args := #[] } :: a.defers } W)
    (hstop : ∀ (D : Nat) (c : Code) (pre : List α) (W : World), w.heap.size ≤ D → Sp pre → Ix c pre W → W.heap[D]? = some (.deferred (some [])) → c.wpIn F n P Q { a with defers := { target := .collected D, args := #[] } :: a.defers } W) :
    (Code.rangeFunc g ps assign body).wpIn F n P Q a w := by
  refine wpIn_rangeFunc fun fn hfn => ?_
  rw [hro]
  -- the two blocks of the loop's book-keeping: D for the deferred calls, L for the record
  obtain ⟨D, hD⟩ : ∃ D, w.heap.size = D := ⟨_, rfl⟩
  obtain ⟨rec, hrec⟩ : ∃ rec : LoopState → Option Code → Loop, rec = fun st pe => { state := st, pending := pe, fn, tmps := a.tmps, params := ps, assign, body, defers := D } := ⟨_, rfl⟩
  obtain ⟨W1, hW1⟩ : ∃ W1, (w.alloc (.deferred (some []))).alloc (.loop (rec .ready none)) = W1 := ⟨_, rfl⟩
  have book1 : W1.heap[D + 1]? = some (.loop (rec .ready none)) ∧ W1.heap[D]? = some (.deferred (some [])) := by
    subst hW1; subst hD
    refine ⟨?_, (Below.heap_alloc _ _ _ (by simp)).trans (World.alloc_heap_new w _)⟩
    have h := World.alloc_heap_new (w.alloc (.deferred (some []))) (.loop (rec .ready none))
    rwa [World.size_alloc] at h
  have hI1 : I [] W1 := by rw [← hW1]; exact hI.alloc _ (hI.alloc _ h0)
  have hb1 : Below w.heap.size w W1 := by rw [← hW1]; exact ((Below.refl _ w).alloc (Nat.le_refl _) _).alloc (by simp) _
  have enter := run_enterLoop_outer (P := P) (w := w) fn a.tmps ps assign body
  rw [hD] at enter
  -- turns of the record leave all else
  have turn : ∀ (W : World) (st : LoopState) (pe : Option Code) (o : Obj), W.heap[D + 1]? = some o → o.isCells = false → W.heap[D]? = some (.deferred (some [])) →
      (W.putObj (D + 1) (.loop (rec st pe))).heap[D + 1]? = some (.loop (rec st pe)) ∧ (W.putObj (D + 1) (.loop (rec st pe))).heap[D]? = some (.deferred (some [])) := fun W st pe o ho _ hk =>
    ⟨World.putObj_heap_same (Array.getElem?_eq_some_iff.1 ho).1, (World.putObj_heap_other (by omega)).trans hk⟩
  refine ⟨D + 1, [{ target := .collected D, args := #[] }], W1, { target := .fn (.func gf) lb, args := #[.func (.yield (D + 1)) #[] #[]] }, W1, gf, #[.func (.yield (D + 1)) #[] #[]] ++ lb, W1, ?_, ?_, ?_, ?_, fun _ => h1, ?_⟩
  · rw [← hW1, hrec]; exact enter
  · simp only [resolve, hg]
    simp [go_sem]
  · intro f' hf'; simp [Target.leads] at hf'; subst hf'; exact hFg
  · simp [invoke, go_sem, eg]
  refine (hseq (D + 1) (fun pre W => I pre W ∧ W.heap[D + 1]? = some (.loop (rec .ready none)) ∧ W.heap[D]? = some (.deferred (some [])))
    (fun pre W => ∃ c, Ix c pre W ∧ W.heap[D + 1]? = some (.loop (rec .done (some c))) ∧ W.heap[D]? = some (.deferred (some []))) W1 hb1 ?_ ⟨hI1, book1⟩ (fun pre W W2 h hb => ⟨hI _ _ _ none h.1 ⟨hb.os, hb.tape, hb.output, hb.size, fun k hk _ => hb.block k hk⟩ (fun r e => by cases e), (hb.block _ (Array.getElem?_eq_some_iff.1 h.2.1).1).trans h.2.1, (hb.block _ (Array.getElem?_eq_some_iff.1 h.2.2).1).trans h.2.2⟩)).mono ?_
  · -- one round
    rintro pre x W ⟨hi, hl, hk⟩ hlen
    have hy := run_yield (P := P) (args := encs x) hl (by rw [hrec]; exact hps x)
    rw [hrec] at hy
    refine ⟨fn, _, assign, body, hy, roundIn_of_wpIn hfn (hassign _ pre x W _ hi hlen ?_)⟩
    intro a' Wa hkfa hkpa hia hax
    -- the assign code may have laid a block (a boxed loop variable)
    replace hl := hkfa.same _ _ hl rfl
    replace hk := hkfa.same _ _ hk rfl
    replace hi := hia
    clear hia
    revert hkpa hkfa
    generalize W = Wb
    intro hkfa hkpa
    obtain ⟨W, rfl⟩ : ∃ W, W = Wa := ⟨_, rfl⟩
    refine ⟨_, run_beginRound hl (by rw [hrec]), ?_⟩
    have e2 : ({ rec .ready none with state := .busy } : Loop) = rec .busy none := by rw [hrec]
    rw [e2]
    obtain ⟨hl2, hk2⟩ := turn W .busy none _ hl rfl hk
    have hw2 : Kp W (W.putObj (D + 1) (.loop (rec .busy none))) := hKb _ _ _ (by omega)
    refine wpIn_mono (hbody _ pre x a' _ (hI.putObj _ hi (by omega) hl rfl) hlen ((hAx x a').putObj (s := ()) _ hax (by omega) hl rfl)) ?_
    -- the round's end
    have fin : ∀ (jump : Option Code) (W3 : World), KeepsOthers (W.putObj (D + 1) (.loop (rec .busy none))) W3 →
        (Instr.endRound (D + 1) jump).run P W3 = .ok (.bool jump.isNone) (W3.putObj (D + 1) (.loop (rec (if jump.isNone then .ready else .done) jump))) ∧
        W3.heap[D + 1]? = some (.loop (rec .busy none)) ∧ W3.heap[D]? = some (.deferred (some [])) := fun jump W3 hk3 => by
      have hl3 := hk3.same _ _ hl2 rfl
      have h := run_endRound (P := P) jump hl3
      have e3 : ({ rec .busy none with state := if jump.isNone then .ready else .done, pending := jump } : Loop) = rec (if jump.isNone then .ready else .done) jump := by rw [hrec]
      rw [e3] at h
      exact ⟨h, hl3, hk3.same _ _ hk2 rfl⟩
    have left : ∀ (c : Code) (W3 : World), KeepsOthers (W.putObj (D + 1) (.loop (rec .busy none))) W3 → Ix c (pre ++ [x]) W3 →
        ∃ c', Ix c' (pre ++ [x]) (W3.putObj (D + 1) (.loop (rec .done (some c)))) ∧ (W3.putObj (D + 1) (.loop (rec .done (some c)))).heap[D + 1]? = some (.loop (rec .done (some c'))) ∧ (W3.putObj (D + 1) (.loop (rec .done (some c)))).heap[D]? = some (.deferred (some [])) := fun c W3 hk3 hx => by
      obtain ⟨_, hl3, hd3⟩ := fin (some c) W3 hk3
      exact ⟨c, (hIx c).putObj _ hx (by omega) hl3 rfl, turn W3 .done (some c) _ hl3 rfl hd3⟩
    rintro e a3 W3 hp
    cases e with
    | normal =>
      obtain ⟨hk3, hkp3, hi3⟩ := hp
      obtain ⟨hr, hl3, hd3⟩ := fin none W3 hk3
      exact ⟨_, _, hr, .inl ⟨rfl, ⟨hI.putObj _ hi3 (by omega) hl3 rfl, turn W3 .ready none _ hl3 rfl hd3⟩, hKt hkpa (hKt (hKt hw2 hkp3) (hKb _ _ _ (by omega)))⟩⟩
    | ret => exact ⟨_, _, (fin (some .ret) W3 hp.1).1, .inr ⟨rfl, left .ret W3 hp.1 hp.2⟩⟩
    | exit id => exact ⟨_, _, (fin (some (.exit id)) W3 hp.1).1, .inr ⟨rfl, left (.exit id) W3 hp.1 hp.2⟩⟩
    | goto t => exact ⟨_, _, (fin (some (.goto t)) W3 hp.1).1, .inr ⟨rfl, left (.goto t) W3 hp.1 hp.2⟩⟩
    | panic ch => exact hp.elim
    | outgrown => exact hp.elim
  · -- behind the iterator
    have stop : ∀ (st : LoopState) (pe : Option Code) (W2 : World), st ≠ .busy → W2.heap[D + 1]? = some (.loop (rec st pe)) → (Instr.endLoop (D + 1)).run P W2 = .ok pe (W2.putObj (D + 1) (.loop (rec .exhausted pe))) := fun st pe W2 hb hl => by
      have h := run_endLoop (P := P) hl (by rw [hrec]; exact hb)
      rw [hrec] at h ⊢
      exact h
    rintro e W2 ⟨⟨v, rfl⟩, (⟨xs, hS, hi, hl, hk⟩ | ⟨pre, hSp, c, hi, hl, hk⟩)⟩
    · exact ⟨none, _, stop _ _ _ (by simp) hl, hdone D xs _ (by omega) hS (hI.putObj _ hi (by omega) hl rfl) (turn W2 _ _ _ hl rfl hk).2⟩
    · exact ⟨some c, _, stop _ _ _ (by simp) hl, hstop D c pre _ (by omega) hSp ((hIx c).putObj _ hi (by omega) hl rfl) (turn W2 _ _ _ hl rfl hk).2⟩
end Go.Proofs.YtbfchlfagdhglaaDoor
/- roar.chunks: the chunks of a bitmap, for every loop's body that keeps the bitmap. -/
namespace Go.Proofs.YtbfchlfagdhglaaDoor
open Go.RowKit
attribute [local go_sem] Oper.semAt_some

theorem chunks_any (v : Value) (w : World) :
    Calls Tryd.prog 25 #[.agg #[v]] w fun e w' => e = .returned (.func (.func 36) #[] #[.pointer (some ⟨w.heap.size, 0, none⟩)]) ∧ w' = w.alloc (.cells #[v] 24) := by
  go_enter Tryd.func25, Tryd.ntmps25
  go_wp2
  go_ret
  exact ⟨rfl, rfl⟩

/-- The bitmap's box, and its row, lie as they lay. -/
def KpC (Bl : Nat) (x : Option Addr) (len : Nat) (W W' : World) : Prop := W'.heap[Bl]? = W.heap[Bl]? ∧ ∀ b o, x = some ⟨b, o, none⟩ → len ≠ 0 → W'.heap[b]? = W.heap[b]?
theorem kpC_t {Bl : Nat} {x : Option Addr} {len : Nat} {A B C : World} (h : KpC Bl x len A B) (k : KpC Bl x len B C) : KpC Bl x len A C := ⟨k.1.trans h.1, fun b o e hl => (k.2 b o e hl).trans (h.2 b o e hl)⟩
theorem kpC_refl {Bl : Nat} {x : Option Addr} {len : Nat} (W : World) : KpC Bl x len W W := ⟨rfl, fun _ _ _ _ => rfl⟩
theorem kpC_below {Bl n : Nat} {x : Option Addr} {len : Nat} {W W' : World} (h : Below n W W') (ha : Bl < n) (hx : ∀ b o, x = some ⟨b, o, none⟩ → len ≠ 0 → b < n) : KpC Bl x len W W' := ⟨h.block _ ha, fun b o e hl => h.block _ (hx b o e hl)⟩
theorem kpC_b {Bl n : Nat} {x : Option Addr} {len : Nat} (ha : Bl < n) (hx : ∀ b o, x = some ⟨b, o, none⟩ → len ≠ 0 → b < n) (W : World) (l : Nat) (o : Obj) (hl : n ≤ l) : KpC Bl x len W (W.putObj l o) :=
  ⟨World.putObj_heap_other (by omega), fun b o' e h0 => World.putObj_heap_other (by have := hx b o' e h0; omega)⟩
/-- A store into a box that is another. -/
theorem kpC_set {Bl : Nat} {x : Option Addr} {len : Nat} (W : World) (p : Addr) (v : Value) (ha : Bl ≠ p.block) (hx : ∀ b o, x = some ⟨b, o, none⟩ → len ≠ 0 → b ≠ p.block) : KpC Bl x len W (W.setCell p v) :=
  ⟨Below.heap_setCell W p v Bl ha, fun b o e hl => Below.heap_setCell W p v b (hx b o e hl)⟩
theorem chs_keep {W W' : World} {x : Option Addr} {len cap : Nat} {r : List Ch} (h : Chs W.heap.size W (.slice x len cap) r) (hx : ∀ b o, x = some ⟨b, o, none⟩ → len ≠ 0 → W'.heap[b]? = W.heap[b]?) : Chs W'.heap.size W' (.slice x len cap) r := by
  by_cases hl : len = 0
  · have := h.len
    subst hl
    exact .inl ⟨⟨x, cap, rfl⟩, List.eq_nil_of_length_eq_zero this⟩
  rcases h with h | ⟨b, o, c, e, h1, h2⟩
  · exact .inl h
  · cases e
    have hb := hx b o rfl hl
    have hlt : b < W'.heap.size := by
      have : W.heap[b]? = some W.heap[b] := Array.getElem?_eq_getElem h1
      rw [this] at hb
      exact (Array.getElem?_eq_some_iff.1 hb).1
    have hc : ∀ p, W'.cell? ⟨b, p, none⟩ = W.cell? ⟨b, p, none⟩ := fun p => by unfold World.cell?; rw [hb]
    refine .inr ⟨b, o, cap, rfl, hlt, fun j hj => ?_⟩
    obtain ⟨a1, a2, a3⟩ := h2 j hj
    exact ⟨(hc _).trans a1, (hc _).trans a2, (hc _).trans a3⟩
/-- Where a bitmap's row lies. -/
def RowIn (x : Option Addr) (len n : Nat) : Prop := ∀ b o, x = some ⟨b, o, none⟩ → len ≠ 0 → b < n
theorem Chs.rowIn {n : Nat} {W : World} {x : Option Addr} {len cap : Nat} {r : List Ch} (h : Chs n W (.slice x len cap) r) : RowIn x len n := fun b o e hl => by
  obtain ⟨b', o', e', hb, _⟩ := h.at_ (j := 0) (by omega)
  rw [e] at e'; cases e'; exact hb
theorem RowIn.mono {x : Option Addr} {len n m : Nat} (h : RowIn x len n) (hm : n ≤ m) : RowIn x len m := fun b o e hl => Nat.lt_of_lt_of_le (h b o e hl) hm
/-- What comes next: the next chunk. -/
def NextC (r pre : List Ch) (c : Ch) : Prop := RightZ r ∧ ∃ k, k < r.length ∧ pre = r.take k ∧ c = r.getD k noCh
/-- The state between two chunks. -/
def ChSt (Bl : Nat) (sv : Value) (r : List Ch) (J : List Ch → World → Prop) (k : Nat) (wr : World) : Prop := J (r.take k) wr ∧ Blk wr Bl 24 #[sv] ∧ Chs wr.heap.size wr sv r
theorem ChSt.under {Bl : Nat} {sv : Value} {r : List Ch} {J : List Ch → World → Prop} {k : Nat} {a b : World} (h : ChSt Bl sv r J k a) (hJd : ∀ pre W1 W2, J pre W1 → Below W1.heap.size W1 W2 → J pre W2) (hb : Below a.heap.size a b) : ChSt Bl sv r J k b :=
  ⟨hJd _ _ _ h.1 hb, h.2.1.under hb, h.2.2.under hb⟩
def chEnc (c : Ch) : Array Value := #[.agg #[.int .i64 c.1, .int .i64 c.2.1, .string ⟨c.2.2.toArray⟩]]
/-- All chunks, if it is a bitmap. -/
def allC (r : List Ch) : List Ch := if RightZ r then r else []
theorem take_succ_getD {r : List Ch} {k : Nat} (h : k < r.length) : r.take (k + 1) = r.take k ++ [r.getD k noCh] := by
  rw [List.take_add_one, List.getElem?_eq_getElem h, getD_get h]; rfl

set_option maxRecDepth 100000 in
set_option maxHeartbeats 4000000 in
theorem chunks1_in (n : Nat) (hn : 1 ≤ n) (l Bl : Nat) (x : Option Addr) (len cap : Nat) (r : List Ch) (hk : OkCs r) (hm : len ≤ 9223372036854775807) (J Jx : List Ch → World → Prop)
    (hY : ∀ pre c W, J pre W → NextC r pre c → YieldAt Fence.wide (n - 1) Tryd.prog l (chEnc c) W fun e W' =>
      (e = .returned (.bool true) ∧ J (pre ++ [c]) W' ∧ KpC Bl x len W W') ∨ (e = .returned (.bool false) ∧ Jx (pre ++ [c]) W'))
    (W : World) (bl : Blk W Bl 24 #[.slice x len cap]) (hr : Chs W.heap.size W (.slice x len cap) r) (h0 : J [] W) (hJd : ∀ pre W1 W2, J pre W1 → Below W1.heap.size W1 W2 → J pre W2) :
    CallsIn Fence.wide n Tryd.prog 36 #[.func (.yield l) #[] #[], .pointer (some ⟨Bl, 0, none⟩)] W (SeqPost (fun ys => ys = allC r) (fun pre => ∃ k, RightZ r ∧ k < r.length ∧ pre = r.take (k + 1)) J Jx) := by
  have hl := hr.len
  have c0 := bl.cell 0
  dsimp at c0
  have HR := Lib.hid (right_roar x len cap r hk hm W hr)
  have HS0 : Hid (ChSt Bl (.slice x len cap) r J 0 W) := Lib.hid ⟨h0, bl, hr⟩
  have HY := Lib.hid hY
  have HJd := Lib.hid hJd
  have HL := Lib.hid hl
  have HO := Lib.hid hk
  clear bl hr h0 hY hJd hk hl
  by_cases hR : RightZ r
  · rw [decide_eq_true hR] at HR
    have HAll : Hid (allC r = r) := Lib.hid (if_pos hR)
    refine callsIn_of_wp Tryd.func36 rfl trivial ?_ rfl
    simp only [Tryd.ntmps36, List.size_toArray, List.length_cons, List.length_nil, Nat.reduceAdd, Nat.reduceSub, Array.replicate_succ, Array.replicate_zero, List.push_toArray, List.append_toArray, List.nil_append, List.cons_append]
    gi_wp2_with (refine ⟨trivial, ?_⟩; gi_at_call 16; refine (callsIn_wide.2 HR.out).mono ?_; rintro e w1 ⟨rfl, hb1⟩; have HS1 := Lib.hid (HS0.out.under HJd.out hb1); have c1 := HS1.out.2.1.cell 0; dsimp at c1; clear c0)
    gi_loopw [11] (fun i wr => ∃ k : Nat, k ≤ len ∧ i = .int .i64 k ∧ ChSt Bl (.slice x len cap) r J k wr)
      (fun i _ => len - (intOf i).toNat)
    case atStart => exact ⟨0, Nat.zero_le _, rfl, HS1.out⟩
    case round =>
      obtain ⟨k, hk, rfl, hS⟩ := hrel
      clear c1
      by_cases hlt : k < len
      · have hlt' : (k : Int) < len := by omega
        have hlr : k < r.length := by rw [HL.out]; exact hlt
        obtain ⟨b, o, rfl, hb, d0, d1, d2⟩ := hS.2.2.at_ hlt
        have HT := Lib.hid (take_succ_getD hlr)
        have HD := Lib.hid hlr
        have hnx : NextC r (r.take k) (r.getD k noCh) := ⟨hR, k, hlr, rfl, rfl⟩
        have HS2 : Hid (ChSt Bl (.slice (some ⟨b, o, none⟩) len cap) r J k (wr.alloc (.cells #[.int .i64 (r.getD k noCh).1, .int .i64 (r.getD k noCh).2.1, .string ⟨(r.getD k noCh).2.2.toArray⟩] 48))) := Lib.hid (hS.under HJd.out ((Below.refl _ wr).alloc (Nat.le_refl _) _))
        obtain ⟨fn, tmps, assign, body, hy, hRd⟩ := HY.out _ _ _ HS2.out.1 hnx
        unfold chEnc at hy
        clear hS hlr hnx
        generalize r.getD k noCh = c at *
        gi_wp2
        refine hRd.mono ?_
        rintro e W3 (⟨rfl, hJ3, hk3⟩ | ⟨rfl, hJx3⟩)
        · have HS3 : Hid (ChSt Bl (.slice (some ⟨b, o, none⟩) len cap) r J (k + 1) W3) := Lib.hid ⟨by rw [HT.out]; exact hJ3, hk3.1.trans HS2.out.2.1, chs_keep HS2.out.2.2 hk3.2⟩
          clear hJ3 hk3 d0 d1 d2
          gi_wp2
          go_roundw
          case rel => exact ⟨k + 1, by omega, by simp, HS3.out⟩
          case measure => simp [intOf]; omega
        · gi_wp2
          refine bodyPost_ret (results_none rfl _ _ _) rfl ?_
          exact .stop ⟨k, hR, HD.out, HT.out.symm⟩ hJx3
      · obtain rfl : k = len := by omega
        have hge : ¬ (k : Int) < k := by omega
        have HE : Hid (J r wr) := Lib.hid (by have := hS.1; rwa [List.take_of_length_le (by rw [HL.out]; exact Nat.le_refl _)] at this)
        clear hS
        gi_wp2
        all_goals
          go_end0
          exact .all HAll.out.symm HE.out
  · rw [decide_eq_false hR] at HR
    have HAll : Hid (allC r = []) := Lib.hid (if_neg hR)
    refine callsIn_of_wp Tryd.func36 rfl trivial ?_ rfl
    simp only [Tryd.ntmps36, List.size_toArray, List.length_cons, List.length_nil, Nat.reduceAdd, Nat.reduceSub, Array.replicate_succ, Array.replicate_zero, List.push_toArray, List.append_toArray, List.nil_append, List.cons_append]
    gi_wp2_with (refine ⟨trivial, ?_⟩; gi_at_call 16; refine (callsIn_wide.2 HR.out).mono ?_; rintro e w1 ⟨rfl, hb1⟩; have HS1 := Lib.hid (HS0.out.under HJd.out hb1))
    refine bodyPost_ret (results_none rfl _ _ _) rfl ?_
    exact .all HAll.out.symm HS1.out.1

/-- The chunks, for a loop's body that keeps the bitmap. -/
theorem chunks_seq (n : Nat) (hn : 1 ≤ n) (Bl : Nat) (x : Option Addr) (len cap : Nat) (r : List Ch) (hk : OkCs r) (hm : len ≤ 9223372036854775807) (w : World) (bl : Blk w Bl 24 #[.slice x len cap]) (hr : Chs w.heap.size w (.slice x len cap) r) :
    SeqB Fence.wide n Tryd.prog 36 #[.pointer (some ⟨Bl, 0, none⟩)] chEnc (NextC r) (KpC Bl x len) (fun ys => ys = allC r) (fun pre => ∃ k, RightZ r ∧ k < r.length ∧ pre = r.take (k + 1)) w := fun l J Jx W hW hY h0 hJd =>
  chunks1_in n hn l Bl x len cap r hk hm J Jx hY W (bl.under hW) (hr.under hW) h0 hJd
theorem allC_len_le {r : List Ch} : (allC r).length ≤ 256 := by
  unfold allC
  split
  · rename_i h; exact h.1
  · exact Nat.zero_le _
theorem nextC_le {r pre : List Ch} {c : Ch} (h : NextC r pre c) : (valsR pre).length ≤ 65536 := by
  obtain ⟨h1, k, hk, rfl, _⟩ := h
  have h2 := valsR_le (r.take k)
  have h3 := h1.1
  rw [List.length_take] at h2
  omega
theorem nextC_ok {r pre : List Ch} {c : Ch} (h : NextC r pre c) (ho : OkCs r) : OkCh c := by
  obtain ⟨_, k, hk, _, rfl⟩ := h
  exact ho.get hk
theorem valsR_all (r : List Ch) : valsR (allC r) = valsZ r := by
  unfold allC
  by_cases h : RightZ r
  · rw [if_pos h, valsR_right h]
  · rw [if_neg h, valsZ_bad h]; rfl
/-- A chunk's box, held in a round. -/
def BoxC (g : Nat) (c : Ch) (W : World) : Prop := Blk W g 48 #[.int .i64 c.1, .int .i64 c.2.1, .string ⟨c.2.2.toArray⟩]
theorem boxC_own (B g : Nat) (c : Ch) : OwnFrom B (fun (_ : Unit) W => BoxC g c W) := Own.from (blk_own g _ (fun _ => #[.int .i64 c.1, .int .i64 c.2.1, .string ⟨c.2.2.toArray⟩])) _
theorem BoxC.cells {g : Nat} {c : Ch} {W : World} (h : BoxC g c W) : W.cell? ⟨g, 0, none⟩ = some (.int .i64 c.1) ∧ W.cell? ⟨g, 1, none⟩ = some (.int .i64 c.2.1) ∧ W.cell? ⟨g, 2, none⟩ = some (.string ⟨c.2.2.toArray⟩) := ⟨h.cell 0, h.cell 1, h.cell 2⟩

theorem nextC_mem {r pre : List Ch} {c : Ch} (h : NextC r pre c) : c ∈ r := by
  obtain ⟨_, k, hk, _, rfl⟩ := h
  rw [getD_get hk]; exact List.getElem_mem hk
end Go.Proofs.YtbfchlfagdhglaaDoor
/- A region that draws its order, within a round of a loop over a function: as without the round, where no operation is a defer statement. -/
namespace Go.Proofs.YtbfchlfagdhglaaDoor
open Go

def noDefer (o : Oper) : Bool := match o.op with | .defer _ => false | _ => true
theorem noDefer_spec {o : Oper} (h : noDefer o = true) : ∀ c, o.op ≠ .defer c := fun c e => by
  unfold noDefer at h
  rw [e] at h
  cases h
theorem uponIn_round {F : Fence} {n : Nat} {P : Program} {o : Oper} {a : Act} {K : Act → World → Prop} {Q : Exit → Act → World → Prop} (l : Nat) {r : Result Next} (h : Oper.uponIn F n P o a K Q r) : Oper.uponIn (F.inRound l) n P o a K Q r := by
  cases r with
  | ok x w => cases x <;> exact h
  | halt x w => cases x <;> exact h
theorem operIn_round {F : Fence} {n : Nat} {P : Program} {o : Oper} {a : Act} {w : World} {K : Act → World → Prop} {Q : Exit → Act → World → Prop} (l : Nat) (hd : noDefer o = true) (hro : F.round = none) (h : Oper.wpIn F n P o a w K Q) : Oper.wpIn (F.inRound l) n P o a w K Q := by
  unfold Oper.wpIn at h ⊢
  refine ⟨h.1, ?_⟩
  have h2 := h.2
  rw [hro, Oper.semAt_none] at h2
  rw [Oper.semAt_plain (F.inRound l) _ _ (noDefer_spec hd)]
  exact uponIn_round l h2
theorem opsIn_round {F : Fence} {n : Nat} {P : Program} {ops : Array Oper} {Q : Exit → Act → World → Prop} (l : Nat) (hd : ops.all noDefer = true) (hro : F.round = none) : ∀ (is : List Nat) (a : Act) (w : World), wpOpsIn F n P ops Q is a w → wpOpsIn (F.inRound l) n P ops Q is a w := by
  intro is
  induction is with
  | nil => intro a w h; simpa [wpOpsIn] using h
  | cons i is ih =>
    intro a w h
    rw [wpOpsIn_cons] at h ⊢
    refine wpOpIn_mono (fun a w => ih a w) ?_
    unfold wpOpIn at h ⊢
    cases ho : ops[i]? with
    | none => rw [ho] at h; exact h
    | some o =>
      rw [ho] at h
      have hdo : noDefer o = true := by
        obtain ⟨hi, rfl⟩ := Array.getElem?_eq_some_iff.1 ho
        exact (Array.all_eq_true.1 hd) i hi
      simp only at h ⊢
      split
      · rename_i hw
        rw [if_pos hw] at h
        exact operIn_round l hdo hro h
      · rename_i hw
        rw [if_neg hw] at h
        exact h
/-- The order drawn: as outside the round. -/
theorem wpIn_region_round {F : Fence} {n : Nat} {P : Program} {ops : Array Oper} {Q : Exit → Act → World → Prop} {l id : Nat} {a : Act} {w : World} (hro : F.round = none) (hd : ops.all noDefer = true) (hm : P.follows .mixedOrders = true)
    (h : wpAnyIn F n P .any ops Q ops.size (Array.replicate ops.size false) a w.drew) : (Code.region id ops true).wpIn (F.inRound l) n P Q a w :=
  wpIn_region_draw fun t => by
    simp only [Region.schedule, hm, Bool.true_or, if_true]
    exact opsIn_round l hd hro _ _ _ (wpAnyIn_sound ops.size t _ a _ h)
end Go.Proofs.YtbfchlfagdhglaaDoor
/- A region that draws its order, within a round of a loop over a function, under the wide fence: by what is known outside every fence. -/
namespace Go.Proofs.YtbfchlfagdhglaaDoor
open Go

theorem rowsIn_of {n : Nat} {P : Program} {row : String} {args : Array Value} {w : World} {R : Value → World → Prop} (h : Rows P row args w R) : RowsIn Fence.wide n P row args w R :=
  fun c cs _ => let ⟨v, w', r, s⟩ := h c cs; ⟨v, w', r, stepsIn_wide.2 s⟩
theorem uponIn_of {n : Nat} {P : Program} {o : Oper} {a : Act} {K : Act → World → Prop} {Q : Exit → Act → World → Prop} {r : Result Next} (h : Oper.upon P o a K Q r) : Oper.uponIn Fence.wide n P o a K Q r := by
  cases r with
  | ok x w =>
    cases x with
    | enter f args => exact ⟨(fun k => by cases k), callsIn_wide.2 h⟩
    | row row args => exact ⟨(fun k => by cases k), rowsIn_of h⟩
    | round l f tmps assign body => exact h.elim
    | _ => exact h
  | halt x w => cases x <;> exact h
theorem operIn_of {n : Nat} {P : Program} {o : Oper} {a : Act} {w : World} {K : Act → World → Prop} {Q : Exit → Act → World → Prop} (h : Oper.wp P o a w K Q) : Oper.wpIn Fence.wide n P o a w K Q :=
  ⟨fun _ _ => trivial, by
    show Oper.uponIn Fence.wide n P o a K Q ((o.semAt none a.eval).run P w)
    rw [Oper.semAt_none]
    exact uponIn_of h⟩
theorem opsIn_of {n : Nat} {P : Program} {ops : Array Oper} {Q : Exit → Act → World → Prop} (hL : ¬ LetsOut Q) : ∀ (is : List Nat) (a : Act) (w : World), wpOps P ops Q is a w → wpOpsIn Fence.wide n P ops Q is a w := by
  intro is
  induction is with
  | nil => intro a w h; exact h
  | cons i is ih =>
    intro a w h
    unfold wpOps at h
    unfold wpOpsIn
    cases ho : ops[i]? with
    | none => rw [ho] at h; exact ih a w h
    | some o =>
      rw [ho] at h
      simp only at h ⊢
      split
      · rename_i hw
        rw [if_pos hw] at h
        rcases h with h | h
        · exact operIn_of (Oper.wp_mono (fun a w => ih a w) h)
        · exact absurd h.2 hL
      · rename_i hw
        rw [if_neg hw] at h
        exact ⟨fun _ _ => trivial, ih _ _ h⟩
/-- The order drawn, S held behind each operation: within a round. -/
theorem wpIn_region_roundH {n : Nat} {P : Program} {ops : Array Oper} {Q : Exit → Act → World → Prop} {S : World → Prop} {l id : Nat} {a : Act} {w : World} (hd : ops.all noDefer = true) (hm : P.follows .mixedOrders = true) (hL : ¬ LetsOut Q) (hS : S w.drew)
    (h : S w.drew → wpAnyH P .any ops Q S ops.size (Array.replicate ops.size false) a w.drew) : (Code.region id ops true).wpIn (Fence.wide.inRound l) n P Q a w :=
  wpIn_region_draw fun t => by
    simp only [Region.schedule, hm, Bool.true_or, if_true]
    exact opsIn_round l hd rfl _ _ _ (opsIn_of hL _ _ _ (wpAny_sound ops.size t _ a _ (wpAny_of_held _ _ _ _ (h hS))))
end Go.Proofs.YtbfchlfagdhglaaDoor
/- A region that draws its order, whose last operation waits for all others (a store): what is loaded ahead of it is loaded first, for the cells hold what they held till then; within a round of a loop over a function, and outside. -/
namespace Go.Proofs.YtbfchlfagdhglaaDoor
open Go Go.RowKit

section
variable {P : Program} {ops : Array Oper} {Q : Exit → Act → World → Prop} {md : Region.Mode} {S : World → Prop}

/-- Operation m waits for every other one. -/
def lastB (md : Region.Mode) (ops : Array Oper) (m : Nat) : Bool :=
  (List.range ops.size).all fun j => j == m || ((ops[m]?).map fun o => o.after.any fun e => e.on == j && Region.binds md e).getD false
theorem lastB_spec {m : Nat} (h : lastB md ops m = true) {listed : Array Bool} (hm : m ∈ Region.ready md ops listed) {j : Nat} (hj : j < ops.size) (hne : j ≠ m) : listed.getD j false = true := by
  unfold lastB at h
  rw [List.all_eq_true] at h
  have h1 := h j (List.mem_range.2 hj)
  obtain ⟨_, o, ho, hall⟩ := mem_ready.1 hm
  rw [ho] at h1
  simp only [Option.map_some, Option.getD_some, Bool.or_eq_true, beq_iff_eq, hne, false_or, Array.any_eq_true] at h1
  obtain ⟨i, hi, h2⟩ := h1
  simp only [Bool.and_eq_true, beq_iff_eq] at h2
  have := hall o.after[i] (Array.getElem_mem hi) h2.2
  rwa [h2.1] at this
/-- Whatever order is picked, S holds behind every operation but the last. -/
def wpAnyM (P : Program) (md : Region.Mode) (ops : Array Oper) (Q : Exit → Act → World → Prop) (S : World → Prop) (m : Nat) : Nat → Array Bool → Act → World → Prop
  | 0, listed, a, w => Region.ready md ops listed = [] ∧ Q .normal a w
  | fuel + 1, listed, a, w =>
    (Region.ready md ops listed = [] → Q .normal a w) ∧
    ∀ i ∈ Region.ready md ops listed, wpOp P ops Q i (fun a' w' => (i ≠ m → S w') ∧ wpAnyM P md ops Q S m fuel (listed.setIfInBounds i true) a' w') a w
theorem wpAny_of_M {m : Nat} : ∀ (fuel : Nat) (listed : Array Bool) (a : Act) (w : World), wpAnyM P md ops Q S m fuel listed a w → wpAny P md ops Q fuel listed a w
  | 0, _, _, _, h => h
  | fuel + 1, _, _, _, h => ⟨h.1, fun i hi => wpOp_mono (fun a' w' h' => wpAny_of_M fuel _ a' w' h'.2) (h.2 i hi)⟩
theorem wpAnyM_first {m : Nat} (hlast : lastB md ops m = true) {i : Nat} (him : i ≠ m) {oi : Oper} {v : Value} (hi : ops[i]? = some oi) (hsel : ∀ (j : Nat) (o : Oper) cs b, ops[j]? = some o → o.op ≠ .select cs b)
    (hQ : ∀ c a w, Q (.panic c) (a.put oi.dst v) w → Q (.panic c) a w) :
    ∀ (fuel : Nat) (listed : Array Bool) (a : Act) (w : World),
      (∀ j oj, ops[j]? = some oj → j ≠ i → listed.getD j true = false → (∀ e ∈ oj.after, Region.binds md e = true → e.on ≠ i) → oi.apart ops oj = true) →
      i ∈ Region.ready md ops listed → YieldsIf P ops S oi v a → S w →
      wpAnyM P md ops Q S m fuel (listed.setIfInBounds i true) (a.put oi.dst v) w → wpAnyM P md ops Q S m (fuel + 1) listed a w := by
  intro fuel
  induction fuel with
  | zero =>
    intro listed a w _ hr hy hS H
    refine ⟨fun h => (by rw [h] at hr; cases hr), fun j hj => ?_⟩
    by_cases hji : j = i
    · subst hji; exact hy.wpOp hi hS ⟨fun _ => hS, H⟩
    · have := ready_mono hj hji
      rw [H.1] at this
      cases this
  | succ fuel ih =>
    intro listed a w hfree hr hy hS H
    refine ⟨fun h => (by rw [h] at hr; cases hr), fun j hj => ?_⟩
    by_cases hji : j = i
    · subst hji; exact hy.wpOp hi hS ⟨fun _ => hS, H⟩
    · have hjm : j ≠ m := fun e => by
        subst e
        have h1 := lastB_spec hlast hj (Array.getElem?_eq_some_iff.1 hi).1 him
        have h0 := (mem_ready.1 hr).1
        rcases Nat.lt_or_ge i listed.size with h' | h'
        · simp [h'] at h0 h1; rw [h0] at h1; cases h1
        · simp [Array.getElem?_eq_none h'] at h1
      have h1 := H.2 j (ready_mono hj hji)
      obtain ⟨hjun, oj, hoj, hall⟩ := mem_ready.1 hj
      have hnot : ∀ e ∈ oj.after, Region.binds md e = true → e.on ≠ i := fun e he hb heq => by
        have h1 := hall e he hb
        have h0 := (mem_ready.1 hr).1
        rw [heq] at h1
        rcases Nat.lt_or_ge i listed.size with h' | h'
        · simp [h'] at h0 h1; rw [h0] at h1; cases h1
        · simp [Array.getElem?_eq_none h'] at h1
      have h2 := wpOp_putIf hoj (hfree j oj hoj hji hjun hnot) (fun cs b => hsel i oi cs b hi) (fun cs b => hsel j oj cs b hoj) hQ hy h1
      have hfree' : ∀ k ok, ops[k]? = some ok → k ≠ i → (listed.setIfInBounds j true).getD k true = false →
          (∀ e ∈ ok.after, Region.binds md e = true → e.on ≠ i) → oi.apart ops ok = true := fun k ok hk hki hun hno => by
        refine hfree k ok hk hki ?_ hno
        by_cases hjk : j = k
        · subst hjk; exact hjun
        · rw [getD_set_ne true hjk] at hun; exact hun
      refine wpOp_mono (fun a' w' h3 => ⟨fun _ => h3.2.1 hjm, ih (listed.setIfInBounds j true) a' w' hfree' (ready_mono hr (Ne.symm hji)) h3.1 (h3.2.1 hjm) ?_⟩) h2
      rw [Array.setIfInBounds_comm _ _ hji]
      exact h3.2.2
/-- Number i first: it yields v in every world that meets S. -/
theorem wpAnyM_take {m : Nat} (hlast : lastB md ops m = true) {i : Nat} (him : i ≠ m) {oi : Oper} {v : Value} {fuel : Nat} {listed : Array Bool} {a : Act} {w : World} (hi : ops[i]? = some oi)
    (hs : Region.noSelect ops = true) (hf : Region.free md ops listed i = true) (hr : (Region.ready md ops listed).contains i = true)
    (hQ : ∀ c a w, Q (.panic c) (a.put oi.dst v) w → Q (.panic c) a w) (hy : YieldsIf P ops S oi v a) (hS : S w)
    (h : wpAnyM P md ops Q S m fuel (listed.setIfInBounds i true) (a.put oi.dst v) w) : wpAnyM P md ops Q S m (fuel + 1) listed a w :=
  wpAnyM_first hlast him hi (Region.noSelect_spec hs) hQ fuel listed a w (Region.free_spec hi hf) (by simpa using hr) hy hS h
/-- Number i alone may come up. -/
theorem wpAnyM_one {m i : Nat} (him : i ≠ m) {o : Oper} {fuel : Nat} {listed : Array Bool} {a : Act} {w : World} (hr : Region.ready md ops listed = [i]) (ho : ops[i]? = some o)
    (h : ∀ K' : Act → World → Prop, Hid (∀ a w, S w → (S w → wpAnyM P md ops Q S m fuel (listed.setIfInBounds i true) a w) → K' a w) → if Region.wanted o (yielded ops a.tmps) = true then Oper.wp P o a w K' Q else K' (a.put o.dst undef) w) :
    wpAnyM P md ops Q S m (fuel + 1) listed a w :=
  ⟨fun h0 => (by rw [hr] at h0; cases h0), fun j hj => by
    rw [hr, List.mem_singleton] at hj
    subst hj
    exact wpOp_step ho (fun K' hK => h K' (Lib.hid fun a w hS hW => hK a w ⟨fun _ => hS, hW hS⟩))⟩
theorem wpAnyM_done {m : Nat} {listed : Array Bool} {a : Act} {w : World} (hr : Region.ready md ops listed = []) (h : Q .normal a w) :
    ∀ fuel, wpAnyM P md ops Q S m fuel listed a w
  | 0 => ⟨hr, h⟩
  | _ + 1 => ⟨fun _ => h, by rw [hr]; simp⟩
/-- The last one. -/
theorem wpAnyM_last {m : Nat} {o : Oper} {fuel : Nat} {listed : Array Bool} {a : Act} {w : World} (hr : Region.ready md ops listed = [m]) (ho : ops[m]? = some o) (hr2 : Region.ready md ops (listed.setIfInBounds m true) = [])
    (h : ∀ K' : Act → World → Prop, Hid (∀ a w, Q .normal a w → K' a w) → if Region.wanted o (yielded ops a.tmps) = true then Oper.wp P o a w K' Q else K' (a.put o.dst undef) w) :
    wpAnyM P md ops Q S m (fuel + 1) listed a w :=
  ⟨fun h0 => (by rw [hr] at h0; cases h0), fun j hj => by
    rw [hr, List.mem_singleton] at hj
    subst hj
    exact wpOp_step ho (fun K' hK => h K' (Lib.hid fun a w hq => hK a w ⟨fun h => absurd rfl h, wpAnyM_done hr2 hq _⟩))⟩
theorem wp_region_M {m id : Nat} {a : Act} {w : World} (hm : P.follows .mixedOrders = true) (hS : S w.drew)
    (h : S w.drew → wpAnyM P .any ops Q S m ops.size (Array.replicate ops.size false) a w.drew) : (Code.region id ops true).wp P Q a w :=
  wp_region_any hm (wpAny_of_M _ _ _ _ (h hS))
theorem wpIn_region_roundM {n m l id : Nat} {a : Act} {w : World} (hd : ops.all noDefer = true) (hm : P.follows .mixedOrders = true) (hL : ¬ LetsOut Q) (hS : S w.drew)
    (h : S w.drew → wpAnyM P .any ops Q S m ops.size (Array.replicate ops.size false) a w.drew) : (Code.region id ops true).wpIn (Fence.wide.inRound l) n P Q a w :=
  wpIn_region_draw fun t => by
    simp only [Region.schedule, hm, Bool.true_or, if_true]
    exact opsIn_round l hd rfl _ _ _ (opsIn_of hL _ _ _ (wpAny_sound ops.size t _ a _ (wpAny_of_M _ _ _ _ (h hS))))
end
end Go.Proofs.YtbfchlfagdhglaaDoor
