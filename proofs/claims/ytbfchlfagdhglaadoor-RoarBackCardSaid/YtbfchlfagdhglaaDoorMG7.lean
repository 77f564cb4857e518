import Derived.RangeFuncNested
import Derived.RangeFuncBound
import Derived.RangeFuncCalls
import Derived.RangeFuncLeaves
import Derived.RangeFuncBox
import Derived.Shelf.Abstract
import Derived.OwnWalkIn
import Derived.TacticsInMore
import Derived.LoopNIn
import Derived.LoopIn
import Derived.Test.YtbfchlfagdhglaaDoorMG6
import Derived.RegionIn
import Derived.Test.YtbfchlfagdhglaaDoorMG2
import Derived.Test.YtbfchlfagdhglaaDoorMG3
/- A loop over a function whose iterator hands over a known element each time: the body may lean on which one comes next (E pre x: x comes when pre has come); the iterator may draw. -/
namespace Go.Proofs.YtbfchlfagdhglaaDoor
open Go Go.RowKit

/-- The contract of such an iterator. -/
def SeqD {α : Type} (F : Fence) (n : Nat) (P : Program) (g : Nat) (lb : Array Value) (encs : α → Array Value) (E : List α → α → Prop) (Kp : World → World → Prop) (S Sp : List α → Prop) (w : World) : Prop :=
  ∀ (l : Nat) (J Jx : List α → World → Prop) (W : World), Below w.heap.size w W →
    (∀ pre x W1, J pre W1 → E pre x → YieldAt F (n - 1) P l (encs x) W1 fun e W' =>
      (e = .returned (.bool true) ∧ J (pre ++ [x]) W' ∧ Kp W1 W') ∨ (e = .returned (.bool false) ∧ Jx (pre ++ [x]) W')) →
    J [] W → (∀ pre W1, J pre W1 → J pre W1.drew) →
    CallsIn F n P g (#[.func (.yield l) #[] #[]] ++ lb) W fun e W' => (∃ v, e = .returned v) ∧ ((∃ xs, S xs ∧ J xs W') ∨ (∃ pre, Sp pre ∧ Jx pre W'))

variable {F : Fence} {n : Nat} {P : Program}

/-- The law of the loop. -/
theorem wpIn_rangeFunc_nextD {α : Type} {g : Operand} {ps : Array Tmp} {assign body : Code} {Q : Exit → Act → World → Prop} {a : Act} {w : World}
    (hro : F.round = none) (h1 : 1 ≤ n) {gf : Nat} {lb : Array Value} (hg : a.eval g = .func (.func gf) #[] lb) (hFg : F.fn gf) (eg : ∀ args w, (callFunc gf args).run P w = .ok (.enter gf args) w)
    {encs : α → Array Value} {E : List α → α → Prop} {Kp : World → World → Prop} {S Sp : List α → Prop} (hseq : SeqD F (n - 1) P gf lb encs E Kp S Sp w)
    (hKt : ∀ {A B C : World}, Kp A B → Kp B C → Kp A C) (hKb : ∀ (W : World) (l : Nat) (o : Obj), w.heap.size ≤ l → Kp W (W.putObj l o)) (hps : ∀ x, (encs x).size = ps.size)
    (I : List α → World → Prop) (Ix : Code → List α → World → Prop) (hI : OwnFrom w.heap.size I) (hIx : ∀ c, OwnFrom w.heap.size (Ix c)) (h0 : I [] w) (a₁ : α → Act)
    (hassign : ∀ (l : Nat) (x : α) (W : World) (K : Act → World → Prop), K (a₁ x) W →
      assign.wpIn (F.inRound l) (n - 1 - 1) P (Exit.then K (fun _ _ _ => False)) { tmps := (ps.zip (encs x)).foldl (fun t (p, v) => t.setIfInBounds p v) a.tmps, defers := [] } W)
    (hbody : ∀ (l : Nat) (pre : List α) (x : α) (W : World), I pre W → E pre x → body.wpIn (F.inRound l) (n - 1 - 1) P (ownPostK Kp I Ix (pre ++ [x]) W) (a₁ x) W)
    (hdone : ∀ (D : Nat) (xs : List α) (W : World), w.heap.size ≤ D → S xs → I xs W → W.heap[D]? = some (.deferred (some [])) → Q .normal { a with defers := { target := .collected D, args := #[] } :: a.defers } W)
    (hstop : ∀ (D : Nat) (c : Code) (pre : List α) (W : World), w.heap.size ≤ D → Sp pre → Ix c pre W → W.heap[D]? = some (.deferred (some [])) → c.wpIn F n P Q { a with defers := { target := .collected D, args := #[] } :: a.defers } W) :
    (Code.rangeFunc g ps assign body).wpIn F n P Q a w := by
  refine wpIn_rangeFunc fun fn hfn => ?_
  rw [hro]
  -- the two blocks of the loop's book-keeping: D for the deferred calls, L for the record
  obtain ⟨D, hD⟩ : ∃ D, w.heap.size = D := ⟨_, rfl⟩
  obtain ⟨rec, hrec⟩ : ∃ rec : LoopState → Option Code → Loop, rec = fun st pe => { state := st, pending := pe, fn, tmps := a.tmps, params := ps, assign, body, defers := D } := ⟨_, rfl⟩
  obtain ⟨W1, hW1⟩ : ∃ W1, (w.alloc (.deferred (some []))).alloc (.loop (rec .ready none)) = W1 := ⟨_, rfl⟩
  have book1 : W1.heap[D + 1]? = some (.loop (rec .ready none)) ∧ W1.heap[D]? = some (.deferred (some [])) := by
    subst hW1; subst hD
    refine ⟨?_, (Below.heap_alloc _ _ _ (by simp)).trans (World.alloc_heap_new w _)⟩
    have h := World.alloc_heap_new (w.alloc (.deferred (some []))) (.loop (rec .ready none))
    rwa [World.size_alloc] at h
  have hI1 : I [] W1 := by rw [← hW1]; exact hI.alloc _ (hI.alloc _ h0)
  have hb1 : Below w.heap.size w W1 := by rw [← hW1]; exact ((Below.refl _ w).alloc (Nat.le_refl _) _).alloc (by simp) _
  have enter := run_enterLoop_outer (P := P) (w := w) fn a.tmps ps assign body
  rw [hD] at enter
  -- turns of the record leave all else
  have turn : ∀ (W : World) (st : LoopState) (pe : Option Code) (o : Obj), W.heap[D + 1]? = some o → o.isCells = false → W.heap[D]? = some (.deferred (some [])) →
      (W.putObj (D + 1) (.loop (rec st pe))).heap[D + 1]? = some (.loop (rec st pe)) ∧ (W.putObj (D + 1) (.loop (rec st pe))).heap[D]? = some (.deferred (some [])) := fun W st pe o ho _ hk =>
    ⟨World.putObj_heap_same (Array.getElem?_eq_some_iff.1 ho).1, (World.putObj_heap_other (by omega)).trans hk⟩
  refine ⟨D + 1, [{ target := .collected D, args := #[] }], W1, { target := .fn (.func gf) lb, args := #[.func (.yield (D + 1)) #[] #[]] }, W1, gf, #[.func (.yield (D + 1)) #[] #[]] ++ lb, W1, ?_, ?_, ?_, ?_, fun _ => h1, ?_⟩
  · rw [← hW1, hrec]; exact enter
  · simp only [resolve, hg]
    simp [go_sem]
  · intro f' hf'; simp [Target.leads] at hf'; subst hf'; exact hFg
  · simp [invoke, go_sem, eg]
  refine (hseq (D + 1) (fun pre W => I pre W ∧ W.heap[D + 1]? = some (.loop (rec .ready none)) ∧ W.heap[D]? = some (.deferred (some [])))
    (fun pre W => ∃ c, Ix c pre W ∧ W.heap[D + 1]? = some (.loop (rec .done (some c))) ∧ W.heap[D]? = some (.deferred (some []))) W1 hb1 ?_ ⟨hI1, book1⟩ (fun pre W h => ⟨hI _ _ _ none h.1 ⟨rfl, rfl, rfl, Nat.le_refl _, fun _ _ _ => rfl⟩ (fun r e => by cases e), h.2⟩)).mono ?_
  · -- one round
    rintro pre x W ⟨hi, hl, hk⟩ hlen
    have hy := run_yield (P := P) (args := encs x) hl (by rw [hrec]; exact hps x)
    rw [hrec] at hy
    refine ⟨fn, _, assign, body, hy, roundIn_of_wpIn hfn (hassign _ x W _ ⟨_, run_beginRound hl (by rw [hrec]), ?_⟩)⟩
    have e2 : ({ rec .ready none with state := .busy } : Loop) = rec .busy none := by rw [hrec]
    rw [e2]
    obtain ⟨hl2, hk2⟩ := turn W .busy none _ hl rfl hk
    have hw2 : Kp W (W.putObj (D + 1) (.loop (rec .busy none))) := hKb _ _ _ (by omega)
    refine wpIn_mono (hbody _ pre x _ (hI.putObj _ hi (by omega) hl rfl) hlen) ?_
    -- the round's end
    have fin : ∀ (jump : Option Code) (W3 : World), KeepsOthers (W.putObj (D + 1) (.loop (rec .busy none))) W3 →
        (Instr.endRound (D + 1) jump).run P W3 = .ok (.bool jump.isNone) (W3.putObj (D + 1) (.loop (rec (if jump.isNone then .ready else .done) jump))) ∧
        W3.heap[D + 1]? = some (.loop (rec .busy none)) ∧ W3.heap[D]? = some (.deferred (some [])) := fun jump W3 hk3 => by
      have hl3 := hk3.same _ _ hl2 rfl
      have h := run_endRound (P := P) jump hl3
      have e3 : ({ rec .busy none with state := if jump.isNone then .ready else .done, pending := jump } : Loop) = rec (if jump.isNone then .ready else .done) jump := by rw [hrec]
      rw [e3] at h
      exact ⟨h, hl3, hk3.same _ _ hk2 rfl⟩
    have left : ∀ (c : Code) (W3 : World), KeepsOthers (W.putObj (D + 1) (.loop (rec .busy none))) W3 → Ix c (pre ++ [x]) W3 →
        ∃ c', Ix c' (pre ++ [x]) (W3.putObj (D + 1) (.loop (rec .done (some c)))) ∧ (W3.putObj (D + 1) (.loop (rec .done (some c)))).heap[D + 1]? = some (.loop (rec .done (some c'))) ∧ (W3.putObj (D + 1) (.loop (rec .done (some c)))).heap[D]? = some (.deferred (some [])) := fun c W3 hk3 hx => by
      obtain ⟨_, hl3, hd3⟩ := fin (some c) W3 hk3
      exact ⟨c, (hIx c).putObj _ hx (by omega) hl3 rfl, turn W3 .done (some c) _ hl3 rfl hd3⟩
    rintro e a3 W3 hp
    cases e with
    | normal =>
      obtain ⟨hk3, hkp3, hi3⟩ := hp
      obtain ⟨hr, hl3, hd3⟩ := fin none W3 hk3
      exact ⟨_, _, hr, .inl ⟨rfl, ⟨hI.putObj _ hi3 (by omega) hl3 rfl, turn W3 .ready none _ hl3 rfl hd3⟩, hKt (hKt hw2 hkp3) (hKb _ _ _ (by omega))⟩⟩
    | ret => exact ⟨_, _, (fin (some .ret) W3 hp.1).1, .inr ⟨rfl, left .ret W3 hp.1 hp.2⟩⟩
    | exit id => exact ⟨_, _, (fin (some (.exit id)) W3 hp.1).1, .inr ⟨rfl, left (.exit id) W3 hp.1 hp.2⟩⟩
    | goto t => exact ⟨_, _, (fin (some (.goto t)) W3 hp.1).1, .inr ⟨rfl, left (.goto t) W3 hp.1 hp.2⟩⟩
    | panic ch => exact hp.elim
    | outgrown => exact hp.elim
  · -- behind the iterator
    have stop : ∀ (st : LoopState) (pe : Option Code) (W2 : World), st ≠ .busy → W2.heap[D + 1]? = some (.loop (rec st pe)) → (Instr.endLoop (D + 1)).run P W2 = .ok pe (W2.putObj (D + 1) (.loop (rec .exhausted pe))) := fun st pe W2 hb hl => by
      have h := run_endLoop (P := P) hl (by rw [hrec]; exact hb)
      rw [hrec] at h ⊢
      exact h
    rintro e W2 ⟨⟨v, rfl⟩, (⟨xs, hS, hi, hl, hk⟩ | ⟨pre, hSp, c, hi, hl, hk⟩)⟩
    · exact ⟨none, _, stop _ _ _ (by simp) hl, hdone D xs _ (by omega) hS (hI.putObj _ hi (by omega) hl rfl) (turn W2 _ _ _ hl rfl hk).2⟩
    · exact ⟨some c, _, stop _ _ _ (by simp) hl, hstop D c pre _ (by omega) hSp ((hIx c).putObj _ hi (by omega) hl rfl) (turn W2 _ _ _ hl rfl hk).2⟩
end Go.Proofs.YtbfchlfagdhglaaDoor
/- (*set).count; (*set).numbers: the numbers of a set, rising, for every loop's body that keeps the set. -/
namespace Go.Proofs.YtbfchlfagdhglaaDoor
open Go.RowKit
attribute [local go_sem] Oper.semAt_some

theorem and8 (a b : Nat) (ha : a < 256) (hb : b < 256) : bits .and .u8 (a : Int) (b : Int) = ((a &&& b : Nat) : Int) := by
  show IntKind.u8.wrap ((BitVec.ofInt 8 a &&& BitVec.ofInt 8 b).toNat : Int) = _
  rw [BitVec.toNat_and, BitVec.toNat_ofInt, BitVec.toNat_ofInt]
  rw [show ((a : Int) % ((2 ^ 8 : Nat) : Int)).toNat = a by omega, show ((b : Int) % ((2 ^ 8 : Nat) : Int)).toNat = b by omega]
  have := Nat.and_lt_two_pow (n := 8) a hb
  simp [IntKind.wrap, IntKind.bits, IntKind.signed]
  omega

/-- What an iterator leaves; hidden from the walk. -/
def SeqPost {α : Type} (S Sp : List α → Prop) (J Jx : List α → World → Prop) (e : Ending) (W' : World) : Prop := (∃ v, e = .returned v) ∧ ((∃ ys, S ys ∧ J ys W') ∨ (∃ pre, Sp pre ∧ Jx pre W'))
theorem SeqPost.all {α : Type} {S Sp : List α → Prop} {J Jx : List α → World → Prop} {v : Value} {W' : World} {ys : List α} (h : S ys) (hj : J ys W') : SeqPost S Sp J Jx (.returned v) W' := ⟨⟨_, rfl⟩, .inl ⟨ys, h, hj⟩⟩
theorem SeqPost.stop {α : Type} {S Sp : List α → Prop} {J Jx : List α → World → Prop} {v : Value} {W' : World} {ys : List α} (h : Sp ys) (hj : Jx ys W') : SeqPost S Sp J Jx (.returned v) W' := ⟨⟨_, rfl⟩, .inr ⟨ys, h, hj⟩⟩
/-- Two blocks lie as they lay. -/
def Keeps2 (Ba Bb : Nat) (W W' : World) : Prop := W'.heap[Ba]? = W.heap[Ba]? ∧ W'.heap[Bb]? = W.heap[Bb]?
theorem keeps2_t {Ba Bb : Nat} {A B C : World} (h : Keeps2 Ba Bb A B) (k : Keeps2 Ba Bb B C) : Keeps2 Ba Bb A C := ⟨k.1.trans h.1, k.2.trans h.2⟩
theorem keeps2_b {Ba Bb B : Nat} (ha : Ba < B) (hb : Bb < B) (W : World) (l : Nat) (o : Obj) (hl : B ≤ l) : Keeps2 Ba Bb W (W.putObj l o) :=
  ⟨World.putObj_heap_other (by omega), World.putObj_heap_other (by omega)⟩
theorem keeps2_set {Ba Bb : Nat} (W : World) (p : Addr) (v : Value) (ha : Ba ≠ p.block) (hb : Bb ≠ p.block) : Keeps2 Ba Bb W (W.setCell p v) :=
  ⟨Below.heap_setCell W p v Ba ha, Below.heap_setCell W p v Bb hb⟩
theorem keeps2_below {Ba Bb B : Nat} {W W' : World} (h : Below B W W') (ha : Ba < B) (hb : Bb < B) : Keeps2 Ba Bb W W' := ⟨h.block _ ha, h.block _ hb⟩

theorem blk_own {β : Type} (g : Nat) (t : TypeId) (f : β → Array Value) : Own (fun s W => Blk W g t (f s)) := fun s X Y row hs hg hr =>
  (hg.block g hs.lt (fun e => by
    obtain ⟨o, ho, hc⟩ := hr g e.symm
    rw [show X.heap[g]? = _ from hs] at ho; cases ho; cases hc)).trans hs
/-- A box of another type than a slice's elements, over an append to the slice and the store into the slice's box. -/
theorem keep_box {W w1 : World} {n₀ Bl C k : Nat} {t e : TypeId} {u v v' : Value} {xs : List Value} {tmp : Obj} (hb : Blk W Bl t #[u]) (hte : t ≠ e) (hrow : W.ownsRow n₀ e 1 v k xs) (hgrow : (W.alloc tmp).grownBy w1 v.ownBlock) (hne : Bl ≠ C) : (w1.setCell ⟨C, 0, none⟩ v').heap[Bl]? = W.heap[Bl]? :=
  (Below.heap_setCell _ _ _ _ hne).trans ((hgrow.block Bl (hb.alloc tmp).lt (fun e2 => Boxed.not_row (show Boxed W Bl t u from hb) hte hrow e2)).trans (Below.heap_alloc W tmp Bl hb.lt))

theorem keep_cell {W w1 : World} {n₀ Bl C k : Nat} {t e : TypeId} {u v : Value} {xs : List Value} {tmp : Obj} (hb : Blk W Bl t #[u]) (hte : t ≠ e) (hrow : W.ownsRow n₀ e 1 v k xs) (hgrow : (W.alloc tmp).grownBy w1 v.ownBlock) (hne : Bl ≠ C) (v' : Value) : (w1.setCell ⟨C, 0, none⟩ v').cell? ⟨Bl, 0, none⟩ = some u ∧ (w1.setCell ⟨C, 0, none⟩ v').frozen? ⟨Bl, 0, none⟩ = false := by
  have h : Blk (w1.setCell ⟨C, 0, none⟩ v') Bl t #[u] := (keep_box hb hte hrow hgrow hne).trans hb
  exact ⟨h.cell 0, h.frozen 0⟩

theorem numbers_any (p : Option Addr) (w : World) :
    Calls Tryd.prog 39 #[.pointer p] w fun e w' => e = .returned (.func (.func 53) #[] #[.pointer (some ⟨w.heap.size, 0, none⟩)]) ∧ w' = w.alloc (.cells #[.pointer p] 106) := by
  go_enter Tryd.func39, Tryd.ntmps39
  go_wp2
  go_ret
  exact ⟨rfl, rfl⟩

/-- What comes next: the next number. -/
def NextS (s : Bs) (pre : List Nat) (x : Nat) : Prop := x < 256 ∧ s x = true ∧ pre = valsTo s x
/-- The state between two numbers. -/
def NumSt (Bl B : Nat) (s : Bs) (J : List Nat → World → Prop) (p : Nat) (wr : World) : Prop := J (valsTo s p) wr ∧ Blk wr Bl 106 #[.pointer (some ⟨B, 0, none⟩)] ∧ Blk wr B 83 (scl s)

set_option maxRecDepth 100000 in
set_option maxHeartbeats 4000000 in
theorem numbers1_in (n : Nat) (hn : 1 ≤ n) (l Bl B : Nat) (s : Bs) (J Jx : List Nat → World → Prop)
    (hY : ∀ pre x W, J pre W → NextS s pre x → YieldAt Fence.wide (n - 1) Tryd.prog l #[.int .i64 (x : Nat)] W fun e W' =>
      (e = .returned (.bool true) ∧ J (pre ++ [x]) W' ∧ Keeps2 Bl B W W') ∨ (e = .returned (.bool false) ∧ Jx (pre ++ [x]) W'))
    (W : World) (bl : Blk W Bl 106 #[.pointer (some ⟨B, 0, none⟩)]) (bB : Blk W B 83 (scl s)) (h0 : J [] W) (hJd : ∀ pre W1, J pre W1 → J pre W1.drew) :
    CallsIn Fence.wide n Tryd.prog 53 #[.func (.yield l) #[] #[], .pointer (some ⟨Bl, 0, none⟩)] W (SeqPost (fun ys => ys = vals s) (fun pre => ∃ x, x < 256 ∧ s x = true ∧ pre = valsTo s (x + 1)) J Jx) := by
  have c0 := bl.cell 0
  dsimp at c0
  have HS0 : Hid (NumSt Bl B s J (8 * 0) W) := Lib.hid ⟨h0, bl, bB⟩
  have HY := Lib.hid hY
  clear bl bB h0 hY
  refine callsIn_of_wp Tryd.func53 rfl trivial ?_ rfl
  simp only [Tryd.ntmps53, List.size_toArray, List.length_cons, List.length_nil, Nat.reduceAdd, Nat.reduceSub, Array.replicate_succ, Array.replicate_zero, List.push_toArray, List.append_toArray, List.nil_append, List.cons_append]
  gi_wp2
  gi_loopw [6] (fun i wr => ∃ k : Nat, k ≤ 32 ∧ i = .int .i64 k ∧ NumSt Bl B s J (8 * k) wr)
    (fun i _ => 32 - (intOf i).toNat)
  case atStart => exact ⟨0, Nat.zero_le _, rfl, HS0.out⟩
  case round =>
    obtain ⟨k, hk, rfl, hS⟩ := hrel
    by_cases hlt : k < 32
    · have hlt' : (k : Int) < 32 := by omega
      have d0 := hS.2.2.cell k
      rw [scl_get hlt] at d0
      have HS := Lib.hid hS
      clear hS
      have hbs := byteS_start s k hlt
      have hbl := byteS_lt s 256 k
      obtain ⟨d, hd⟩ : ∃ d, d = byteS s 256 k := ⟨_, rfl⟩
      rw [← hd] at d0 hbs hbl
      have HD : Hid (d = byteS (fromS s (8 * k)) 256 k) := Lib.hid hbs.symm
      clear hd hbs
      gi_wp2
      gi_region
      all_goals
        have HSd : Hid (NumSt Bl B s J (8 * k) wr.drew) := Lib.hid ⟨hJd _ _ HS.out.1, HS.out.2.1, HS.out.2.2⟩
        clear HS
        gi_wp2
        gi_loopw [4] (fun i wi => ∃ p d : Nat, 8 * k ≤ p ∧ p ≤ 8 * k + 8 ∧ d < 256 ∧ i = .int .u8 d ∧ Hid (d = byteS (fromS s p) 256 k) ∧ NumSt Bl B s J p wi)
          (fun i _ => (intOf i).toNat)
        case atStart => exact ⟨8 * k, d, Nat.le_refl _, by omega, hbl, rfl, HD, HSd.out⟩
        case round =>
          obtain ⟨p, d, hp1, hp2, hd, rfl, HDp, hSi⟩ := hrel
          by_cases hd0 : d = 0
          · have HN : Hid (NumSt Bl B s J (8 * (k + 1)) wr) := Lib.hid ⟨by
              rw [valsTo_skip (s := s) (p := p) (x := 8 * (k + 1)) (by omega) (fun n h1 h2 => byteS_none hlt hp1 (by rw [← HDp.out, hd0]) n h1 h2)]
              exact hSi.1, hSi.2.1, hSi.2.2⟩
            clear hSi HDp
            have hd0' : ((d : Int) == 0) = true := by rw [hd0]; rfl
            gi_wp2
            refine ⟨⟨k + 1, by omega, by simp, HN.out⟩, by simp [intOf]; omega⟩
          · obtain ⟨g1, g2, g3, g4, g5⟩ := byteS_next (s := s) hlt hp1 (by rw [← HDp.out]; exact hd0)
            rw [← HDp.out] at g1 g2 g3 g4 g5
            have hx : 8 * k + tz d < 256 := by omega
            have hpre : valsTo s (8 * k + tz d) = valsTo s p := valsTo_skip g2 g4
            have hsucc : valsTo s (8 * k + tz d + 1) = valsTo s p ++ [8 * k + tz d] := by rw [valsTo_succ, if_pos g3, hpre]
            obtain ⟨fn, tmps, assign, body, hy, hR⟩ := HY.out (valsTo s p) (8 * k + tz d) wr hSi.1 ⟨hx, g3, hpre.symm⟩
            have HT := Lib.hid (tz_any d hd wr)
            have hand := and8 d (d - 1) hd (by omega)
            have hlt2 : d &&& (d - 1) < d := Nat.lt_of_le_of_lt Nat.and_le_right (by omega)
            have HG5 := Lib.hid g5
            have HX : Hid (tz d < 8 ∧ 8 * k ≤ 8 * k + tz d + 1) := Lib.hid ⟨g1, by omega⟩
            have HSucc := Lib.hid hsucc
            have HSi := Lib.hid hSi
            have HG3 := Lib.hid g3
            have hdc : ((d - 1 : Nat) : Int) = (d : Int) - 1 := by omega
            have hd0' : ((d : Int) == 0) = false := by simpa using hd0
            have h255 : ((d : Int) - 1) % 256 = (d : Int) - 1 := by omega
            rw [hdc] at hand
            rw [show ((8 * k + tz d : Nat) : Int) = 8 * (k : Int) + (tz d : Nat) by omega] at hy
            clear g5 hsucc hpre g4 hSi g3 HDp
            generalize htz : tz d = t at *
            generalize d &&& (d - 1) = d2 at *
            clear htz hdc
            gi_wp2_with (refine ⟨trivial, ?_⟩; gi_at_call 54; refine (callsIn_wide.2 HT.out).mono ?_; rintro e w' ⟨rfl, rfl⟩)
            refine hR.mono ?_
            rintro e W3 (⟨rfl, hJ3, hk3⟩ | ⟨rfl, hJx3⟩)
            · gi_wp2
              go_roundw
              case rel => exact ⟨8 * k + t + 1, d2, HX.out.2, by omega, by omega, rfl, HG5, by rw [HSucc.out]; exact hJ3, hk3.1.trans HSi.out.2.1, hk3.2.trans HSi.out.2.2⟩
              case measure => simp [intOf]; omega
            · gi_wp2
              refine bodyPost_ret (results_none rfl _ _ _) rfl ?_
              exact .stop ⟨8 * k + t, hx, HG3.out, HSucc.out.symm⟩ hJx3
    · have hge : ¬ (k : Int) < 32 := by omega
      have HE : Hid (J (vals s) wr) := Lib.hid (by obtain rfl : k = 32 := by omega
                                                   exact hS.1)
      clear hS
      gi_wp2
      all_goals
        go_end0
        exact .all rfl HE.out

/-- The numbers, for a loop's body that keeps the set and the box that its address was boxed in. -/
theorem numbers_seq (n : Nat) (hn : 1 ≤ n) (Bl B : Nat) (s : Bs) (w : World) (bl : Blk w Bl 106 #[.pointer (some ⟨B, 0, none⟩)]) (bB : Blk w B 83 (scl s)) :
    SeqD Fence.wide n Tryd.prog 53 #[.pointer (some ⟨Bl, 0, none⟩)] (fun x : Nat => #[.int .i64 (x : Nat)]) (NextS s) (Keeps2 Bl B) (fun ys => ys = vals s) (fun pre => ∃ x, x < 256 ∧ s x = true ∧ pre = valsTo s (x + 1)) w := fun l J Jx W hW hY h0 hJd =>
  numbers1_in n hn l Bl B s J Jx hY W (bl.under hW) (bB.under hW) h0 hJd

set_option maxRecDepth 100000 in
set_option maxHeartbeats 2000000 in
theorem count_any (B : Nat) (s : Bs) (w : World) (bB : Blk w B 83 (scl s)) :
    Calls Tryd.prog 38 #[.pointer (some ⟨B, 0, none⟩)] w fun e w' => e = .returned (.int .i64 ((vals s).length : Nat)) ∧ Below w.heap.size w w' := by
  have HB := Lib.hid bB
  clear bB
  go_enter Tryd.func38, Tryd.ntmps38
  go_wp2
  go_loopw [3, 7] (fun c i wr => ∃ k : Nat, k ≤ 32 ∧ i = .int .i64 k ∧ c = .int .i64 ((valsTo s (8 * k)).length : Nat) ∧ wr = w)
    (fun _ i _ => 32 - (intOf i).toNat)
  case atStart => exact ⟨0, Nat.zero_le _, rfl, rfl, rfl⟩
  case round =>
    obtain ⟨k, hk, rfl, rfl, rfl⟩ := hrel
    by_cases hlt : k < 32
    · have hlt' : (k : Int) < 32 := by omega
      have d0 := HB.out.cell k
      rw [scl_get hlt] at d0
      have HV := Lib.hid (valsTo_eight s k hlt)
      have hle := valsTo_le s (8 * k)
      have hbl := byteS_lt s 256 k
      have HO := Lib.hid (ones_any (byteS s 256 k) hbl wr)
      have ho := ones_le ⟨byteS s 256 k, hbl⟩
      simp only at ho
      generalize byteS s 256 k = b at *
      generalize ones b = o at *
      generalize (valsTo s (8 * k)).length = c at *
      go_wp2_with (go_at_call 52; refine HO.out.mono ?_; rintro e w' ⟨rfl, rfl⟩)
      go_roundw
      case rel => exact ⟨k + 1, by omega, by simp, by rw [HV.out]; simp, trivial⟩
      case measure => simp [intOf]; omega
    · obtain rfl : k = 32 := by omega
      have hge : ¬ ((32 : Nat) : Int) < 32 := by omega
      go_wp2
      go_ret
      exact ⟨rfl, Below.refl _ _⟩
end Go.Proofs.YtbfchlfagdhglaaDoor
/- The return of a set. -/
namespace Go.Proofs.YtbfchlfagdhglaaDoor
open Go.RowKit
section
variable {fn : Func} {t u : Tmp} {Q : Ending → World → Prop} {a : Act} {w : World} {g : Nat}
/-- The return of a set, and whether it is one. -/
theorem ret_set2 {s : Bs} (h : fn.results = #[.cell t 83, .tmp u]) (hp : a.tmps.getD t undef = .pointer (some ⟨g, 0, none⟩)) (hb : Blk w g 83 (scl s)) (hd : a.defers = []) (hQ : Q (.returned (.tuple #[.agg (scl s), a.tmps.getD u undef])) w) : bodyPost Tryd.prog fn Q .ret a w :=
  bodyPost_ret (results_cell2 h hp (ldv_set hb)) hd hQ
end
end Go.Proofs.YtbfchlfagdhglaaDoor
/- (*set).asArray. -/
namespace Go.Proofs.YtbfchlfagdhglaaDoor
open Go.RowKit
attribute [local go_sem] Oper.semAt_some

set_option maxRecDepth 100000 in
set_option maxHeartbeats 4000000 in
theorem asArray_any (B : Nat) (s : Bs) (w : World) (bB : Blk w B 83 (scl s)) :
    Calls Tryd.prog 60 #[.pointer (some ⟨B, 0, none⟩)] w fun e w' => ∃ v, e = .returned v ∧ w'.ownsRow w.heap.size 5 1 v (arrTo s 256).length (byteVs (arrTo s 256)) ∧ Below w.heap.size w w' := by
  obtain ⟨i0, hi, hz0, hz1, hz2⟩ := info_parts info_u8
  have HInf := Lib.hid hi; have HZ0 := Lib.hid hz0; have HZ1 := Lib.hid hz1; have HZ2 := Lib.hid hz2
  clear hi hz0 hz1 hz2
  have hbl0 := Blk.new (w.alloc (.cells #[.slice none 0 0] 42)) 106 #[.pointer (some ⟨B, 0, none⟩)]
  have hbx0 := (Boxed.new w 42 (.slice none 0 0)).alloc (.cells #[.pointer (some ⟨B, 0, none⟩)] 106)
  have hB0 : Below w.heap.size w ((w.alloc (.cells #[.slice none 0 0] 42)).alloc (.cells #[.pointer (some ⟨B, 0, none⟩)] 106)) := ((Below.refl _ w).alloc (Nat.le_refl _) _).alloc (by simp) _
  have hsz0 : ((w.alloc (.cells #[.slice none 0 0] 42)).alloc (.cells #[.pointer (some ⟨B, 0, none⟩)] 106)).heap.size = w.heap.size + 1 + 1 := by simp
  have hrow0 := World.ownsRow_nil ((w.alloc (.cells #[.slice none 0 0] 42)).alloc (.cells #[.pointer (some ⟨B, 0, none⟩)] 106)) w.heap.size 5 1
  rw [World.size_alloc] at hbl0
  have bB0 := bB.under hB0
  have hBlt := bB.lt
  refine (callsIn_wide (n := 4)).1 ?_
  refine callsIn_of_wp_marks Tryd.func60 rfl trivial ?_ rfl
  simp only [Tryd.ntmps60, List.size_toArray, List.length_cons, List.length_nil, Nat.reduceAdd, Nat.reduceSub, Array.replicate_succ, Array.replicate_zero, List.push_toArray, List.append_toArray, List.nil_append, List.cons_append]
  rw [wpIn_wide]
  go_wp2_with (go_at_call 39; refine (numbers_any _ _).mono ?_; rintro e w' ⟨rfl, rfl⟩)
  generalize ((w.alloc (.cells #[.slice none 0 0] 42)).alloc (.cells #[.pointer (some ⟨B, 0, none⟩)] 106)) = W0 at *
  refine (wpIn_wide (n := 4)).1 ?_
  refine wpIn_rangeFunc_nextD (n := 4) rfl (by decide) (gf := 53) (lb := #[.pointer (some ⟨w.heap.size + 1, 0, none⟩)]) rfl trivial (enters_of Tryd.func53 (by kernel_rfl) rfl)
    (numbers_seq 3 (by decide) (w.heap.size + 1) B s W0 hbl0 bB0) keeps2_t (fun W l o hl => keeps2_b (B := W0.heap.size) (by omega) (by omega) W l o hl) (fun _ => rfl)
    (fun pre W => ((∃ v, Boxed W w.heap.size 42 v ∧ W.ownsRow w.heap.size 5 1 v pre.length (byteVs (pre.map UInt8.ofNat)) ∧ True) ∧ Blk W (w.heap.size + 1) 106 #[.pointer (some ⟨B, 0, none⟩)]) ∧ Below w.heap.size w W)
    (fun _ _ _ => False)
    (OwnFrom.and (OwnFrom.and (Own.from (holdsRow_own w.heap.size w.heap.size 42 5 1 (fun (pre : List Nat) => pre.length) (fun pre => byteVs (pre.map UInt8.ofNat)) (fun _ _ => True)) _) (Own.from (blk_own _ _ (fun _ => #[.pointer (some ⟨B, 0, none⟩)])) _)) (ownFrom_below (Nat.le_refl _) (by omega)))
    (fun _ _ _ _ _ hs _ _ => hs)
    ⟨⟨⟨_, hbx0, by simpa [byteVs] using hrow0, trivial⟩, hbl0⟩, hB0⟩
    (fun x => { tmps := #[.pointer (some ⟨B, 0, none⟩), undef, .slice none 0 0, .pointer (some ⟨w.heap.size, 0, none⟩), .int .i64 (x : Nat), .pointer (some ⟨B, 0, none⟩), .func (.func 53) #[] #[.pointer (some ⟨w.heap.size + 1, 0, none⟩)], .int .i64 (x : Nat), undef, undef, undef, undef, undef, undef], defers := [] }) ?assign ?body ?done ?stop
  case assign =>
    intro l x W K hK
    gi_wp2
    exact hK
  case body =>
    rintro l pre x W ⟨⟨⟨v, hv, hrow, _⟩, hbl⟩, hB⟩ ⟨hx, hsx, hpre⟩
    have hc := hv.cell
    have hlp : pre.length ≤ 256 := by rw [hpre]; exact Nat.le_trans (valsTo_le s x) (by omega)
    have HB := Lib.hid hB
    have HBl := Lib.hid hbl
    have e8 : (x : Int) % 256 = x := by omega
    have HT : Hid (byteVs ((pre ++ [x]).map UInt8.ofNat) = byteVs (pre.map UInt8.ofNat) ++ [Value.int .u8 (x : Nat)] ∧ (pre ++ [x]).length = pre.length + 1) := Lib.hid ⟨by
      rw [List.map_append, byteVs_append]
      show _ ++ [Value.int .u8 ((UInt8.ofNat x).toNat : Int)] = _
      rw [ofNat_toNat x (by omega)], by simp⟩
    clear hpre hsx hB hbl
    gi_wp2_with (gi_at_builtin; refine wpListIn_append_own _ rfl _ _ 42 rfl w.heap.size 5 i0 (.int .u8 0) 1 1 Tryd.underlying42 HInf.out HZ0.out HZ1.out HZ2.out rfl (by decide) _ _ _ rfl (hrow.alloc _) ⟨W.heap.size, 0, none⟩ 1 1 [.int .u8 x] rfl rfl (cell_one_new _ _ _) (by simp [Value.oneCell']) (by unfold maxLen; omega) (by omega) (by have := HB.out.size; simp; omega) ?_; intro v' w1 hown' hgrow _; obtain ⟨g', cap', rfl⟩ := ownsRow_succ hown'; obtain ⟨hv1, hv2, hr2, hk2, hb2⟩ := hv.appended (by decide) hrow HB.out.size (Nat.le_refl _) hown' hgrow; have hc1 := hv1.cell; have hf1 := hv1.frozen)
    have hbl2 := keep_box (C := w.heap.size) (v' := .slice (some ⟨g', 0, none⟩) (pre.length + 1) cap') HBl.out (by decide) hrow hgrow (by omega)
    refine ⟨hk2, ⟨hbl2, hb2.block B hBlt⟩, ⟨⟨⟨_, hv2, ?_, trivial⟩, hbl2.trans HBl.out⟩, HB.out.trans hb2⟩⟩
    rw [HT.out.1, HT.out.2]; exact hr2
  case done =>
    rintro D ys W hD rfl ⟨⟨⟨v, hv, hrow, _⟩, hbl⟩, hB⟩ hK
    have hc := hv.cell
    rw [show byteVs ((vals s).map UInt8.ofNat) = byteVs (arrTo s 256) from rfl, show (vals s).length = (arrTo s 256).length from (arrTo_length s 256).symm] at hrow
    have HN : Hid (∃ v', Ending.returned v = .returned v' ∧ (W.putObj D (.deferred none)).ownsRow w.heap.size 5 1 v' (arrTo s 256).length (byteVs (arrTo s 256)) ∧ Below w.heap.size w (W.putObj D (.deferred none))) := Lib.hid ⟨v, rfl, ownsRow_putObj hrow _ hK rfl, hB.grown (grownBy_putObj' W D _) hB.size (fun k e => by cases e; omega)⟩
    clear hbl hB hv hrow
    go_wp2
    try rw [Exit.noGoto_ret]
    exact ⟨by simp, .inl ⟨_, _, rfl, run_takeDeferred hK, _, results_tmp (t := 2) rfl _ _ _, HN.out⟩⟩
  case stop =>
    rintro D cd pre W hD hSp h hK
    exact h.elim
end Go.Proofs.YtbfchlfagdhglaaDoor
