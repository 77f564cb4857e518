/- wide.Sum: the sum of all numbers. -/
import Derived.Test.YtalhaceclfeohaaWIter
namespace Go.Proofs.Ytalhaceclfeohaa
open Go.RowKit
attribute [local go_sem] Oper.semAt_some

def sumL : List Int → Int := List.foldl (fun s v => s + v) 0
theorem sumL_snoc (pre : List Int) (x : Int) : sumL (pre ++ [x]) = sumL pre + x := by simp [sumL]

/-- 'Block g is just these cells' speaks of cells alone. -/
theorem blk_own {β : Type} (B : Nat) (t : TypeId) (f : β → Array Value) : Own (fun s W => Blk W B t (f s)) := fun s X Y row hs hg hrow => by
  have hlt := Blk.lt hs
  refine (hg.block B hlt (fun e => ?_)).trans hs
  obtain ⟨o, ho, hc⟩ := hrow B e.symm
  rw [show X.heap[B]? = _ from hs] at ho
  cases ho
  cases hc

set_option maxRecDepth 100000 in
set_option maxHeartbeats 2000000 in
theorem sum_any (a : Option Addr) (len cap : Nat) (zs : List Int) (hz : In64 zs) (hreach : zs.length * 8 ≤ 140737488351232) (w : World) (hI : Ints w.heap.size w (.slice a len cap) zs) :
    Calls Try.prog 26 #[.slice a len cap] w (RetW (sumL zs) w) := by
  refine (callsIn_wide (n := 4)).1 ?_
  refine callsIn_of_wp_marks Try.func26 rfl trivial ?_ rfl
  simp only [Try.ntmps26, List.size_toArray, List.length_cons, List.length_nil, Nat.reduceAdd, Nat.reduceSub, Array.replicate_succ, Array.replicate_zero, List.push_toArray, List.append_toArray, List.nil_append, List.cons_append]
  gi_wp2_with (refine ⟨trivial, ?_⟩; gi_at_call 33; refine (callsIn_wide.2 (each_any _ _ _ _)).mono ?_; rintro e w' ⟨rfl, rfl⟩)
  have b1 := ((Blk.new w 24 #[.int .i64 0, .int .u64 0]).alloc (.cells #[.int .i64 0, .int .u64 0] 24)).alloc (.cells #[.slice a len cap] 37)
  have b2 := (Blk.new (w.alloc (.cells #[.int .i64 0, .int .u64 0] 24)) 24 #[.int .i64 0, .int .u64 0]).alloc (.cells #[.slice a len cap] 37)
  have b3 := Blk.new ((w.alloc (.cells #[.int .i64 0, .int .u64 0] 24)).alloc (.cells #[.int .i64 0, .int .u64 0] 24)) 37 #[.slice a len cap]
  simp only [World.size_alloc] at b2 b3
  have hB0 : Below w.heap.size w (((w.alloc (.cells #[.int .i64 0, .int .u64 0] 24)).alloc (.cells #[.int .i64 0, .int .u64 0] 24)).alloc (.cells #[.slice a len cap] 37)) := (((Below.refl _ w).alloc (Nat.le_refl _) _).alloc (by simp) _).alloc (by simp; omega) _
  have hsz : (((w.alloc (.cells #[.int .i64 0, .int .u64 0] 24)).alloc (.cells #[.int .i64 0, .int .u64 0] 24)).alloc (.cells #[.slice a len cap] 37)).heap.size = w.heap.size + 3 := by simp
  obtain ⟨W0, hW0⟩ : ∃ W0, ((w.alloc (.cells #[.int .i64 0, .int .u64 0] 24)).alloc (.cells #[.int .i64 0, .int .u64 0] 24)).alloc (.cells #[.slice a len cap] 37) = W0 := ⟨_, rfl⟩
  rw [hW0] at b1 b2 b3 hB0 hsz ⊢
  clear hW0
  refine wpIn_rangeFunc_ownH rfl (by decide) (gf := 36) (lb := #[.pointer (some ⟨w.heap.size + 1 + 1, 0, none⟩)]) rfl trivial (enters_of Try.func36 (by kernel_rfl) rfl)
    (each_stops 3 (by decide) (w.heap.size + 1 + 1) w.heap.size _ zs hz hreach W0 (by omega) (by omega) (b3.cell 0) (hI.below hB0)) belowK_t (belowK_b (by omega)) (Below.refl _ _) (fun _ => rfl)
    (fun pre W => (Blk W (w.heap.size + 1) 24 #[.int .i64 (wHi (sumL pre)), .int .u64 (wLo (sumL pre))] ∧ Blk W w.heap.size 24 #[.int .i64 0, .int .u64 0]) ∧ Below w.heap.size w W)
    (fun _ _ _ => False)
    (OwnFrom.and (OwnFrom.and (Own.from (blk_own _ _ (fun pre => #[.int .i64 (wHi (sumL pre)), .int .u64 (wLo (sumL pre))])) _) (Own.from (blk_own _ _ (fun _ => #[.int .i64 0, .int .u64 0])) _)) (ownFrom_below (Nat.le_refl _) (by omega)))
    (fun _ _ _ _ _ hs _ _ => hs)
    ⟨⟨b2, b1⟩, hB0⟩
    (fun x a' W => ∃ Bx, w.heap.size + 1 < Bx ∧ Blk W Bx 24 #[.int .i64 (wHi x), .int .u64 (wLo x)] ∧ a' = { tmps := #[.slice a len cap, undef, .pointer (some ⟨w.heap.size, 0, none⟩), .pointer (some ⟨w.heap.size + 1, 0, none⟩), .pointer (some ⟨Bx, 0, none⟩), .slice a len cap, .func (.func 36) #[] #[.pointer (some ⟨w.heap.size + 1 + 1, 0, none⟩)], (.agg #[.int .i64 (wHi (x)), .int .u64 (wLo (x))]), undef, undef, undef, undef], defers := [] })
    (fun x a' _ X Y row hs hg hr => by obtain ⟨Bx, h1, h2, h3⟩ := hs; exact ⟨Bx, h1, blk_own Bx _ (fun (_ : Unit) => #[.int .i64 (wHi x), .int .u64 (wLo x)]) () X Y row h2 hg (fun r e => (hr r e).2), h3⟩)
    ?assign ?body ?done ?stop
  case assign =>
    rintro l pre x W K ⟨⟨c1, c2⟩, hB1⟩ hK
    gi_wp2
    exact hK _ _ ((KeepsOthers.alloc _ _).from _) ((Below.refl _ W).alloc hB1.size _) ⟨⟨c1.alloc _, c2.alloc _⟩, hB1.alloc hB1.size _⟩ ⟨W.heap.size, c1.lt, Blk.new W _ _, rfl⟩
  case body =>
    rintro l pre x a' W hl ⟨r, hr⟩ ⟨⟨c1, c2⟩, hB1⟩ ⟨Bx, hBx, cX, rfl⟩ hlt
    have d0 := c1.cell 0; have d1 := c1.cell 1; have e0 := cX.cell 0; have e1 := cX.cell 1
    dsimp at d0 d1 e0 e1
    gi_wp2_with fail
    refine ⟨trivial, ?_⟩
    refine (CallsIn.inRound l (callsIn_wide.2 (add_any _ _ _))).mono ?_
    rintro e w1 ⟨rfl, hb⟩
    have k1 := c1.under hb
    have g0 := k1.cell 0; have g1 := k1.cell 1; have f0 := k1.frozen 0; have f1 := k1.frozen 1
    dsimp at g0 g1
    gi_wp2
    have hB2 := hb.mono hB1.size
    exact ⟨((keeps_of_below hb).trans ((KeepsOthers.setCell _ _ _).trans (KeepsOthers.setCell _ _ _))).from _,
      (hB2.setCell (p := ⟨w.heap.size + 1, 0, none⟩) (by simp) _).setCell (p := ⟨w.heap.size + 1, 1, none⟩) (by simp) _,
      ⟨by rw [sumL_snoc]; exact (k1.set_ 0 _).set_ 1 _, ((c2.under hb).far (by simp) _).far (by simp) _⟩,
      ((hB1.trans hB2).setCell (p := ⟨w.heap.size + 1, 0, none⟩) (by simp) _).setCell (p := ⟨w.heap.size + 1, 1, none⟩) (by simp) _⟩
  case done =>
    rintro D ys W hD rfl ⟨⟨c1, c2⟩, hB1⟩ hK
    have d0 := c1.cell 0; have d1 := c1.cell 1; have e0 := c2.cell 0; have e1 := c2.cell 1; have f0 := c2.frozen 0; have f1 := c2.frozen 1
    dsimp at d0 d1 e0 e1
    gi_wp2
    have q1 := ((c2.set_ 0 (.int .i64 (wHi (sumL ys)))).set_ 1 (.int .u64 (wLo (sumL ys))))
    have hB2 := (hB1.setCell (p := ⟨w.heap.size, 0, none⟩) (Nat.le_refl _) (.int .i64 (wHi (sumL ys)))).setCell (p := ⟨w.heap.size, 1, none⟩) (Nat.le_refl _) (.int .u64 (wLo (sumL ys)))
    have hK2 := (KeepsOthers.setCell (W.setCell ⟨w.heap.size, 0, none⟩ (.int .i64 (wHi (sumL ys)))) ⟨w.heap.size, 1, none⟩ (.int .u64 (wLo (sumL ys)))).same D _ ((KeepsOthers.setCell W ⟨w.heap.size, 0, none⟩ (.int .i64 (wHi (sumL ys)))).same D _ hK rfl) rfl
    refine ⟨by simp, .inl ⟨_, _, rfl, run_takeDeferred hK2, ?_⟩⟩
    have r0 := cell_kept (q1.cell 0) (grownBy_putObj' _ D (.deferred none)) (fun r e => by cases e; exact ⟨_, hK2, rfl⟩)
    have r1 := cell_kept (q1.cell 1) (grownBy_putObj' _ D (.deferred none)) (fun r e => by cases e; exact ⟨_, hK2, rfl⟩)
    simp only [List.setIfInBounds_toArray, List.set_cons_zero, List.set_cons_succ] at r0 r1
    refine ⟨(.agg #[.int .i64 (wHi (sumL ys)), .int .u64 (wLo (sumL ys))]), ?_, rfl, hB2.trans (belowK_b (w := w) (Nat.le_refl _) _ D _ _ (by omega) hK2 rfl rfl)⟩
    simp [results, Try.results26, go_sem, r0, r1]
  case stop =>
    rintro D c pre W _ _ h _
    exact h.elim
end Go.Proofs.Ytalhaceclfeohaa
