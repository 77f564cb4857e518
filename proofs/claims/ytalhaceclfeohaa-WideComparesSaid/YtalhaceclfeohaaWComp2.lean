/- wide.Compare, whole. -/
import Derived.Test.YtalhaceclfeohaaWComp
namespace Go.Proofs.Ytalhaceclfeohaa
open Go.RowKit
attribute [local go_sem] Oper.semAt_some

theorem keeps2_t {Ba Bb : Nat} {A B C : World} (h : Keeps2 Ba Bb A B) (k : Keeps2 Ba Bb B C) : Keeps2 Ba Bb A C := ⟨k.1.trans h.1, k.2.trans h.2⟩
theorem keeps2_b {Ba Bb B : Nat} (ha : Ba < B) (hb : Bb < B) (W : World) (l : Nat) (o o' : Obj) (hl : B ≤ l) (_ : W.heap[l]? = some o) (_ : o.isCells = false) (_ : o.isWalk = false) : Keeps2 Ba Bb W (W.putObj l o') :=
  ⟨World.putObj_heap_other (by omega), World.putObj_heap_other (by omega)⟩
theorem keeps2_set {Ba Bb : Nat} (W : World) (p : Addr) (v : Value) (ha : Ba ≠ p.block) (hb : Bb ≠ p.block) : Keeps2 Ba Bb W (W.setCell p v) :=
  ⟨Below.heap_setCell W p v Ba ha, Below.heap_setCell W p v Bb hb⟩

/-- None of them differ. -/
def AllEq (pre : List (Int × Int)) : Prop := ∀ p ∈ pre, p.1 = p.2
/-- The last one is the first that differs; block B holds its sign. -/
def StopsAt (B : Nat) (pre : List (Int × Int)) (W : World) : Prop := ∃ ini p, pre = ini ++ [p] ∧ (∀ q ∈ ini, q.1 = q.2) ∧ p.1 ≠ p.2 ∧ Blk W B 3 #[.int .i64 (sgn p)]

set_option maxRecDepth 100000 in
set_option maxHeartbeats 2000000 in
theorem compare_any (y z : Int) (w : World) : Calls Try.prog 18 #[(.agg #[.int .i64 (wHi (y)), .int .u64 (wLo (y))]), (.agg #[.int .i64 (wHi (z)), .int .u64 (wLo (z))])] w fun e w' => e = .returned (.int .i64 (cmpW y z)) ∧ Below w.heap.size w w' := by
  refine (callsIn_wide (n := 4)).1 ?_
  refine callsIn_of_wp_marks Try.func18 rfl trivial ?_ rfl
  simp only [Try.ntmps18, List.size_toArray, List.length_cons, List.length_nil, Nat.reduceAdd, Nat.reduceSub, Array.replicate_succ, Array.replicate_zero, List.push_toArray, List.append_toArray, List.nil_append, List.cons_append]
  rw [wpIn_wide]
  go_wp2
  go_step3
  go_wp2
  go_step3
  go_wp2_with (go_at_call 31; refine (halves_any _ _ _).mono ?_; rintro e w' ⟨rfl, rfl⟩)
  have bo := ((Blk.new ((w.alloc (.cells #[.int .i64 (wHi y), .int .u64 (wLo y)] 24)).alloc (.cells #[.int .i64 (wHi z), .int .u64 (wLo z)] 24)) 3 #[.int .i64 0]).alloc (.cells #[.int .i64 (wHi y), .int .u64 (wLo y)] 24)).alloc (.cells #[.int .i64 (wHi z), .int .u64 (wLo z)] 24)
  have ba := (Blk.new (((w.alloc (.cells #[.int .i64 (wHi y), .int .u64 (wLo y)] 24)).alloc (.cells #[.int .i64 (wHi z), .int .u64 (wLo z)] 24)).alloc (.cells #[.int .i64 0] 3)) 24 #[.int .i64 (wHi y), .int .u64 (wLo y)]).alloc (.cells #[.int .i64 (wHi z), .int .u64 (wLo z)] 24)
  have bb := Blk.new ((((w.alloc (.cells #[.int .i64 (wHi y), .int .u64 (wLo y)] 24)).alloc (.cells #[.int .i64 (wHi z), .int .u64 (wLo z)] 24)).alloc (.cells #[.int .i64 0] 3)).alloc (.cells #[.int .i64 (wHi y), .int .u64 (wLo y)] 24)) 24 #[.int .i64 (wHi z), .int .u64 (wLo z)]
  have hB0 : Below w.heap.size w (((((w.alloc (.cells #[.int .i64 (wHi y), .int .u64 (wLo y)] 24)).alloc (.cells #[.int .i64 (wHi z), .int .u64 (wLo z)] 24)).alloc (.cells #[.int .i64 0] 3)).alloc (.cells #[.int .i64 (wHi y), .int .u64 (wLo y)] 24)).alloc (.cells #[.int .i64 (wHi z), .int .u64 (wLo z)] 24)) := (((((Below.refl _ w).alloc (Nat.le_refl _) _).alloc (by simp) _).alloc (by simp; omega) _).alloc (by simp; omega) _).alloc (by simp; omega) _
  have hsz : (((((w.alloc (.cells #[.int .i64 (wHi y), .int .u64 (wLo y)] 24)).alloc (.cells #[.int .i64 (wHi z), .int .u64 (wLo z)] 24)).alloc (.cells #[.int .i64 0] 3)).alloc (.cells #[.int .i64 (wHi y), .int .u64 (wLo y)] 24)).alloc (.cells #[.int .i64 (wHi z), .int .u64 (wLo z)] 24)).heap.size = w.heap.size + 5 := by simp
  simp only [World.size_alloc] at bo ba bb
  generalize (((((w.alloc (.cells #[.int .i64 (wHi y), .int .u64 (wLo y)] 24)).alloc (.cells #[.int .i64 (wHi z), .int .u64 (wLo z)] 24)).alloc (.cells #[.int .i64 0] 3)).alloc (.cells #[.int .i64 (wHi y), .int .u64 (wLo y)] 24)).alloc (.cells #[.int .i64 (wHi z), .int .u64 (wLo z)] 24)) = W0 at *
  refine (wpIn_wide (n := 4)).1 ?_
  refine wpIn_rangeFunc_ownF (n := 4) rfl (by decide) (gf := 34) (lb := #[.pointer (some ⟨w.heap.size + 1 + 1 + 1, 0, none⟩), .pointer (some ⟨w.heap.size + 1 + 1 + 1 + 1, 0, none⟩)]) rfl trivial (enters_of Try.func34 (by kernel_rfl) rfl)
    (halves_stops 3 (by decide) _ _ y z W0 ba bb) keeps2_t (keeps2_b (by omega) (by omega)) (Below.refl _ _) (fun _ => rfl)
    (fun pre W => (Blk W (w.heap.size + 1 + 1) 3 #[.int .i64 0] ∧ AllEq pre) ∧ Below w.heap.size w W)
    (fun c pre W => (c = .exit 0 ∧ StopsAt (w.heap.size + 1 + 1) pre W) ∧ Below w.heap.size w W)
    (OwnFrom.and (OwnFrom.and (Own.from (blk_own _ _ (fun _ => #[.int .i64 0])) _) (ownFrom_pure _ _)) (ownFrom_below (Nat.le_refl _) (by omega)))
    (fun c => OwnFrom.and (Own.from (fun s A B row hs hg hr => by obtain ⟨hc, ini, p, e1, e2, e3, e4⟩ := hs; exact ⟨hc, ini, p, e1, e2, e3, blk_own _ _ (fun (_ : Unit) => #[.int .i64 (sgn p)]) () A B row e4 hg hr⟩) _) (ownFrom_below (Nat.le_refl _) (by omega)))
    ⟨⟨bo, fun p hp => by cases hp⟩, hB0⟩
    (fun x => { tmps := #[(.agg #[.int .i64 (wHi (y)), .int .u64 (wLo (y))]), (.agg #[.int .i64 (wHi (z)), .int .u64 (wLo (z))]), .pointer (some ⟨w.heap.size, 0, none⟩), .pointer (some ⟨w.heap.size + 1, 0, none⟩), .int .i64 0, .pointer (some ⟨w.heap.size + 1 + 1, 0, none⟩), .int .u64 x.1, .int .u64 x.2, (.agg #[.int .i64 (wHi (y)), .int .u64 (wLo (y))]), (.agg #[.int .i64 (wHi (z)), .int .u64 (wLo (z))]), .func (.func 34) #[] #[.pointer (some ⟨w.heap.size + 1 + 1 + 1, 0, none⟩), .pointer (some ⟨w.heap.size + 1 + 1 + 1 + 1, 0, none⟩)], .int .u64 x.1, .int .u64 x.2, undef, undef, undef, undef, undef, undef, undef, undef, undef], defers := [] }) ?assign ?body ?done ?stop
  case assign =>
    intro l x W K hK
    gi_wp2
    exact hK
  case body =>
    rintro l pre x W ⟨⟨b1, hp⟩, hB1⟩ _
    have c0 := b1.cell 0; have f0 := b1.frozen 0
    dsimp at c0
    by_cases h1 : x.1 < x.2
    · have hs : sgn x = -1 := if_pos h1
      have hne : x.1 ≠ x.2 := by omega
      gi_wp2
      refine ⟨KeepsOthers.setCell _ _ _, ⟨rfl, pre, x, rfl, hp, hne, ?_⟩, hB1.setCell (p := ⟨w.heap.size + 1 + 1, 0, none⟩) (by simp; omega) _⟩
      rw [hs]; exact b1.set_ 0 _
    · by_cases h2 : x.2 < x.1
      · have hs : sgn x = 1 := if_neg h1
        have hne : x.1 ≠ x.2 := by omega
        gi_wp2
        refine ⟨KeepsOthers.setCell _ _ _, ⟨rfl, pre, x, rfl, hp, hne, ?_⟩, hB1.setCell (p := ⟨w.heap.size + 1 + 1, 0, none⟩) (by simp; omega) _⟩
        rw [hs]; exact b1.set_ 0 _
      · gi_wp2
        refine ⟨KeepsOthers.refl _, ⟨rfl, rfl⟩, ⟨b1, ?_⟩, hB1⟩
        intro p hp'
        rcases List.mem_append.1 hp' with hp' | hp'
        · exact hp p hp'
        · rw [List.mem_singleton.1 hp']; omega
  case done =>
    rintro D ys W hD rfl ⟨⟨b1, hp⟩, hB1⟩ hK
    have H := Lib.hid (cmp_none hp)
    have c0 := b1.cell 0
    dsimp at c0
    clear hp
    go_wp2
    rw [Exit.noGoto_ret]
    refine ⟨by simp, .inl ⟨_, _, rfl, run_takeDeferred hK, ?_⟩⟩
    exact ⟨_, results_tmp rfl _ _ _, by rw [H.out]; rfl, hB1.trans (belowK_b (w := w) (Nat.le_refl _) W D _ _ (by omega) hK rfl rfl)⟩
  case stop =>
    rintro D c pre W hD hS ⟨⟨rfl, ini, p, e1, e2, e3, b1⟩, hB1⟩ hK
    have H : Hid (sgn p = cmpW y z) := Lib.hid (by
      rcases hS with hS | hS
      · rw [hS] at e1; exact cmp_one e1 e3
      · rw [hS] at e1; exact cmp_two e1 e2 e3)
    have c0 := b1.cell 0
    dsimp at c0
    clear hS e1 e2 e3
    refine (wpIn_wide (n := 4)).2 ?_
    go_wp2
    rw [Exit.noGoto_ret]
    refine ⟨by simp, .inl ⟨_, _, rfl, run_takeDeferred hK, ?_⟩⟩
    exact ⟨_, results_tmp rfl _ _ _, by rw [← H.out]; rfl, hB1.trans (belowK_b (w := w) (Nat.le_refl _) W D _ _ (by omega) hK rfl rfl)⟩
end Go.Proofs.Ytalhaceclfeohaa
