import Derived.Test.YtbfchlfagdhglaaDoorMG9
import Derived.Laws.MakeOwn
import Derived.Deep.Onto
/- cont.Make. -/
namespace Go.Proofs.YtbfchlfagdhglaaDoor
open Go.RowKit

set_option maxRecDepth 100000 in
set_option maxHeartbeats 1000000 in
theorem make_any (x : Option Addr) (len cap : Nat) (zs : List Int) (hlen : zs.length = len) (hcm : len ≤ 9223372036854775807) (hz64 : In64 zs) (w : World) (hI : Ints w.heap.size w (.slice x len cap) zs) :
    Calls Tryd.prog 35 #[.slice x len cap] w fun e w' => e = .returned (makeV zs) ∧ Below w.heap.size w w' := by
  have hz := zero_set
  have hss := scl_size
  have hB0 : Below w.heap.size w ((w.alloc (.cells #[.int .i64 0, .string ⟨#[]⟩] 46)).alloc (.cells (scl fun _ => false) 83)) := ((Below.refl _ w).alloc (Nat.le_refl _) _).alloc (by simp) _
  have bR : Blk ((w.alloc (.cells #[.int .i64 0, .string ⟨#[]⟩] 46)).alloc (.cells (scl fun _ => false) 83)) (w.heap.size) 46 #[.int .i64 0, .string ⟨#[]⟩] := (Blk.new w _ _).alloc _
  have bS : Blk ((w.alloc (.cells #[.int .i64 0, .string ⟨#[]⟩] 46)).alloc (.cells (scl fun _ => false) 83)) (w.heap.size + 1) 83 (scl fun _ => false) := by
    have := Blk.new (w.alloc (.cells #[.int .i64 0, .string ⟨#[]⟩] 46)) 83 (scl fun _ => false)
    rwa [World.size_alloc] at this
  have hIx : ∀ a, x = some a → 0 < len → a.block ≠ w.heap.size + 1 := fun a e hl => by
    subst e
    obtain ⟨b1, o1, e1, hb1, _⟩ := hI.at_ hl
    cases e1
    show b1 ≠ _
    omega
  have HP := Lib.hid (put_any (w.heap.size + 1) (fun _ => false) x len cap zs hlen hcm hz64 _ ((hI.below hB0).more hB0.size) hIx bS)
  have hbnd : ∀ z ∈ zs, goodZ z = true → True := fun _ _ _ => trivial
  clear bS hIx hI hz64 hlen hbnd
  go_enter Tryd.func35, Tryd.ntmps35
  go_wp2_with fail
  refine HP.out.mono ?_
  rintro e w1 ⟨hg, ⟨hgood, rfl, hb⟩ | ⟨hgood, rfl, t, hb, _, _⟩⟩
  · have hB1 : Below w.heap.size w w1 := hB0.trans (grown_below hg (by omega) hB0.size)
    have bR1 := bR.grown hg (by omega)
    rw [none_or] at hb
    have HA := Lib.hid (best_any (w.heap.size + 1) (ofL zs) w1 hb)
    have HV : Hid (makeV zs = .tuple #[.agg #[.int .i64 (bestF (ofL zs) : Nat), .string ⟨(bestD (ofL zs)).toArray⟩], .int .i64 0]) := Lib.hid (by unfold makeV; rw [if_pos hgood]; rfl)
    unfold contV at HA
    clear hg hgood hb bR
    generalize bestF (ofL zs) = q at *
    generalize bestD (ofL zs) = dq at *
    go_wp2_with fail
    refine HA.out.mono ?_
    rintro e w2 ⟨rfl, hb2⟩
    have hB2 := hB1.trans (hb2.mono hB1.size)
    have bR2 := bR1.under hb2
    have c0 := bR2.cell 0; have c1 := bR2.cell 1; have f0 := bR2.frozen 0; have f1 := bR2.frozen 1
    dsimp at c0 c1
    have hE := bR2.set2 (.int .i64 q) (.string ⟨dq.toArray⟩)
    have hB4 := (hB2.setCell (p := ⟨w.heap.size, 0, none⟩) (by simp) (.int .i64 q)).setCell (p := ⟨w.heap.size, 1, none⟩) (by simp) (.string ⟨dq.toArray⟩)
    clear bR1 bR2
    go_wp2
    exact ret_cont2 rfl rfl hE rfl ⟨by rw [HV.out]; rfl, hB4⟩
  · have hB1 : Below w.heap.size w w1 := hB0.trans (grown_below hg (by omega) hB0.size)
    have bR1 := bR.grown hg (by omega)
    have HV : Hid (makeV zs = .tuple #[.agg #[.int .i64 0, .string ⟨#[]⟩], .int .i64 60]) := Lib.hid (by unfold makeV; rw [if_neg hgood]; rfl)
    have c0 := bR1.cell 0; have c1 := bR1.cell 1; have f0 := bR1.frozen 0; have f1 := bR1.frozen 1
    dsimp at c0 c1
    have hE := bR1.set2 (.int .i64 0) (.string ⟨#[]⟩)
    have hB4 := (hB1.setCell (p := ⟨w.heap.size, 0, none⟩) (by simp) (.int .i64 0)).setCell (p := ⟨w.heap.size, 1, none⟩) (by simp) (.string ⟨#[]⟩)
    clear hg hgood hb bR bR1
    go_wp2
    exact ret_cont2 rfl rfl hE rfl ⟨by rw [HV.out]; rfl, hB4⟩

theorem setRow_new1 (w : World) (o : Obj) (t : TypeId) (a b : Array Value) : ((w.alloc o).alloc (.cells a t)).setRow (w.heap.size + 1) b = (w.alloc o).alloc (.cells b t) := by
  have := setRow_new (w.alloc o) t a b
  rwa [World.size_alloc] at this
theorem st_new1 (w : World) (o : Obj) (t : Bs) : (storeCells ⟨w.heap.size + 1, 0, none⟩ (scl t).toList).run Tryd.prog ((w.alloc o).alloc (.cells (scl fun _ => false) 83)) = .ok () ((w.alloc o).alloc (.cells (scl t) 83)) := by
  have := st_new (w.alloc o) t
  rwa [World.size_alloc] at this
end Go.Proofs.YtbfchlfagdhglaaDoor
/- roar.made, isEmpty. -/
namespace Go.Proofs.YtbfchlfagdhglaaDoor
open Go.RowKit

theorem size_chunk : (Tryd.prog.info? 48).map (·.size) = some 3 := by
  have h := info_chunk
  cases e : Tryd.prog.info? 48 with
  | none => rw [e] at h; cases h
  | some i =>
    rw [e] at h
    simp only [Option.map_some, Option.some.injEq, Prod.mk.injEq] at h ⊢
    exact h.2.1
theorem load_chunk {w : World} {g : Nat} {x y z : Value} (h : Blk w g 48 #[x, y, z]) : (loadVar 48 ⟨g, 0, none⟩).run Tryd.prog w = .ok (.agg #[x, y, z]) w := by
  have := run_loadVar_mid (P := Tryd.prog) w g 0 48 [x, y, z] _ (fun j v hv => by rw [Nat.zero_add, h.cell j]; simpa using hv) Tryd.underlying48 rfl (by rw [size_chunk]; simp)
  simpa using this
theorem ret_chunk {fn : Func} {t : Tmp} {Q : Ending → World → Prop} {a : Act} {w : World} {g : Nat} {x y z : Value} (h : fn.results = #[.cell t 48]) (hp : a.tmps.getD t undef = .pointer (some ⟨g, 0, none⟩)) (hb : Blk w g 48 #[x, y, z]) (hd : a.defers = []) (hQ : Q (.returned (.agg #[x, y, z])) w) : bodyPost Tryd.prog fn Q .ret a w :=
  bodyPost_ret (results_cell h hp (load_chunk hb)) hd hQ
theorem Blk.set3 {w : World} {g : Nat} {ty : TypeId} {a b c : Value} (h : Blk w g ty #[a, b, c]) (x y z : Value) : Blk (((w.setCell ⟨g, 0, none⟩ x).setCell ⟨g, 1, none⟩ y).setCell ⟨g, 2, none⟩ z) g ty #[x, y, z] := ((h.set_ 0 x).set_ 1 y).set_ 2 z

set_option maxRecDepth 100000 in
set_option maxHeartbeats 1000000 in
theorem made_any (key : Int) (x : Option Addr) (len cap : Nat) (zs : List Int) (hlen : zs.length = len) (hcm : len ≤ 9223372036854775807) (hz64 : In64 zs) (hg : AllGood zs) (w : World) (hI : Ints w.heap.size w (.slice x len cap) zs) :
    Calls Tryd.prog 24 #[.int .i64 key, .slice x len cap] w fun e w' => e = .returned (.agg #[.int .i64 key, .int .i64 (bestF (ofL zs) : Nat), .string ⟨(bestD (ofL zs)).toArray⟩]) ∧ Below w.heap.size w w' := by
  have hB0 : Below w.heap.size w (w.alloc (.cells #[.int .i64 0, .int .i64 0, .string ⟨#[]⟩] 48)) := (Below.refl _ w).alloc (Nat.le_refl _) _
  have bR := Blk.new w 48 #[.int .i64 0, .int .i64 0, .string ⟨#[]⟩]
  have HM := Lib.hid (make_any x len cap zs hlen hcm hz64 _ ((hI.below hB0).more hB0.size))
  rw [make_good hg] at HM
  clear hg hlen hz64 hI
  generalize bestF (ofL zs) = f at *
  generalize bestD (ofL zs) = d at *
  go_enter Tryd.func24, Tryd.ntmps24
  go_wp2_with fail
  refine HM.out.mono ?_
  rintro e w1 ⟨rfl, hb1⟩
  have hB1 := hB0.trans (hb1.mono hB0.size)
  have bR0 := bR.under hb1
  have hlt := bR0.lt
  have c0 := bR0.cell 0; have c1 := bR0.cell 1; have c2 := bR0.cell 2
  have f0 := bR0.frozen 0; have f1 := bR0.frozen 1; have f2 := bR0.frozen 2
  dsimp at c0 c1 c2
  have hE := (bR0.set3 (.int .i64 key) (.int .i64 f) (.string ⟨d.toArray⟩)).alloc (.cells #[.int .i64 f, .string ⟨d.toArray⟩] 46)
  have hB3 := (((hB1.setCell (p := ⟨w.heap.size, 0, none⟩) (by simp) (.int .i64 key)).setCell (p := ⟨w.heap.size, 1, none⟩) (by simp) (.int .i64 f)).setCell (p := ⟨w.heap.size, 2, none⟩) (by simp) (.string ⟨d.toArray⟩)).alloc (by have := hB1.size; simpa using this) (.cells #[.int .i64 f, .string ⟨d.toArray⟩] 46)
  clear bR bR0 hb1 hB1 HM
  go_wp2
  exact ret_chunk rfl rfl hE rfl ⟨rfl, hB3⟩

theorem own_under {W W2 : World} {base : Nat} {e : TypeId} {size : Nat} {v : Value} {n : Nat} {xs : List Value} (h : W.ownsRow base e size v n xs) (hb : Below W.heap.size W W2) : W2.ownsRow base e size v n xs := by
  refine ⟨h.1, h.2.imp id fun ⟨g, cap, cur, h1, h2, h3, h4⟩ => ⟨g, cap, cur, h1, h2, (hb.block g (Array.getElem?_eq_some_iff.1 h3).1).trans h3, h4⟩⟩
/-- A chunk's parts against those of the empty one. -/
theorem em_cases (c : Ch) : ¬ c.2.1 = 1 ∨ (c.2.1 = 1 ∧ ¬ c.2.2 = []) ∨ (c.2.1 = 1 ∧ c.2.2 = []) := by
  by_cases h1 : c.2.1 = 1
  · by_cases h2 : c.2.2 = []
    · exact .inr (.inr ⟨h1, h2⟩)
    · exact .inr (.inl ⟨h1, h2⟩)
  · exact .inl h1

/-- A chunk in a box, held over calls. -/
def ChB (w : World) (g : Nat) (k f : Int) (d : List UInt8) (W : World) : Prop := Blk W g 48 #[.int .i64 k, .int .i64 f, .string ⟨d.toArray⟩] ∧ Below w.heap.size w W
/-- .. and its cells. -/
def ChC (w : World) (g : Nat) (k f : Int) (d : List UInt8) (W : World) : Prop := W.cell? ⟨g, 0, none⟩ = some (.int .i64 k) ∧ W.cell? ⟨g, 1, none⟩ = some (.int .i64 f) ∧ W.cell? ⟨g, 2, none⟩ = some (.string ⟨d.toArray⟩) ∧ ChB w g k f d W
theorem ChB.held {w a : World} {g : Nat} {k f : Int} {d : List UInt8} (h : ChB w g k f d a) : a.cell? ⟨g, 0, none⟩ = some (.int .i64 k) ∧ a.cell? ⟨g, 1, none⟩ = some (.int .i64 f) ∧ a.cell? ⟨g, 2, none⟩ = some (.string ⟨d.toArray⟩) ∧ ChB w g k f d a := ⟨h.1.cell 0, h.1.cell 1, h.1.cell 2, h⟩
theorem ChB.under {w a b : World} {g : Nat} {k f : Int} {d : List UInt8} (h : ChB w g k f d a) (hb : Below a.heap.size a b) : ChB w g k f d b := ⟨h.1.under hb, h.2.trans (hb.mono h.2.size)⟩
theorem ChB.hold {w a b : World} {g : Nat} {k f : Int} {d : List UInt8} (h : a.cell? ⟨g, 0, none⟩ = some (.int .i64 k) ∧ a.cell? ⟨g, 1, none⟩ = some (.int .i64 f) ∧ a.cell? ⟨g, 2, none⟩ = some (.string ⟨d.toArray⟩) ∧ ChB w g k f d a) (hb : Below a.heap.size a b) : b.cell? ⟨g, 0, none⟩ = some (.int .i64 k) ∧ b.cell? ⟨g, 1, none⟩ = some (.int .i64 f) ∧ b.cell? ⟨g, 2, none⟩ = some (.string ⟨d.toArray⟩) ∧ ChB w g k f d b := (h.2.2.2.under hb).held

set_option maxRecDepth 100000 in
set_option maxHeartbeats 1000000 in
theorem empty_any (c : Ch) (w : World) : Calls Tryd.prog 28 #[.agg #[.int .i64 c.1, .int .i64 c.2.1, .string ⟨c.2.2.toArray⟩]] w fun e w' => e = .returned (.bool (decide (EmC c))) ∧ Below w.heap.size w w' := by
  have hS0 := ChB.held (w := w) (g := w.heap.size) (k := c.1) (f := c.2.1) (d := c.2.2) ⟨Blk.new w 48 #[.int .i64 c.1, .int .i64 c.2.1, .string ⟨c.2.2.toArray⟩], (Below.refl _ w).alloc (Nat.le_refl _) _⟩
  have HM := Lib.hid (fun W => made_any c.1 none 0 0 [] rfl (by decide) (fun j => by simp) (fun z hz => by cases hz) W (.inl ⟨⟨none, 0, rfl⟩, rfl⟩))
  rw [ofL_nil, bestF_none, bestD_none] at HM
  have hcs := em_cases c
  have HV : Hid (decide (EmC c) = (decide (c.2.1 = 1) && decide (c.2.2 = []))) := Lib.hid (by rw [← Bool.decide_and]; rfl)
  generalize decide (EmC c) = v at *
  obtain ⟨k, f, d⟩ := c
  dsimp only at *
  go_enter Tryd.func28, Tryd.ntmps28
  go_wp2
  generalize w.alloc (.cells #[.int .i64 k, .int .i64 f, .string ⟨d.toArray⟩] 48) = W0 at *
  have hd0 := ChB.hold hS0 ((Below.refl _ _).drew)
  rcases hcs with h1 | ⟨h1, h2⟩ | ⟨h1, h2⟩
  · have HV2 : Hid (v = false) := Lib.hid (by rw [HV.out, decide_eq_false h1]; rfl)
    clear HV
    go_region_held3 (fun W => W.cell? ⟨w.heap.size, 0, none⟩ = some (.int .i64 k) ∧ W.cell? ⟨w.heap.size, 1, none⟩ = some (.int .i64 f) ∧ W.cell? ⟨w.heap.size, 2, none⟩ = some (.string ⟨d.toArray⟩) ∧ ChB w w.heap.size k f d W) (first | exact hd0 | exact ChB.hold (by assumption) (by assumption)) (first | (go_at_call 24; refine (HM.out _).mono ?_; rintro e w5 ⟨rfl, hb5⟩))
    all_goals
      rename_i hS1
      have hB := hS1.2.2.2.2
      clear hS1
      go_wp2
      go_ret
      exact ⟨by rw [HV2.out]; rfl, hB⟩
  · have HV2 : Hid (v = false) := Lib.hid (by rw [HV.out, decide_eq_false h2, Bool.and_false])
    have h3 : d.isEmpty = false := by cases d with | nil => exact absurd rfl h2 | cons => rfl
    subst h1
    clear HV
    go_region_held3 (fun W => W.cell? ⟨w.heap.size, 0, none⟩ = some (.int .i64 k) ∧ W.cell? ⟨w.heap.size, 1, none⟩ = some (.int .i64 1) ∧ W.cell? ⟨w.heap.size, 2, none⟩ = some (.string ⟨d.toArray⟩) ∧ ChB w w.heap.size k 1 d W) (first | exact hd0 | exact ChB.hold (by assumption) (by assumption)) (first | (go_at_call 24; refine (HM.out _).mono ?_; rintro e w5 ⟨rfl, hb5⟩))
    all_goals
      rename_i hS1
      have hB := hS1.2.2.2.2
      clear hS1
      go_wp2
      go_ret
      exact ⟨by rw [HV2.out]; rfl, hB⟩
  · have HV2 : Hid (v = true) := Lib.hid (by rw [HV.out, decide_eq_true h1, decide_eq_true h2]; rfl)
    subst h1 h2
    clear HV
    go_region_held3 (fun W => W.cell? ⟨w.heap.size, 0, none⟩ = some (.int .i64 k) ∧ W.cell? ⟨w.heap.size, 1, none⟩ = some (.int .i64 1) ∧ W.cell? ⟨w.heap.size, 2, none⟩ = some (.string ⟨([] : List UInt8).toArray⟩) ∧ ChB w w.heap.size k 1 [] W) (first | exact hd0 | exact ChB.hold (by assumption) (by assumption)) (first | (go_at_call 24; refine (HM.out _).mono ?_; rintro e w5 ⟨rfl, hb5⟩))
    all_goals
      rename_i hS1
      have hB := hS1.2.2.2.2
      clear hS1
      go_wp2
      go_ret
      exact ⟨by rw [HV2.out]; rfl, hB⟩
end Go.Proofs.YtbfchlfagdhglaaDoor
/- cont.Values, Rank, Select: the numbers of a container gone through. -/
namespace Go.Proofs.YtbfchlfagdhglaaDoor
open Go.RowKit
attribute [local go_sem] Oper.semAt_some


set_option maxRecDepth 100000 in
set_option maxHeartbeats 4000000 in
theorem values_any (f : Int) (hf1 : -9223372036854775808 ≤ f) (hf2 : f ≤ 9223372036854775807) (d : List UInt8) (hd : d.length ≤ 9223372036854775807) (w : World) :
    Calls Tryd.prog 26 #[contV f d] w fun e w' => ∃ v, e = .returned v ∧ w'.ownsRow w.heap.size 3 1 v (vals (readS f d)).length (intVs (vals (readS f d))) ∧ Below w.heap.size w w' := by
  have hz := zero_set
  have hss := scl_size
  have hst := st_new
  have hB0 := (Below.refl _ w).alloc (Nat.le_refl _) (.cells #[.int .i64 f, .string ⟨d.toArray⟩] 46)
  have HR := Lib.hid (read_any f hf1 hf2 d hd (w.alloc (.cells #[.int .i64 f, .string ⟨d.toArray⟩] 46)))
  unfold readV contV at HR
  unfold contV
  generalize readS f d = s at *
  generalize decide (RightC f d) = b at *
  obtain ⟨i0, hi, hz0, hz1, hz2⟩ := info_parts info_int
  have hlv : (vals s).length ≤ 256 := valsTo_le s 256
  have hmk : ∀ W : World, (Instr.makeSlice 35 (.int .i64 0) (.int .i64 ((vals s).length : Nat))).run Tryd.prog W = .ok (.slice (some ⟨W.heap.size, 0, none⟩) 0 (vals s).length) (W.alloc (.cells (madeCells #[.int .i64 0] (vals s).length) 3)) := fun W => by
    have h := run_make (P := Tryd.prog) W 35 3 i0 (.int .i64 0) Tryd.underlying35 hi hz0 .i64 .i64 0 ((vals s).length : Nat) (by omega) (by omega) (by rw [hz2]; omega) (by omega)
    rw [hz1] at h
    rw [h]
    simp [Value.cells]
  have HInf := Lib.hid hi; have HZ0 := Lib.hid hz0; have HZ1 := Lib.hid hz1; have HZ2 := Lib.hid hz2
  clear hi hz0 hz1 hz2
  refine (callsIn_wide (n := 4)).1 ?_
  refine callsIn_of_wp_marks Tryd.func26 rfl trivial ?_ rfl
  simp only [Tryd.ntmps26, List.size_toArray, List.length_cons, List.length_nil, Nat.reduceAdd, Nat.reduceSub, Array.replicate_succ, Array.replicate_zero, List.push_toArray, List.append_toArray, List.nil_append, List.cons_append]
  rw [wpIn_wide]
  go_wp2_with fail
  refine HR.out.mono ?_
  rintro e w1 ⟨rfl, hb1⟩
  have hB1 := hB0.trans (hb1.mono hB0.size)
  have hB2 := hB1.alloc hB1.size (.cells (scl s) 83)
  have bS := Blk.new w1 83 (scl s)
  have HC := Lib.hid (count_any w1.heap.size s _ bS)
  have hw1 := hB1.size
  go_wp2_with fail
  refine HC.out.mono ?_
  rintro e w2 ⟨rfl, hb2⟩
  have hB3 := hB2.trans (hb2.mono hB2.size)
  have bS2 := bS.under hb2
  have hl12 : w1.heap.size < w2.heap.size := bS2.lt
  obtain ⟨c, hc⟩ : ∃ c, c = (vals s).length := ⟨_, rfl⟩
  rw [← hc] at hmk hlv
  rw [← hc]
  clear hc hb1 hb2 hB1 hB2 bS HC
  go_wp2_with (go_at_call 39; refine (numbers_any _ _).mono ?_; rintro e w' ⟨rfl, rfl⟩)
  have hrow0 := World.ownsRow_made (base := w2.heap.size) (e := 3) (size := 1) w2 (madeCells #[.int .i64 0] c) c (Nat.le_refl _) (by unfold maxLen; omega) (by simp [madeCells])
  have hrow1 := (hrow0.alloc (.cells #[.slice (some ⟨w2.heap.size, 0, none⟩) 0 c] 35)).alloc (.cells #[.pointer (some ⟨w1.heap.size, 0, none⟩)] 106)
  have hbx0 := (Boxed.new (w2.alloc (.cells (madeCells #[.int .i64 0] c) 3)) 35 (.slice (some ⟨w2.heap.size, 0, none⟩) 0 c)).alloc (.cells #[.pointer (some ⟨w1.heap.size, 0, none⟩)] 106)
  have hbl0 := Blk.new ((w2.alloc (.cells (madeCells #[.int .i64 0] c) 3)).alloc (.cells #[.slice (some ⟨w2.heap.size, 0, none⟩) 0 c] 35)) 106 #[.pointer (some ⟨w1.heap.size, 0, none⟩)]
  have hB4 : Below w2.heap.size w2 (((w2.alloc (.cells (madeCells #[.int .i64 0] c) 3)).alloc (.cells #[.slice (some ⟨w2.heap.size, 0, none⟩) 0 c] 35)).alloc (.cells #[.pointer (some ⟨w1.heap.size, 0, none⟩)] 106)) := (((Below.refl _ _).alloc (Nat.le_refl _) _).alloc (by simp) _).alloc (by simp; omega) _
  have hsz0 : (((w2.alloc (.cells (madeCells #[.int .i64 0] c) 3)).alloc (.cells #[.slice (some ⟨w2.heap.size, 0, none⟩) 0 c] 35)).alloc (.cells #[.pointer (some ⟨w1.heap.size, 0, none⟩)] 106)).heap.size = w2.heap.size + 1 + 1 + 1 := by simp
  rw [World.size_alloc] at hbx0
  rw [World.size_alloc, World.size_alloc] at hbl0
  have bS3 := bS2.under hB4
  clear hrow0
  generalize (((w2.alloc (.cells (madeCells #[.int .i64 0] c) 3)).alloc (.cells #[.slice (some ⟨w2.heap.size, 0, none⟩) 0 c] 35)).alloc (.cells #[.pointer (some ⟨w1.heap.size, 0, none⟩)] 106)) = W0 at *
  refine (wpIn_wide (n := 4)).1 ?_
  refine wpIn_rangeFunc_nextD (n := 4) rfl (by decide) (gf := 53) (lb := #[.pointer (some ⟨w2.heap.size + 1 + 1, 0, none⟩)]) rfl trivial (enters_of Tryd.func53 (by kernel_rfl) rfl)
    (numbers_seq 3 (by decide) (w2.heap.size + 1 + 1) w1.heap.size s W0 hbl0 bS3) keeps2_t (fun W l o hl => keeps2_b (B := W0.heap.size) (by omega) (by omega) W l o hl) (fun _ => rfl)
    (fun pre W => ((∃ v, Boxed W (w2.heap.size + 1) 35 v ∧ W.ownsRow w2.heap.size 3 1 v pre.length (intVs pre) ∧ True) ∧ Blk W (w2.heap.size + 1 + 1) 106 #[.pointer (some ⟨w1.heap.size, 0, none⟩)]) ∧ Below w2.heap.size w2 W)
    (fun _ _ _ => False)
    (OwnFrom.and (OwnFrom.and (Own.from (holdsRow_own w2.heap.size (w2.heap.size + 1) 35 3 1 (fun (pre : List Nat) => pre.length) (fun pre => intVs pre) (fun _ _ => True)) _) (Own.from (blk_own _ _ (fun _ => #[.pointer (some ⟨w1.heap.size, 0, none⟩)])) _)) (ownFrom_below (Nat.le_refl _) (by omega)))
    (fun _ _ _ _ _ hs _ _ => hs)
    ⟨⟨⟨_, hbx0, hrow1, trivial⟩, hbl0⟩, hB4⟩
    (fun x => { tmps := #[.agg #[.int .i64 f, .string ⟨d.toArray⟩], .pointer (some ⟨w.heap.size, 0, none⟩), .slice none 0 0, .pointer (some ⟨w1.heap.size, 0, none⟩), .bool b, .pointer (some ⟨w2.heap.size + 1, 0, none⟩), .int .i64 (x : Nat), .tuple #[.agg (scl s), .bool b], .agg #[.int .i64 f, .string ⟨d.toArray⟩], .tuple #[.agg (scl s), .bool b], .agg (scl s), .bool b, .int .i64 c, .slice (some ⟨w2.heap.size, 0, none⟩) 0 c, .func (.func 53) #[] #[.pointer (some ⟨w2.heap.size + 1 + 1, 0, none⟩)], .int .i64 (x : Nat), undef, undef, undef, undef, undef], defers := [] }) ?assign ?body ?done ?stop
  case assign =>
    intro l x W K hK
    gi_wp2
    exact hK
  case body =>
    rintro l pre x W ⟨⟨⟨v, hv, hrow, _⟩, hbl⟩, hB⟩ ⟨hx, hsx, hpre⟩
    have hc := hv.cell
    have hlp : pre.length ≤ 256 := by rw [hpre]; exact Nat.le_trans (valsTo_le s x) (by omega)
    have HB := Lib.hid hB
    have HBl := Lib.hid hbl
    have HT : Hid (intVs (pre ++ [x]) = intVs pre ++ [Value.int .i64 (x : Nat)] ∧ (pre ++ [x]).length = pre.length + 1) := Lib.hid ⟨by simp [intVs], by simp⟩
    clear hpre hsx hB hbl
    gi_wp2_with (gi_at_builtin; refine wpListIn_append_own _ rfl _ _ 35 rfl w2.heap.size 3 i0 (.int .i64 0) 1 8 Tryd.underlying35 HInf.out HZ0.out HZ1.out HZ2.out rfl (by decide) _ _ _ rfl (hrow.alloc _) ⟨W.heap.size, 0, none⟩ 1 1 [.int .i64 x] rfl rfl (cell_one_new _ _ _) (by simp [Value.oneCell']) (by unfold maxLen; omega) (by omega) (by have := HB.out.size; simp; omega) ?_; intro v' w3 hown' hgrow _; obtain ⟨g', cap', rfl⟩ := ownsRow_succ hown'; obtain ⟨hv1, hv2, hr2, hk2, hb2⟩ := hv.appended (by decide) hrow HB.out.size (by omega) hown' hgrow; have hc1 := hv1.cell; have hf1 := hv1.frozen)
    have hbl2 := keep_box (C := w2.heap.size + 1) (v' := .slice (some ⟨g', 0, none⟩) (pre.length + 1) cap') HBl.out (by decide) hrow hgrow (by omega)
    refine ⟨hk2, ⟨hbl2, hb2.block w1.heap.size hl12⟩, ⟨⟨⟨_, hv2, ?_, trivial⟩, hbl2.trans HBl.out⟩, HB.out.trans hb2⟩⟩
    rw [HT.out.1, HT.out.2]; exact hr2
  case done =>
    rintro D ys W hD rfl ⟨⟨⟨v, hv, hrow, _⟩, hbl⟩, hB⟩ hK
    have hc := hv.cell
    have HN : Hid (∃ v', Ending.returned v = .returned v' ∧ (W.putObj D (.deferred none)).ownsRow w.heap.size 3 1 v' (vals s).length (intVs (vals s)) ∧ Below w.heap.size w (W.putObj D (.deferred none))) := Lib.hid ⟨v, rfl, World.ownsRow.mono (ownsRow_putObj hrow _ hK rfl) hB3.size, hB3.trans ((hB.grown (grownBy_putObj' W D _) hB.size (fun k e => by cases e; omega)).mono hB3.size)⟩
    clear hbl hB hv hrow
    go_wp2
    try rw [Exit.noGoto_ret]
    exact ⟨by simp, .inl ⟨_, _, rfl, run_takeDeferred hK, _, results_tmp (t := 2) rfl _ _ _, HN.out⟩⟩
  case stop =>
    rintro D cd pre W hD hSp h hK
    exact h.elim
end Go.Proofs.YtbfchlfagdhglaaDoor
/- roar.Right. -/
namespace Go.Proofs.YtbfchlfagdhglaaDoor
open Go.RowKit

/-- Chunks whose parts are numbers and texts that can come. -/
def OkCs (r : List Ch) : Prop := ∀ c ∈ r, OkCh c
theorem OkCs.get {r : List Ch} (h : OkCs r) {j : Nat} (hj : j < r.length) : OkCh (r.getD j noCh) := by rw [getD_get hj]; exact h _ (List.getElem_mem hj)
theorem vals_small' (f : Int) (d : List UInt8) : ∀ n ∈ vals (readS f d), n < 256 := fun _ h => (mem_valsTo.1 h).1
theorem allGood_vals (S : Bs) : AllGood (zsOf (vals S)) := by
  intro z hz
  obtain ⟨m, hm, rfl⟩ := List.mem_map.1 hz
  have := (mem_valsTo.1 hm).1
  unfold goodZ; simp; omega
theorem made_vals (S : Bs) : bestF (ofL (zsOf (vals S))) = bestF S ∧ bestD (ofL (zsOf (vals S))) = bestD S := by
  have hs : Same (ofL (zsOf (vals S))) S := ofL_vals S
  exact ⟨bestF_congr hs, bestD_congr hs⟩
/-- A chunk's parts against those of what is made again. -/
theorem best_cases (c : Ch) : ¬ c.2.1 = (bestF (readS c.2.1 c.2.2) : Nat) ∨ (c.2.1 = (bestF (readS c.2.1 c.2.2) : Nat) ∧ ¬ c.2.2 = bestD (readS c.2.1 c.2.2)) ∨ BestC c := by
  by_cases h1 : c.2.1 = (bestF (readS c.2.1 c.2.2) : Nat)
  · by_cases h2 : c.2.2 = bestD (readS c.2.1 c.2.2)
    · exact .inr (.inr ⟨h1, h2⟩)
    · exact .inr (.inl ⟨h1, h2⟩)
  · exact .inl h1
/-- cont.Values, as the walk wants it. -/
theorem values_all (f : Int) (d : List UInt8) (hf1 : -9223372036854775808 ≤ f) (hf2 : f ≤ 9223372036854775807) (hd : d.length ≤ 9223372036854775807) (W : World) : Calls Tryd.prog 26 #[.agg #[.int .i64 f, .string ⟨d.toArray⟩]] W fun e w' => ∃ x c, e = .returned (.slice x (vals (readS f d)).length c) ∧ Ints w'.heap.size w' (.slice x (vals (readS f d)).length c) (zsOf (vals (readS f d))) ∧ Below W.heap.size W w' :=
  (values_any f hf1 hf2 d hd W).mono fun _ _ ⟨v, e, ho, hb⟩ => by
    obtain ⟨x, c, rfl, hI⟩ := row_ints rfl ho
    exact ⟨x, c, e, hI, hb⟩
/-- The walk's state: the bitmap, its box. -/
theorem RtSt.cell {w a : World} {sv : Value} {r : List Ch} (h : RtSt w sv r a) : a.cell? ⟨w.heap.size, 0, none⟩ = some sv := h.1.cell 0

/-- The walk's state within a round: the chunk's box besides. -/
def RkSt (w : World) (sv : Value) (r : List Ch) (g : Nat) (k f : Int) (d : List UInt8) (W : World) : Prop := RtSt w sv r W ∧ Blk W g 48 #[.int .i64 k, .int .i64 f, .string ⟨d.toArray⟩]
theorem RkSt.start {w a : World} {sv : Value} {r : List Ch} (h : RtSt w sv r a) (k f : Int) (d : List UInt8) : RkSt w sv r a.heap.size k f d (a.alloc (.cells #[.int .i64 k, .int .i64 f, .string ⟨d.toArray⟩] 48)) := ⟨h.under ((Below.refl _ a).alloc (Nat.le_refl _) _), Blk.new a _ _⟩
theorem RkSt.under {w a b : World} {sv : Value} {r : List Ch} {g : Nat} {k f : Int} {d : List UInt8} (h : RkSt w sv r g k f d a) (hb : Below a.heap.size a b) : RkSt w sv r g k f d b := ⟨h.1.under hb, h.2.under hb⟩
theorem RkSt.held {w a : World} {sv : Value} {r : List Ch} {g : Nat} {k f : Int} {d : List UInt8} (h : RkSt w sv r g k f d a) : a.cell? ⟨g, 0, none⟩ = some (.int .i64 k) ∧ a.cell? ⟨g, 1, none⟩ = some (.int .i64 f) ∧ a.cell? ⟨g, 2, none⟩ = some (.string ⟨d.toArray⟩) ∧ RkSt w sv r g k f d a := ⟨h.2.cell 0, h.2.cell 1, h.2.cell 2, h⟩
theorem RkSt.hold {w a b : World} {sv : Value} {r : List Ch} {g : Nat} {k f : Int} {d : List UInt8} (h : a.cell? ⟨g, 0, none⟩ = some (.int .i64 k) ∧ a.cell? ⟨g, 1, none⟩ = some (.int .i64 f) ∧ a.cell? ⟨g, 2, none⟩ = some (.string ⟨d.toArray⟩) ∧ RkSt w sv r g k f d a) (hb : Below a.heap.size a b) : b.cell? ⟨g, 0, none⟩ = some (.int .i64 k) ∧ b.cell? ⟨g, 1, none⟩ = some (.int .i64 f) ∧ b.cell? ⟨g, 2, none⟩ = some (.string ⟨d.toArray⟩) ∧ RkSt w sv r g k f d b := (h.2.2.2.under hb).held

set_option maxRecDepth 100000 in
set_option maxHeartbeats 4000000 in
theorem right_roar (x : Option Addr) (len cap : Nat) (r : List Ch) (hk : OkCs r) (hm : len ≤ 9223372036854775807) (w : World) (h : Chs w.heap.size w (.slice x len cap) r) :
    Calls Tryd.prog 16 #[.agg #[.slice x len cap]] w fun e w' => e = .returned (.bool (decide (RightZ r))) ∧ Below w.heap.size w w' := by
  have hl := h.len
  have HS0 := Lib.hid (RtSt.start h)
  have HIf : Hid (RightZ r ↔ AllOk r len) := Lib.hid (by rw [← hl]; exact right_iff)
  have HL := Lib.hid hl
  have HK := Lib.hid hk
  clear h hl hk
  generalize hv : decide (RightZ r) = v at *
  have HV := Lib.hid hv
  clear hv
  go_enter Tryd.func16, Tryd.ntmps16
  go_wp2
  generalize w.alloc (.cells #[.slice x len cap] 24) = w1 at *
  have c0 := HS0.out.cell
  go_wp2
  go_loopw [3, 9] (fun a i wr => ∃ k : Nat, k ≤ len ∧ i = .int .i64 k ∧ a = .int .i64 (aheadK r k) ∧ AllOk r k ∧ RtSt w (.slice x len cap) r wr)
    (fun _ i _ => len - (intOf i).toNat)
  case atStart => exact ⟨0, Nat.zero_le _, rfl, rfl, AllOk.zero r, HS0.out⟩
  case round =>
    obtain ⟨k, hk, rfl, rfl, hA, hS⟩ := hrel
    clear c0
    by_cases hlt : k < len
    · have hlt' : (k : Int) < len := by omega
      obtain ⟨b, o, rfl, hb, d0, d1, d2⟩ := hS.2.1.at_ hlt
      have hkc := HK.out.get (j := k) (by rw [HL.out]; exact hlt)
      have HN : Hid (¬ StepOk r k → v = false) := Lib.hid (fun hn => by rw [← HV.out]; exact decide_eq_false (not_right (by rw [HL.out]; exact hlt) hn))
      have HY : Hid (StepOk r k → AllOk r (k + 1)) := Lib.hid (fun hs => hA.succ hs)
      have HQ : Hid ((r.getD k noCh).1 = aheadK r (k + 1)) := Lib.hid rfl
      have ha := aheadK_ge hA
      have hSo : StepOk r k ↔ aheadK r k < (r.getD k noCh).1 ∧ (r.getD k noCh).1 < 256 ∧ ¬ EmC (r.getD k noCh) ∧ BestC (r.getD k noCh) := Iff.rfl
      have HSo := Lib.hid hSo
      have HS := Lib.hid hS
      clear hS hA hSo
      generalize r.getD k noCh = c at *
      generalize StepOk r k = so at *
      generalize aheadK r k = a at *
      have hgt := hkc.1.1
      have hgt2 := hkc.1.2
      by_cases h1 : c.1 ≤ a
      · have HF := Lib.hid (HN.out (fun h => by have := (HSo.out.1 h).1; omega))
        have hB := HS.out.2.2.alloc HS.out.2.2.size (.cells #[.int .i64 c.1, .int .i64 c.2.1, .string ⟨c.2.2.toArray⟩] 48)
        have HB := Lib.hid hB
        clear hB
        go_wp2
        go_ret
        exact ⟨by rw [HF.out]; rfl, HB.out⟩
      · by_cases h2 : 256 ≤ c.1
        · have HF := Lib.hid (HN.out (fun h => by have := (HSo.out.1 h).2.1; omega))
          have hB := HS.out.2.2.alloc HS.out.2.2.size (.cells #[.int .i64 c.1, .int .i64 c.2.1, .string ⟨c.2.2.toArray⟩] 48)
          have HB := Lib.hid hB
          clear hB
          go_wp2
          go_ret
          exact ⟨by rw [HF.out]; rfl, HB.out⟩
        · have HE := Lib.hid (fun W => empty_any c W)
          have hR0 := RkSt.start HS.out c.1 c.2.1 c.2.2
          have HR0 := Lib.hid hR0
          by_cases h3 : EmC c
          · rw [decide_eq_true h3] at HE
            have HF := Lib.hid (HN.out (fun h => (HSo.out.1 h).2.2.1 h3))
            clear h3 hR0
            go_wp2_with fail
            refine (HE.out _).mono ?_
            rintro e w4 ⟨rfl, hb4⟩
            have HB := Lib.hid (HR0.out.under hb4).1.2.2
            go_wp2
            go_ret
            exact ⟨by rw [HF.out]; rfl, HB.out⟩
          · rw [decide_eq_false h3] at HE
            have hcs := best_cases c
            have HVal := Lib.hid (fun W => values_all c.2.1 c.2.2 hkc.2.1.1 hkc.2.1.2 hkc.2.2 W)
            have HMd := Lib.hid (fun y cy W hI => made_any c.1 y (vals (readS c.2.1 c.2.2)).length cy (zsOf (vals (readS c.2.1 c.2.2))) (zsOf_length _) (by have := valsTo_le (readS c.2.1 c.2.2) 256; unfold vals; omega) (in64_zsOf (vals_small _)) (allGood_vals _) W hI)
            rw [(made_vals _).1, (made_vals _).2] at HMd
            have HSo2 : Hid (BestC c → so) := Lib.hid (fun hb => HSo.out.2 ⟨by omega, by omega, h3, hb⟩)
            have HSo3 : Hid (¬ BestC c → ¬ so) := Lib.hid (fun hb hs => hb (HSo.out.1 hs).2.2.2)
            have HBc : Hid (BestC c ↔ c.2.1 = (bestF (readS c.2.1 c.2.2) : Nat) ∧ c.2.2 = bestD (readS c.2.1 c.2.2)) := Lib.hid Iff.rfl
            generalize BestC c = bc at *
            generalize bestF (readS c.2.1 c.2.2) = q at *
            generalize bestD (readS c.2.1 c.2.2) = dq at *
            generalize zsOf (vals (readS c.2.1 c.2.2)) = zs at *
            generalize (vals (readS c.2.1 c.2.2)).length = n at *
            clear h3 hR0 HSo
            obtain ⟨ck, f, d⟩ := c
            dsimp only at *
            go_wp2_with fail
            refine (HE.out _).mono ?_
            rintro e w4 ⟨rfl, hb4⟩
            have hS2 := (HR0.out.under hb4).held
            clear HR0 hb4
            generalize wr.heap.size = g at *
            have hd0 := RkSt.hold hS2 ((Below.refl _ _).drew)
            rcases hcs with h4 | ⟨h4, h5⟩ | h4
            · have HF := Lib.hid (HN.out (HSo3.out (fun h => h4 (HBc.out.1 h).1)))
              have h6 : ¬ ((q : Nat) : Int) = f := fun e => h4 e.symm
              clear HN HY HSo2 HSo3 HBc
              go_wp2
              go_region_held3 (fun W => W.cell? ⟨g, 0, none⟩ = some (.int .i64 ck) ∧ W.cell? ⟨g, 1, none⟩ = some (.int .i64 f) ∧ W.cell? ⟨g, 2, none⟩ = some (.string ⟨d.toArray⟩) ∧ RkSt w (.slice (some ⟨b, o, none⟩) len cap) r g ck f d W) (first | exact hd0 | exact RkSt.hold (by assumption) (by assumption)) (first | (go_at_call 26; refine (HVal.out _).mono ?_; rintro e w5 ⟨y, cy, rfl, hI, hb5⟩) | (go_at_call 24; refine (HMd.out _ _ _ (by assumption)).mono ?_; rintro e w6 ⟨rfl, hb6⟩))
              all_goals
                rename_i hS1
                have hB := hS1.2.2.2.1.2.2
                clear hS1
                go_wp2
                go_ret
                exact ⟨by rw [HF.out]; rfl, hB⟩
            · have HF := Lib.hid (HN.out (HSo3.out (fun h => h5 (HBc.out.1 h).2)))
              have h6 : ¬ dq = d := fun e => h5 e.symm
              clear HN HY HSo2 HSo3 HBc
              subst h4
              go_wp2
              go_region_held3 (fun W => W.cell? ⟨g, 0, none⟩ = some (.int .i64 ck) ∧ W.cell? ⟨g, 1, none⟩ = some (.int .i64 q) ∧ W.cell? ⟨g, 2, none⟩ = some (.string ⟨d.toArray⟩) ∧ RkSt w (.slice (some ⟨b, o, none⟩) len cap) r g ck (q) d W) (first | exact hd0 | exact RkSt.hold (by assumption) (by assumption)) (first | (go_at_call 26; refine (HVal.out _).mono ?_; rintro e w5 ⟨y, cy, rfl, hI, hb5⟩) | (go_at_call 24; refine (HMd.out _ _ _ (by assumption)).mono ?_; rintro e w6 ⟨rfl, hb6⟩))
              all_goals
                rename_i hS1
                have hB := hS1.2.2.2.1.2.2
                clear hS1
                go_wp2
                go_ret
                exact ⟨by rw [HF.out]; rfl, hB⟩
            · have HAl := Lib.hid (HY.out (HSo2.out h4))
              obtain ⟨h5, h6⟩ := HBc.out.1 h4
              clear HN HY HSo2 HSo3 HBc h4
              subst h5 h6
              go_wp2
              go_region_held3 (fun W => W.cell? ⟨g, 0, none⟩ = some (.int .i64 ck) ∧ W.cell? ⟨g, 1, none⟩ = some (.int .i64 q) ∧ W.cell? ⟨g, 2, none⟩ = some (.string ⟨d.toArray⟩) ∧ RkSt w (.slice (some ⟨b, o, none⟩) len cap) r g ck (q) d W) (first | exact hd0 | exact RkSt.hold (by assumption) (by assumption)) (first | (go_at_call 26; refine (HVal.out _).mono ?_; rintro e w5 ⟨y, cy, rfl, hI, hb5⟩) | (go_at_call 24; refine (HMd.out _ _ _ (by assumption)).mono ?_; rintro e w6 ⟨rfl, hb6⟩))
              all_goals
                rename_i hS1
                have c0 := hS1.1
                have HRt := Lib.hid hS1.2.2.2.1
                clear hS1
                go_wp2
                go_roundw
                case rel => exact ⟨k + 1, by omega, by simp, by rw [HQ.out], HAl.out, HRt.out⟩
                case measure => simp [intOf]; omega
    · obtain rfl : k = len := by omega
      have hge : ¬ (k : Int) < k := by omega
      have HF : Hid (v = true) := Lib.hid (by rw [← HV.out]; exact decide_eq_true (HIf.out.2 hA))
      have hB := hS.2.2
      clear hA hS
      go_wp2
      go_ret
      exact ⟨by rw [HF.out]; rfl, hB⟩
end Go.Proofs.YtbfchlfagdhglaaDoor
