import Derived.Test.YtbfchlfagdhglaaMG14
import Derived.Test.YtbfchlfagdhglaaMG15
import Derived.Test.YtbfchlfagdhglaaMG11
import Derived.Lib.SliceRun
import Derived.Laws.IdiomCopy
/- roar.Select. -/
namespace Go.Proofs.Ytbfchlfagdhglaa
open Go.RowKit
attribute [local go_sem] Oper.semAt_some

/-- The number at a place, and whether there is one. -/
def selZ (r : List Ch) (p : Int) : Value := if 0 ≤ p ∧ p < (valsZ r).length then .tuple #[.int .i64 ((zsOf (valsZ r))[p.toNat]?.getD 0), .bool true] else .tuple #[.int .i64 0, .bool false]
theorem selZ_low {r : List Ch} {p : Int} (h : p < 0) : selZ r p = .tuple #[.int .i64 0, .bool false] := if_neg (by omega)
theorem selZ_high {r : List Ch} {p : Int} (h : ((valsR (allC r)).length : Int) ≤ p) : selZ r p = .tuple #[.int .i64 0, .bool false] := by
  rw [valsR_all] at h
  exact if_neg (by omega)
theorem selZ_hit {r pre : List Ch} {c : Ch} (h : NextC r pre c) {k : Nat} (hk : c.1 = (k : Int)) {i : Nat} (hi : i < (vals (readS c.2.1 c.2.2)).length) {p : Int} (hp : p = (valsR pre).length + (i : Int)) : selZ r p = .tuple #[.int .i64 ((256 * k + (vals (readS c.2.1 c.2.2)).getD i 0 : Nat) : Int), .bool true] := by
  obtain ⟨h1, j, hj, rfl, hcc⟩ := h
  have e : r = r.take j ++ c :: r.drop (j + 1) := by rw [hcc, getD_get hj, List.getElem_cons_drop, List.take_append_drop]
  have ev : valsZ r = valsR (r.take j) ++ (valsC c ++ valsR (r.drop (j + 1))) := by
    rw [← valsR_right h1]
    have : valsR r = valsR (r.take j ++ c :: r.drop (j + 1)) := by rw [← e]
    rw [this]
    unfold valsR
    rw [List.flatMap_append, List.flatMap_cons]
  clear e hcc
  have hc : valsC c = (vals (readS c.2.1 c.2.2)).map fun n => 256 * k + n := by unfold valsC; rw [hk]; rfl
  have hl : (valsC c).length = (vals (readS c.2.1 c.2.2)).length := valsC_length _
  have hlt : (valsR (r.take j)).length + i < (valsZ r).length := by rw [ev, List.length_append, List.length_append]; omega
  have hg : (valsZ r)[(valsR (r.take j)).length + i]? = some (256 * k + (vals (readS c.2.1 c.2.2)).getD i 0) := by
    rw [ev, List.getElem?_append_right (by omega), Nat.add_sub_cancel_left, List.getElem?_append_left (by omega), hc, List.getElem?_map, List.getD_eq_getElem?_getD, List.getElem?_eq_getElem hi]; rfl
  unfold selZ
  rw [if_pos (by omega), show p.toNat = (valsR (r.take j)).length + i by omega]
  unfold zsOf
  rw [List.getElem?_map, hg]; rfl
/-- The four boxes. -/
def SeB (w : World) (sv : Value) (q x : Int) (b : Bool) (W : World) : Prop := (((Blk W (w.heap.size + 1) 3 #[.int .i64 q] ∧ Blk W (w.heap.size + 1 + 1) 3 #[.int .i64 x]) ∧ Blk W (w.heap.size + 1 + 1 + 1) 4 #[.bool b]) ∧ Blk W (w.heap.size + 1 + 1 + 1 + 1) 24 #[sv])
def SeI (w : World) (sv : Value) (p : Int) (pre : List Ch) (W : World) : Prop := (SeB w sv (p - ((valsR pre).length : Nat)) 0 false W ∧ ((valsR pre).length : Int) ≤ p) ∧ Below w.heap.size w W
def SeX (w : World) (sv : Value) (r : List Ch) (p : Int) (cd : Code) (_ : List Ch) (W : World) : Prop := ((∃ q x b, SeB w sv q x b W ∧ selZ r p = .tuple #[.int .i64 x, .bool b]) ∧ cd = .ret) ∧ Below w.heap.size w W
theorem seB_own {β : Type} (w : World) (sv : Value) (q : β → Int) (x : Int) (b : Bool) : Own (fun (s : β) W => SeB w sv (q s) x b W) := fun s X Y row hs hg hr =>
  ⟨⟨⟨blk_own _ _ (fun s => #[.int .i64 (q s)]) s X Y row hs.1.1.1 hg hr, blk_own _ _ (fun _ => #[.int .i64 x]) s X Y row hs.1.1.2 hg hr⟩, blk_own _ _ (fun _ => #[.bool b]) s X Y row hs.1.2 hg hr⟩, blk_own _ _ (fun _ => #[sv]) s X Y row hs.2 hg hr⟩
theorem seI_own (w : World) (sv : Value) (p : Int) (m : Nat) (hm : w.heap.size ≤ m) : OwnFrom m (SeI w sv p) :=
  OwnFrom.and (OwnFrom.and (Own.from (seB_own w sv (fun (pre : List Ch) => p - ((valsR pre).length : Nat)) 0 false) _) (ownFrom_pure _ _)) (ownFrom_below (Nat.le_refl _) hm)
theorem seX_own (w : World) (sv : Value) (r : List Ch) (p : Int) (cd : Code) (m : Nat) (hm : w.heap.size ≤ m) : OwnFrom m (SeX w sv r p cd) :=
  OwnFrom.and (OwnFrom.and (Own.from (fun pre X Y row ⟨q, x, b, h, e⟩ hg hr => ⟨q, x, b, seB_own w sv (fun _ => q) x b pre X Y row h hg hr, e⟩) _) (ownFrom_pure _ _)) (ownFrom_below (Nat.le_refl _) hm)
theorem SeB.under {w a c : World} {sv : Value} {q x : Int} {b : Bool} (h : SeB w sv q x b a) (hb : Below a.heap.size a c) : SeB w sv q x b c := ⟨⟨⟨h.1.1.1.under hb, h.1.1.2.under hb⟩, h.1.2.under hb⟩, h.2.under hb⟩
theorem SeB.put {w a : World} {sv : Value} {q x : Int} {b : Bool} (h : SeB w sv q x b a) (y : Int) (e : Bool) : SeB w sv q y e ((a.setCell ⟨w.heap.size + 1 + 1, 0, none⟩ (.int .i64 y)).setCell ⟨w.heap.size + 1 + 1 + 1, 0, none⟩ (.bool e)) :=
  ⟨⟨⟨(h.1.1.1.far (p := ⟨w.heap.size + 1 + 1, 0, none⟩) (by simp <;> omega) _).far (p := ⟨w.heap.size + 1 + 1 + 1, 0, none⟩) (by simp <;> omega) _, (h.1.1.2.set_ 0 (.int .i64 y)).far (p := ⟨w.heap.size + 1 + 1 + 1, 0, none⟩) (by simp <;> omega) _⟩, (h.1.2.far (p := ⟨w.heap.size + 1 + 1, 0, none⟩) (by simp <;> omega) _).set_ 0 (.bool e)⟩, (h.2.far (p := ⟨w.heap.size + 1 + 1, 0, none⟩) (by simp <;> omega) _).far (p := ⟨w.heap.size + 1 + 1 + 1, 0, none⟩) (by simp <;> omega) _⟩
theorem SeB.set {w a : World} {sv : Value} {q x : Int} {b : Bool} (h : SeB w sv q x b a) {z : Int} {v : Value} (hv : v = .int .i64 z) : SeB w sv z x b (a.setCell ⟨w.heap.size + 1, 0, none⟩ v) := by
  subst hv
  exact ⟨⟨⟨h.1.1.1.set_ 0 _, h.1.1.2.far (by simp <;> omega) _⟩, h.1.2.far (by simp <;> omega) _⟩, h.2.far (by simp <;> omega) _⟩
theorem SeB.book {w a : World} {sv : Value} {q x : Int} {b : Bool} (h : SeB w sv q x b a) {D : Nat} (hD : w.heap.size + 1 + 1 + 1 + 1 < D) (o : Obj) : SeB w sv q x b (a.putObj D o) := ⟨⟨⟨(World.putObj_heap_other (by omega)).trans h.1.1.1, (World.putObj_heap_other (by omega)).trans h.1.1.2⟩, (World.putObj_heap_other (by omega)).trans h.1.2⟩, (World.putObj_heap_other (by omega)).trans h.2⟩
theorem SeI.under {w a b : World} {sv : Value} {p : Int} {pre : List Ch} (h : SeI w sv p pre a) (hb : Below a.heap.size a b) : SeI w sv p pre b := ⟨⟨h.1.1.under hb, h.1.2⟩, h.2.trans (hb.mono h.2.size)⟩
theorem SeI.lt {w a : World} {sv : Value} {p : Int} {pre : List Ch} (h : SeI w sv p pre a) : w.heap.size + 1 + 1 + 1 + 1 < a.heap.size := h.1.1.2.lt
theorem SeI.base {w a : World} {sv : Value} {p : Int} {pre : List Ch} (h : SeI w sv p pre a) : w.heap.size ≤ a.heap.size := h.2.size
def SeS (w : World) (sv : Value) (q x : Int) (b : Bool) (g : Nat) (c : Ch) (W : World) : Prop := (SeB w sv q x b W ∧ BoxC g c W) ∧ Below w.heap.size w W
theorem SeS.under {w a e : World} {sv : Value} {q x : Int} {b : Bool} {g : Nat} {c : Ch} (h : SeS w sv q x b g c a) (hb : Below a.heap.size a e) : SeS w sv q x b g c e := ⟨⟨h.1.1.under hb, Blk.under h.1.2 hb⟩, h.2.trans (hb.mono h.2.size)⟩
theorem SeS.held {w a : World} {sv : Value} {q x : Int} {b : Bool} {g : Nat} {c : Ch} (h : SeS w sv q x b g c a) : a.cell? ⟨w.heap.size + 1, 0, none⟩ = some (.int .i64 q) ∧ a.cell? ⟨g, 1, none⟩ = some (.int .i64 c.2.1) ∧ a.cell? ⟨g, 2, none⟩ = some (.string ⟨c.2.2.toArray⟩) ∧ SeS w sv q x b g c a := ⟨h.1.1.1.1.1.cell 0, h.1.2.cell 1, h.1.2.cell 2, h⟩

set_option maxRecDepth 100000 in
set_option maxHeartbeats 4000000 in
theorem select_roar (x : Option Addr) (len cap : Nat) (r : List Ch) (hk : OkCs r) (hm : len ≤ 9223372036854775807) (w : World) (h : Chs w.heap.size w (.slice x len cap) r) (p : Int) (l : -9223372036854775808 ≤ p) (u : p ≤ 9223372036854775807) :
    Calls Try.prog 14 #[.agg #[.slice x len cap], .int .i64 p] w fun e w' => e = .returned (selZ r p) ∧ Below w.heap.size w w' := by
  have hBa : Below w.heap.size w ((((w.alloc (.cells #[.slice x len cap] 24)).alloc (.cells #[.int .i64 p] 3)).alloc (.cells #[.int .i64 0] 3)).alloc (.cells #[.bool false] 4)) := ((((Below.refl _ w).alloc (Nat.le_refl _) _).alloc (by simp) _).alloc (by simp; omega) _).alloc (by simp; omega) _
  by_cases hp : p < 0
  · have HV := Lib.hid (selZ_low (r := r) hp)
    have b2 : Blk ((((w.alloc (.cells #[.slice x len cap] 24)).alloc (.cells #[.int .i64 p] 3)).alloc (.cells #[.int .i64 0] 3)).alloc (.cells #[.bool false] 4)) (w.heap.size + 1 + 1) 3 #[.int .i64 0] := by
      have h2 := (Blk.new ((w.alloc (.cells #[.slice x len cap] 24)).alloc (.cells #[.int .i64 p] 3)) 3 #[.int .i64 0]).alloc (.cells #[.bool false] 4)
      rw [World.size_alloc, World.size_alloc] at h2
      exact h2
    have b3 : Blk ((((w.alloc (.cells #[.slice x len cap] 24)).alloc (.cells #[.int .i64 p] 3)).alloc (.cells #[.int .i64 0] 3)).alloc (.cells #[.bool false] 4)) (w.heap.size + 1 + 1 + 1) 4 #[.bool false] := by
      have h3 := Blk.new (((w.alloc (.cells #[.slice x len cap] 24)).alloc (.cells #[.int .i64 p] 3)).alloc (.cells #[.int .i64 0] 3)) 4 #[.bool false]
      rw [World.size_alloc, World.size_alloc, World.size_alloc] at h3
      exact h3
    refine (callsIn_wide (n := 4)).1 ?_
    refine callsIn_of_wp_marks Try.func14 rfl trivial ?_ rfl
    simp only [Try.ntmps14, List.size_toArray, List.length_cons, List.length_nil, Nat.reduceAdd, Nat.reduceSub, Array.replicate_succ, Array.replicate_zero, List.push_toArray, List.append_toArray, List.nil_append, List.cons_append]
    rw [wpIn_wide]
    go_wp2
    exact ⟨_, results_sel (t := 4) (u := 5) rfl rfl rfl (b2.cell 0) (b3.cell 0), by rw [HV.out], hBa⟩
  · have hI0 : SeI w (.slice x len cap) p [] (((((w.alloc (.cells #[.slice x len cap] 24)).alloc (.cells #[.int .i64 p] 3)).alloc (.cells #[.int .i64 0] 3)).alloc (.cells #[.bool false] 4)).alloc (.cells #[.slice x len cap] 24)) := by
      have h1 := (((Blk.new (w.alloc (.cells #[.slice x len cap] 24)) 3 #[.int .i64 p]).alloc (.cells #[.int .i64 0] 3)).alloc (.cells #[.bool false] 4)).alloc (.cells #[.slice x len cap] 24)
      rw [World.size_alloc] at h1
      have h2 := ((Blk.new ((w.alloc (.cells #[.slice x len cap] 24)).alloc (.cells #[.int .i64 p] 3)) 3 #[.int .i64 0]).alloc (.cells #[.bool false] 4)).alloc (.cells #[.slice x len cap] 24)
      rw [World.size_alloc, World.size_alloc] at h2
      have h3 := (Blk.new (((w.alloc (.cells #[.slice x len cap] 24)).alloc (.cells #[.int .i64 p] 3)).alloc (.cells #[.int .i64 0] 3)) 4 #[.bool false]).alloc (.cells #[.slice x len cap] 24)
      rw [World.size_alloc, World.size_alloc, World.size_alloc] at h3
      have h4 := Blk.new ((((w.alloc (.cells #[.slice x len cap] 24)).alloc (.cells #[.int .i64 p] 3)).alloc (.cells #[.int .i64 0] 3)).alloc (.cells #[.bool false] 4)) 24 #[.slice x len cap]
      rw [World.size_alloc, World.size_alloc, World.size_alloc, World.size_alloc] at h4
      exact ⟨⟨⟨⟨⟨by rw [valsR_nil, show p - ((([] : List Nat).length : Nat) : Int) = p by simp]; exact h1, h2⟩, h3⟩, h4⟩, by rw [valsR_nil]; simp; omega⟩, hBa.alloc hBa.size _⟩
    have hB0 := hI0.2
    have HSq := Lib.hid (chunks_seq 3 (by decide) (w.heap.size + 1 + 1 + 1 + 1) x len cap r hk hm _ hI0.1.1.2 ((h.below hB0).more hB0.size))
    have HX := Lib.hid h.rowIn
    have HI0 := Lib.hid hI0
    have HO := Lib.hid hk
    have hsz0 := hI0.lt
    clear h hB0 hI0 hk hBa
    refine (callsIn_wide (n := 4)).1 ?_
    refine callsIn_of_wp_marks Try.func14 rfl trivial ?_ rfl
    simp only [Try.ntmps14, List.size_toArray, List.length_cons, List.length_nil, Nat.reduceAdd, Nat.reduceSub, Array.replicate_succ, Array.replicate_zero, List.push_toArray, List.append_toArray, List.nil_append, List.cons_append]
    rw [wpIn_wide]
    go_wp2_with (go_at_call 34; refine (chunks_any _ _).mono ?_; rintro e w' ⟨rfl, rfl⟩)
    generalize (((((w.alloc (.cells #[.slice x len cap] 24)).alloc (.cells #[.int .i64 p] 3)).alloc (.cells #[.int .i64 0] 3)).alloc (.cells #[.bool false] 4)).alloc (.cells #[.slice x len cap] 24)) = W0 at *
    refine (wpIn_wide (n := 4)).1 ?_
    refine wpIn_rangeFunc_nextB (n := 4) rfl (by decide) (gf := 53) (lb := #[.pointer (some ⟨w.heap.size + 1 + 1 + 1 + 1, 0, none⟩)]) rfl trivial (enters_of Try.func53 (by kernel_rfl) rfl)
      HSq.out kpC_t (fun W l o hl => kpC_b (n := W0.heap.size) hsz0 (HX.out.mono (by omega)) W l o hl) (fun _ => rfl)
      (SeI w (.slice x len cap) p) (SeX w (.slice x len cap) r p) (seI_own w _ _ _ (by omega)) (fun cd => seX_own w _ _ _ cd _ (by omega)) HI0.out
      (fun c a' W => ∃ g, a' = { tmps := #[.agg #[.slice x len cap], .int .i64 p, .pointer (some ⟨w.heap.size, 0, none⟩), .pointer (some ⟨w.heap.size + 1, 0, none⟩), .pointer (some ⟨w.heap.size + 1 + 1, 0, none⟩), .pointer (some ⟨w.heap.size + 1 + 1 + 1, 0, none⟩), .pointer (some ⟨g, 0, none⟩), undef, undef, .int .i64 p, .bool false, .agg #[.slice x len cap], .func (.func 53) #[] #[.pointer (some ⟨w.heap.size + 1 + 1 + 1 + 1, 0, none⟩)], .agg #[.int .i64 c.1, .int .i64 c.2.1, .string ⟨c.2.2.toArray⟩], undef, undef, undef, undef, undef, undef, undef, undef, undef, undef, undef, undef, undef, undef, undef, undef, undef], defers := [] } ∧ BoxC g c W)
      (fun c a' _ X Y row ⟨g, e, hb⟩ hg hr => ⟨g, e, boxC_own W0.heap.size g c () X Y row hb hg hr⟩) ?assign ?body ?done ?stop
    case assign =>
      intro l pre c W K hI hE hK
      have hIa := hI.under ((Below.refl _ W).alloc (Nat.le_refl _) (.cells #[.int .i64 c.1, .int .i64 c.2.1, .string ⟨c.2.2.toArray⟩] 54))
      have HK := Lib.hid (hK _ (W.alloc (.cells #[.int .i64 c.1, .int .i64 c.2.1, .string ⟨c.2.2.toArray⟩] 54)) (KeepsOthers.alloc _ _) (kpC_below ((Below.refl _ W).alloc (Nat.le_refl _) _) hI.lt (HX.out.mono hI.base)) hIa ⟨_, rfl, Blk.new W _ _⟩)
      clear hK hI hIa hE
      unfold chEnc
      gi_wp2
      exact HK.out

    case body =>
      rintro l pre c a' W hI hE ⟨g, rfl, hb⟩
      have hok := nextC_ok hE HO.out
      have hck := (right_rises hE.1).key c (nextC_mem hE)
      have hle := nextC_le hE
      have hlep := hI.1.2
      have HC := Lib.hid (fun W => countC_any c.2.1 hok.2.1.1 hok.2.1.2 c.2.2 hok.2.2 W)
      have HSl := Lib.hid (fun (z : Int) W => select_any c.2.1 hok.2.1.1 hok.2.1.2 c.2.2 hok.2.2 z W)
      unfold contV at HC HSl
      have hlm : (vals (readS c.2.1 c.2.2)).length ≤ 256 := valsTo_le _ 256
      obtain ⟨k, hkk⟩ : ∃ k : Nat, c.1 = (k : Int) := ⟨c.1.toNat, by omega⟩
      have HH := Lib.hid (fun (i : Nat) (hi : i < (vals (readS c.2.1 c.2.2)).length) (hp : p = (valsR pre).length + (i : Int)) => selZ_hit hE hkk hi hp)
      have HT : Hid ((valsR (pre ++ [c])).length = (valsR pre).length + (vals (readS c.2.1 c.2.2)).length) := Lib.hid (by rw [valsR_snoc, List.length_append, valsC_length])
      have HSm := Lib.hid (fun j => show (vals (readS c.2.1 c.2.2)).getD j 0 < 256 from by
        rw [List.getD_eq_getElem?_getD]
        cases e : (vals (readS c.2.1 c.2.2))[j]? with
        | none => decide
        | some z => exact vals_small _ z (List.mem_of_getElem? e))
      have HKp : Hid (∀ W2 : World, Below W.heap.size W W2 → KeepsOthers W W2 ∧ KpC (w.heap.size + 1 + 1 + 1 + 1) x len W W2) := Lib.hid fun W2 h => ⟨keepsB_below h, kpC_below h hI.lt (HX.out.mono hI.base)⟩
      have HKq : Hid (∀ (W2 : World) v, KpC (w.heap.size + 1 + 1 + 1 + 1) x len W2 (W2.setCell ⟨w.heap.size + 1, 0, none⟩ v)) := Lib.hid fun W2 v => kpC_set _ _ _ (by simp <;> omega) (fun b o e hl => by have := HX.out b o e hl; show b ≠ w.heap.size + 1; omega)
      have HS0 : Hid (SeS w (.slice x len cap) (p - ((valsR pre).length : Nat)) 0 false g c W) := Lib.hid ⟨⟨hI.1.1, hb⟩, hI.2⟩
      have HSv : Hid (∀ z : Int, selV (readS c.2.1 c.2.2) z = .tuple #[.int .i64 (selN (readS c.2.1 c.2.2) z : Nat), .bool (selOk (readS c.2.1 c.2.2) z)]) := Lib.hid fun z => rfl
      have HSn : Hid (∀ i : Nat, i < (vals (readS c.2.1 c.2.2)).length → selOk (readS c.2.1 c.2.2) i = true ∧ selN (readS c.2.1 c.2.2) i = (vals (readS c.2.1 c.2.2)).getD i 0) := Lib.hid fun i hi => by
        have h1 : selOk (readS c.2.1 c.2.2) i = true := by unfold selOk; simp; omega
        refine ⟨h1, ?_⟩
        unfold selN
        rw [if_pos h1, Int.toNat_natCast, List.getD_eq_getElem?_getD]
      have HSo : Hid (∀ i : Int, ((vals (readS c.2.1 c.2.2)).length : Int) ≤ i → selOk (readS c.2.1 c.2.2) i = false) := Lib.hid fun i hi => by unfold selOk; rw [Bool.and_eq_false_iff, decide_eq_false_iff_not, decide_eq_false_iff_not]; omega
      have hcell := HS0.out.held
      have c1 := hcell.1; have d1 := hcell.2.1; have d2 := hcell.2.2.1; have d0 := hb.cell 0
      dsimp at d0
      have hbw := hI.2.size
      clear hE hI hb hok hcell
      generalize readS c.2.1 c.2.2 = s at *
      generalize (valsR pre).length = q at *
      obtain ⟨ck, f, d⟩ := c
      dsimp only at *
      subst hkk
      obtain ⟨i, hi⟩ : ∃ i : Nat, p - (q : Int) = (i : Int) := ⟨(p - q).toNat, by omega⟩
      rw [hi] at c1 HS0
      by_cases hin : i < (vals s).length
      · have hS1 := HSl.out (i : Int)
        rw [HSv.out, (HSn.out i hin).1, (HSn.out i hin).2] at hS1
        have HV := Lib.hid (HH.out i hin (by omega))
        have hz := HSm.out i
        have HS1 := Lib.hid hS1
        clear hS1 HSl HH HSm HSn HSo HSv hin
        generalize (vals s).getD i 0 = z at *
        gi_wp2_with (refine ⟨trivial, ?_⟩; gi_at_call 35; refine (CallsIn.inRound l (callsIn_wide.2 (HS1.out _))).mono ?_; rintro e w6 ⟨rfl, hb6⟩; have hS6 := HS0.out.under hb6; have HS6 := Lib.hid hS6; have HB6 := Lib.hid hb6; have e0 := hS6.1.2.cell 0; dsimp at e0; have x2 := hS6.1.1.1.1.2.cell 0; have x3 := hS6.1.1.1.2.cell 0; have y2 := hS6.1.1.1.1.2.frozen 0; have y3 := hS6.1.1.1.2.frozen 0; dsimp at x2 x3; clear hS6 hb6)
        have c4 : (w6.setCell ⟨w.heap.size + 1 + 1, 0, none⟩ (.int .i64 ((256 * k + z : Nat) : Int))).cell? ⟨w.heap.size + 1 + 1 + 1, 0, none⟩ = some (.bool false) := (World.cell?_setCell_other _ _ _ _ (by simp)).trans x3
        gi_wp2_with (refine ⟨trivial, ?_⟩; gi_at_call 36; refine (CallsIn.inRound l (callsIn_wide.2 (num_any k z (by omega) hz _))).mono ?_; rintro e w7 ⟨rfl, rfl⟩)
        exact ⟨((HKp.out _ HB6.out).1.trans (KeepsOthers.setCell _ _ _)).trans (KeepsOthers.setCell _ _ _), ⟨⟨i, _, true, HS6.out.1.1.put _ _, HV.out⟩, rfl⟩, (HS6.out.2.setCell (by simp; omega) _).setCell (by simp; omega) _⟩
      · have hS1 := HSl.out (i : Int)
        rw [HSv.out, HSo.out (i : Int) (by omega)] at hS1
        have HS1 := Lib.hid hS1
        have hli : (vals s).length ≤ i := by omega
        clear hS1 HSl HH HSm HSn HSo HSv hin
        generalize selN s i = z at *
        generalize (vals s).length = m at *
        gi_wp2_with (refine ⟨trivial, ?_⟩; gi_at_call 35; refine (CallsIn.inRound l (callsIn_wide.2 (HS1.out _))).mono ?_; rintro e w6 ⟨rfl, hb6⟩; have hS6 := HS0.out.under hb6; have HS5 := Lib.hid hS6; have HB6 := Lib.hid hb6; clear hS6 hb6)
        have hw : IntKind.i64.wrap ((i : Int) - (m : Int)) = (i : Int) - (m : Int) := by rw [IntKind.wrap_i64]; omega
        refine wpIn_region_roundM (m := 5) (S := fun W => W.cell? ⟨w.heap.size + 1, 0, none⟩ = some (.int .i64 (i : Int)) ∧ W.cell? ⟨g, 1, none⟩ = some (.int .i64 f) ∧ W.cell? ⟨g, 2, none⟩ = some (.string ⟨d.toArray⟩) ∧ SeS w (.slice x len cap) (i : Int) 0 false g ((k : Int), f, d) W) (by kernel_rfl) (by kernel_rfl) (fun ⟨_, _, h⟩ => h) ((HS5.out.under ((Below.refl _ _).drew)).held) (fun hH => ?_)
        refine wpAnyM_take (by kernel_rfl) (i := 0) (by decide) (oi := { dst := some 26, op := Go.Op.load 3 (Go.Operand.tmp 3), type := 3, pos := "roar.go:116", after := #[], guard := none }) (v := ?_) rfl (by kernel_rfl) (by kernel_rfl) (by kernel_rfl) (fun _ _ _ h => h) (Or.inl ⟨by rfl, ?_⟩) hH ?_
        rotate_left
        · intro w hSw; (try dsimp only at hSw); go_simp; try with_reducible rfl
        try simp only [Act.put, List.setIfInBounds_toArray, List.set_cons_zero, List.set_cons_succ]
        refine wpAnyM_take (by kernel_rfl) (i := 1) (by decide) (oi := { dst := some 27, op := Go.Op.fieldAddr 54 (Go.Operand.tmp 6) 1, type := 0, pos := "roar.go:116", after := #[], guard := none }) (v := ?_) rfl (by kernel_rfl) (by kernel_rfl) (by kernel_rfl) (fun _ _ _ h => h) (Or.inl ⟨by rfl, ?_⟩) hH ?_
        rotate_left
        · intro w hSw; (try dsimp only at hSw); go_simp; try with_reducible rfl
        try simp only [Act.put, List.setIfInBounds_toArray, List.set_cons_zero, List.set_cons_succ]
        refine wpAnyM_take (by kernel_rfl) (i := 2) (by decide) (oi := { dst := some 28, op := Go.Op.load 52 (Go.Operand.tmp 27), type := 52, pos := "roar.go:116", after := #[{ on := 1, ground := Go.Ground.data }], guard := none }) (v := ?_) rfl (by kernel_rfl) (by kernel_rfl) (by kernel_rfl) (fun _ _ _ h => h) (Or.inl ⟨by rfl, ?_⟩) hH ?_
        rotate_left
        · intro w hSw; (try dsimp only at hSw); go_simp; try with_reducible rfl
        try simp only [Act.put, List.setIfInBounds_toArray, List.set_cons_zero, List.set_cons_succ]
        refine wpAnyM_one (i := 3) (by decide) (o := { dst := some 29, op := Go.Op.call { callee := Go.Callee.value (Go.Operand.func 37), args := #[Go.Operand.tmp 28], argTypes := #[52] }, type := 3, pos := "roar.go:116", after := #[{ on := 2, ground := Go.Ground.data }], guard := none }) (by kernel_rfl) rfl (fun K hK => ?_)
        go_simp
        go_at_call 37
        refine (HC.out _).mono ?_
        rintro e w7 ⟨rfl, hb7⟩
        first | refine hK.out _ _ ((hH.2.2.2.under hb7).held) (fun hH3 => ?_) | (go_wp2_with fail; refine hK.out _ _ ((hH.2.2.2.under hb7).held) (fun hH3 => ?_))
        clear hK K hH
        try simp only [Act.put, List.setIfInBounds_toArray, List.set_cons_zero, List.set_cons_succ]
        refine wpAnyM_take (by kernel_rfl) (i := 4) (by decide) (oi := { dst := some 30, op := Go.Op.binOp Go.BinOp.sub 3 (Go.Operand.tmp 26) (Go.Operand.tmp 29) 3, type := 3, pos := "roar.go:116", after := #[{ on := 0, ground := Go.Ground.data }, { on := 3, ground := Go.Ground.data }], guard := none }) (v := ?_) rfl (by kernel_rfl) (by kernel_rfl) (by kernel_rfl) (fun _ _ _ h => h) (Or.inl ⟨by rfl, ?_⟩) hH3 ?_
        rotate_left
        · intro w hSw; (try dsimp only at hSw); go_simp; try with_reducible rfl
        try simp only [Act.put, List.setIfInBounds_toArray, List.set_cons_zero, List.set_cons_succ]
        have hf := hH3.2.2.2.1.1.1.1.1.frozen 0
        refine wpAnyM_last (by kernel_rfl) (o := { dst := none, op := Go.Op.store 3 (Go.Operand.tmp 3) (Go.Operand.tmp 30), type := 0, pos := "roar.go:116", after := #[{ on := 4, ground := Go.Ground.data }, { on := 3, ground := Go.Ground.chain }, { on := 0, ground := Go.Ground.phase }, { on := 1, ground := Go.Ground.phase }, { on := 2, ground := Go.Ground.phase }, { on := 3, ground := Go.Ground.phase }, { on := 4, ground := Go.Ground.phase }], guard := none }) rfl (by kernel_rfl) (fun K hK => ?_)
        go_simp
        refine hK.out _ _ ?_
        clear hK K
        try simp only [Act.put, List.setIfInBounds_toArray, List.set_cons_zero, List.set_cons_succ]
        have hb8 := HB6.out.trans ((((Below.refl w6.heap.size w6).drew).trans hb7).mono HB6.out.size)
        exact ⟨(HKp.out _ hb8).1.trans (KeepsOthers.setCell _ _ _), kpC_t (HKp.out _ hb8).2 (HKq.out _ _), ⟨hH3.2.2.2.1.1.set (by rw [HT.out]; congr 1; omega), by rw [HT.out]; omega⟩, hH3.2.2.2.2.setCell (by simp) _⟩
    case done =>
      rintro D ys W hD rfl hI hK
      have HV := Lib.hid (selZ_high hI.1.2)
      have hB := hI.1.1
      have c2 := hB.1.1.2.cell 0; have c3 := hB.1.2.cell 0; have f2 := hB.1.1.2.frozen 0; have f3 := hB.1.2.frozen 0
      dsimp at c2 c3
      have c4 : (W.setCell ⟨w.heap.size + 1 + 1, 0, none⟩ (.int .i64 0)).cell? ⟨w.heap.size + 1 + 1 + 1, 0, none⟩ = some (.bool false) := (World.cell?_setCell_other _ _ _ _ (by simp)).trans c3
      have hSE := (hB.put 0 false).book (D := D) (by omega) (.deferred none)
      have hBe := (hI.2.setCell (p := ⟨w.heap.size + 1 + 1, 0, none⟩) (by simp; omega) (.int .i64 0)).setCell (p := ⟨w.heap.size + 1 + 1 + 1, 0, none⟩) (by simp; omega) (.bool false)
      have HE := Lib.hid (show _ ∧ _ ∧ _ from ⟨hSE.1.1.2.cell 0, hSE.1.2.cell 0, hBe.grown (grownBy_putObj' _ D (.deferred none)) hBe.size (fun k e => by cases e; omega)⟩)
      have hK2 : ((W.setCell ⟨w.heap.size + 1 + 1, 0, none⟩ (.int .i64 0)).setCell ⟨w.heap.size + 1 + 1 + 1, 0, none⟩ (.bool false)).heap[D]? = some (.deferred (some [])) := by
        rw [Below.heap_setCell _ _ _ _ (by simp; omega), Below.heap_setCell _ _ _ _ (by simp; omega)]; exact hK
      clear hI hB hSE hBe
      go_wp2
      try rw [Exit.noGoto_ret]
      exact ⟨by simp, .inl ⟨_, _, rfl, run_takeDeferred hK2, _, results_sel (t := 4) (u := 5) rfl rfl rfl HE.out.1 HE.out.2.1, ⟨by rw [HV.out], HE.out.2.2⟩⟩⟩
    case stop =>
      rintro D cd pre W hD hSp ⟨⟨⟨q, x, c, hSB, hV⟩, rfl⟩, hB⟩ hK
      have HV := Lib.hid hV
      have hSE := hSB.book (D := D) (by omega) (.deferred none)
      have HE := Lib.hid (show _ ∧ _ ∧ _ from ⟨hSE.1.1.2.cell 0, hSE.1.2.cell 0, hB.grown (grownBy_putObj' _ D (.deferred none)) hB.size (fun k e => by cases e; omega)⟩)
      clear hSB hV hB hSE
      refine (wpIn_wide (n := 4)).2 ?_
      go_wp2
      try rw [Exit.noGoto_ret]
      exact ⟨by simp, .inl ⟨_, _, rfl, run_takeDeferred hK, _, results_sel (t := 4) (u := 5) rfl rfl rfl HE.out.1 HE.out.2.1, ⟨by rw [HV.out], HE.out.2.2⟩⟩⟩
end Go.Proofs.Ytbfchlfagdhglaa
/- slices.IndexFunc, slices.DeleteFunc of chunks that are empty; roar.joined. -/
namespace Go.Proofs.Ytbfchlfagdhglaa
open Go.RowKit

/-- The chunks that are kept. -/
def keepC (r : List Ch) : List Ch := r.filter fun c => !decide (EmC c)
theorem keepC_snoc_yes {r : List Ch} {c : Ch} (h : ¬ EmC c) : keepC (r ++ [c]) = keepC r ++ [c] := by
  unfold keepC; rw [List.filter_append]; simp [h]
theorem keepC_snoc_no {r : List Ch} {c : Ch} (h : EmC c) : keepC (r ++ [c]) = keepC r := by
  unfold keepC; rw [List.filter_append]; simp [h]
theorem keepC_all {r : List Ch} (h : ∀ j, j < r.length → ¬ EmC (r.getD j noCh)) : keepC r = r := by
  unfold keepC
  rw [List.filter_eq_self]
  intro c hc
  obtain ⟨j, hj, e⟩ := List.mem_iff_getElem.1 hc
  have := h j hj
  rw [getD_get hj, e] at this
  simpa using this
/-- What IndexFunc answers: no empty chunk, or the first one. -/
def IdxR (r : List Ch) (W : World) (e : Ending) (w' : World) : Prop :=
  ((e = .returned (.int .i64 (-1)) ∧ ∀ j, j < r.length → ¬ EmC (r.getD j noCh)) ∨ ∃ k : Nat, e = .returned (.int .i64 (k : Nat)) ∧ k < r.length ∧ EmC (r.getD k noCh) ∧ ∀ j, j < k → ¬ EmC (r.getD j noCh)) ∧ Below W.heap.size W w'

set_option maxRecDepth 100000 in
set_option maxHeartbeats 2000000 in
theorem index_any (x : Option Addr) (len cap : Nat) (r : List Ch) (hm : len ≤ 9223372036854775807) (w : World) (h : Chs w.heap.size w (.slice x len cap) r) :
    Calls Try.prog 80 #[.slice x len cap, .func (.func 38) #[] #[]] w (IdxR r w) := by
  have HL := Lib.hid h.len
  have HC := Lib.hid h
  clear h
  go_enter Try.func80, Try.ntmps80
  go_wp2
  go_loopw [8] (fun i wr => ∃ k : Nat, k ≤ len ∧ i = .int .i64 k ∧ (∀ j, j < k → ¬ EmC (r.getD j noCh)) ∧ Below w.heap.size w wr)
    (fun i _ => len - (intOf i).toNat)
  case atStart => exact ⟨0, Nat.zero_le _, rfl, fun j hj => by omega, Below.refl _ _⟩
  case round =>
    obtain ⟨k, hk, rfl, hN, hB⟩ := hrel
    by_cases hlt : k < len
    · have hlt' : (k : Int) < len := by omega
      obtain ⟨b, o, rfl, hb, hd⟩ := HC.out.at_ hlt
      obtain ⟨d0, d1, d2⟩ := hd.below hB hb
      have HE := Lib.hid (fun W => empty_any (r.getD k noCh) W)
      have HN := Lib.hid hN
      have HB := Lib.hid hB
      by_cases he : EmC (r.getD k noCh)
      · rw [decide_eq_true he] at HE
        have HR : Hid (∀ w', Below wr.heap.size wr w' → IdxR r w (.returned (.int .i64 (k : Nat))) w') := Lib.hid fun w' hb => ⟨.inr ⟨k, rfl, by rw [HL.out]; exact hlt, he, HN.out⟩, HB.out.trans (hb.mono HB.out.size)⟩
        clear hN hB he
        generalize r.getD k noCh = c at *
        go_wp2_with (go_at_call 38; refine (HE.out _).mono ?_; rintro e w4 ⟨rfl, hb4⟩)
        go_ret
        exact HR.out _ hb4
      · rw [decide_eq_false he] at HE
        have HR : Hid (∀ j, j < k + 1 → ¬ EmC (r.getD j noCh)) := Lib.hid fun j hj => by
          by_cases e : j = k
          · rw [e]; exact he
          · exact HN.out j (by omega)
        clear hN hB he
        generalize r.getD k noCh = c at *
        go_wp2_with (go_at_call 38; refine (HE.out _).mono ?_; rintro e w4 ⟨rfl, hb4⟩)
        go_roundw
        case rel => exact ⟨k + 1, by omega, by simp, HR.out, HB.out.trans (hb4.mono HB.out.size)⟩
        case measure => simp [intOf]; omega
    · obtain rfl : k = len := by omega
      have hge : ¬ (k : Int) < k := by omega
      have HR : Hid (IdxR r w (.returned (.int .i64 (-1))) wr) := Lib.hid ⟨.inl ⟨rfl, fun j hj => hN j (by rw [← HL.out]; exact hj)⟩, hB⟩
      clear hN hB
      go_wp2
      go_ret
      exact HR.out

/-! ### A row of chunks, written into -/
def RowQ (W : World) (g cap n : Nat) (q : List Ch) : Prop := q.length = n ∧ ∃ cur, W.heap[g]? = some (.cells cur 54 (0, 0)) ∧ n ≤ cap ∧ cap ≤ maxLen ∧ cur.size = cap * 3 ∧ cur.toList.take (n * 3) = chsCells q
theorem RowQ.blk {W : World} {g cap n : Nat} {q : List Ch} (h : RowQ W g cap n q) : ∃ cur, Blk W g 54 cur ∧ cur.size = cap * 3 ∧ n ≤ cap ∧ ∀ i, i < n * 3 → cur[i]? = (chsCells q)[i]? := by
  obtain ⟨hl, cur, hb, h1, h2, h3, h4⟩ := h
  refine ⟨cur, hb, h3, h1, fun i hi => ?_⟩
  rw [← h4, List.getElem?_take, if_pos hi]; simp
theorem RowQ.lt {W : World} {g cap n : Nat} {q : List Ch} (h : RowQ W g cap n q) : g < W.heap.size := by
  obtain ⟨_, cur, hb, _⟩ := h
  exact (Array.getElem?_eq_some_iff.1 hb).1
theorem RowQ.under {A B : World} {g cap n : Nat} {q : List Ch} (h : RowQ A g cap n q) (hb : Below A.heap.size A B) : RowQ B g cap n q := by
  have hlt := h.lt
  obtain ⟨hl, cur, h0, h1⟩ := h
  exact ⟨hl, cur, (hb.block g hlt).trans h0, h1⟩
theorem RowQ.at_ {W : World} {g cap n : Nat} {q : List Ch} (h : RowQ W g cap n q) {j : Nat} (hj : j < n) : ChAt W g (j * 3) (q.getD j noCh) ∧ (∀ i, i < 3 → W.frozen? ⟨g, j * 3 + i, none⟩ = false) := by
  have hl := h.1
  obtain ⟨cur, hb, hs, hc, hg⟩ := h.blk
  have key : ∀ i, i < 3 → W.cell? ⟨g, j * 3 + i, none⟩ = (chCells (q.getD j noCh))[i]? := fun i hi => by
    rw [hb.cell (j * 3 + i), hg _ (by omega), chsCells_get q j i (by omega) hi]
  exact ⟨⟨key 0 (by decide), key 1 (by decide), key 2 (by decide)⟩, fun i _ => hb.frozen _⟩
theorem chsCells_set (q : List Ch) (i : Nat) (c : Ch) (hi : i < q.length) (k : Nat) : (chsCells (q.set i c))[k]? = if k = i * 3 then some (.int .i64 c.1) else if k = i * 3 + 1 then some (.int .i64 c.2.1) else if k = i * 3 + 2 then some (.string ⟨c.2.2.toArray⟩) else (chsCells q)[k]? := by
  by_cases hk : k < q.length * 3
  · have e1 : k = k / 3 * 3 + k % 3 := by omega
    have hm : k % 3 < 3 := Nat.mod_lt _ (by decide)
    have h1 := chsCells_get (q.set i c) (k / 3) (k % 3) (by rw [List.length_set]; omega) hm
    have h2 := chsCells_get q (k / 3) (k % 3) (by omega) hm
    rw [← e1] at h1 h2
    rw [h1, h2]
    by_cases hki : k / 3 = i
    · have : (q.set i c).getD (k / 3) noCh = c := by
        rw [List.getD_eq_getElem?_getD, hki, List.getElem?_set_self hi]; rfl
      rw [this]
      have h3 : k % 3 = 0 ∨ k % 3 = 1 ∨ k % 3 = 2 := by omega
      rcases h3 with h3 | h3 | h3
      · rw [if_pos (by omega), h3]; rfl
      · rw [if_neg (by omega), if_pos (by omega), h3]; rfl
      · rw [if_neg (by omega), if_neg (by omega), if_pos (by omega), h3]; rfl
    · rw [if_neg (by omega), if_neg (by omega), if_neg (by omega)]
      rw [List.getD_eq_getElem?_getD, List.getD_eq_getElem?_getD, List.getElem?_set_ne (by omega)]
  · rw [List.getElem?_eq_none (by rw [chsCells_length, List.length_set]; omega), List.getElem?_eq_none (by rw [chsCells_length]; omega), if_neg (by omega), if_neg (by omega), if_neg (by omega)]
theorem RowQ.set {W : World} {g cap n : Nat} {q : List Ch} (h : RowQ W g cap n q) {i : Nat} (hi : i < n) (c : Ch) : RowQ (((W.setCell ⟨g, i * 3, none⟩ (.int .i64 c.1)).setCell ⟨g, i * 3 + 1, none⟩ (.int .i64 c.2.1)).setCell ⟨g, i * 3 + 2, none⟩ (.string ⟨c.2.2.toArray⟩)) g cap n (q.set i c) := by
  obtain ⟨hl, cur, hb, h1, h2, h3, h4⟩ := h
  have hb1 := (((show Blk W g 54 cur from hb).set_ (i * 3) (.int .i64 c.1)).set_ (i * 3 + 1) (.int .i64 c.2.1)).set_ (i * 3 + 2) (.string ⟨c.2.2.toArray⟩)
  refine ⟨by rw [List.length_set]; exact hl, _, hb1, h1, h2, by simp; exact h3, ?_⟩
  apply List.ext_getElem?
  intro k
  rw [chsCells_set q i c (by omega), ← h4]
  rw [List.getElem?_take, List.getElem?_take]
  by_cases hk : k < n * 3
  · rw [if_pos hk, if_pos hk]
    rw [Array.getElem?_toList, Array.getElem?_setIfInBounds, Array.getElem?_setIfInBounds, Array.getElem?_setIfInBounds]
    have hkc : k < cap * 3 := by omega
    simp only [Array.size_setIfInBounds, h3]
    by_cases e2 : i * 3 + 2 = k
    · rw [if_pos e2, if_pos (by omega), if_neg (by omega), if_neg (by omega), if_pos e2.symm]
    · rw [if_neg e2]
      by_cases e1 : i * 3 + 1 = k
      · rw [if_pos e1, if_pos (by omega), if_neg (by omega), if_pos e1.symm]
      · rw [if_neg e1]
        by_cases e0 : i * 3 = k
        · rw [if_pos e0, if_pos (by omega), if_pos e0.symm]
        · rw [if_neg e0, if_neg (fun e => e0 e.symm), if_neg (fun e => e1 e.symm), if_neg (fun e => e2 e.symm), Array.getElem?_toList]
  · rw [if_neg hk, if_neg hk, if_neg (by omega), if_neg (by omega), if_neg (by omega)]
theorem chsCells_take (q : List Ch) (i : Nat) (h : i ≤ q.length) : (chsCells q).take (i * 3) = chsCells (q.take i) := by
  have e : chsCells q = chsCells (q.take i) ++ chsCells (q.drop i) := by rw [← chsCells_append, List.take_append_drop]
  have hl : (chsCells (q.take i)).length = i * 3 := by rw [chsCells_length, List.length_take, Nat.min_eq_left h]
  rw [e, ← hl, List.take_left']
  rfl
theorem RowQ.own {W : World} {g cap n : Nat} {q : List Ch} (h : RowQ W g cap n q) {i base : Nat} (hi : i ≤ n) (hb : base ≤ g) : W.ownsRow base 54 3 (.slice (some ⟨g, 0, none⟩) i cap) i (chsCells (q.take i)) := by
  obtain ⟨hl, cur, h0, h1, h2, h3, h4⟩ := h
  refine ⟨by rw [chsCells_length, List.length_take, Nat.min_eq_left (by omega)], .inr ⟨g, cap, cur, rfl, hb, h0, by omega, h2, h3, ?_⟩⟩
  rw [← chsCells_take q i (by omega), ← h4, List.take_take, Nat.min_eq_left (by omega)]
theorem RowQ.of_own {W : World} {g cap n base : Nat} {q : List Ch} (hq : q.length = n) (h : W.ownsRow base 54 3 (.slice (some ⟨g, 0, none⟩) n cap) n (chsCells q)) : RowQ W g cap n q ∧ base ≤ g := by
  rcases h.2 with ⟨e, _⟩ | ⟨g', c', cur, e, hb, h0, h1, h2, h3, h4⟩
  · cases e
  · cases e
    exact ⟨⟨hq, cur, h0, h1, h2, h3, h4⟩, hb⟩

/-! ### The row while chunks are deleted -/
def KInv (r q : List Ch) (i j : Nat) : Prop := q.length = r.length ∧ i < j ∧ q.take i = keepC (r.take j) ∧ q.drop j = r.drop j
theorem KInv.start {r : List Ch} {k : Nat} (hk : k < r.length) (he : EmC (r.getD k noCh)) (ha : ∀ j, j < k → ¬ EmC (r.getD j noCh)) : KInv r r k (k + 1) := by
  refine ⟨rfl, by omega, ?_, rfl⟩
  rw [take_get hk, keepC_snoc_no he, keepC_all]
  intro j hj
  rw [List.length_take] at hj
  have : (r.take k).getD j noCh = r.getD j noCh := by
    rw [List.getD_eq_getElem?_getD, List.getElem?_take, if_pos (by omega), List.getD_eq_getElem?_getD]
  rw [this]
  exact ha j (by omega)
theorem KInv.at_ {r q : List Ch} {i j : Nat} (h : KInv r q i j) : q.getD j noCh = r.getD j noCh := by
  have h1 := congrArg (fun l => l[0]?) h.2.2.2
  simp only [List.getElem?_drop, Nat.add_zero] at h1
  rw [List.getD_eq_getElem?_getD, h1, List.getD_eq_getElem?_getD]
theorem drop_succ {r q : List Ch} {j : Nat} (h : q.drop j = r.drop j) : q.drop (j + 1) = r.drop (j + 1) := by
  rw [← List.drop_drop, ← List.drop_drop, h]
theorem KInv.keep {r q : List Ch} {i j : Nat} (h : KInv r q i j) (hj : j < r.length) (he : ¬ EmC (r.getD j noCh)) : KInv r (q.set i (r.getD j noCh)) (i + 1) (j + 1) := by
  obtain ⟨h1, h2, h3, h4⟩ := h
  refine ⟨by rw [List.length_set]; exact h1, by omega, ?_, ?_⟩
  · rw [take_get hj, keepC_snoc_yes he, ← h3, List.take_add_one, List.take_set_of_le (Nat.le_refl _), List.getElem?_set_self (by omega)]; rfl
  · rw [List.drop_set_of_lt (by omega)]; exact drop_succ h4
theorem KInv.skip {r q : List Ch} {i j : Nat} (h : KInv r q i j) (hj : j < r.length) (he : EmC (r.getD j noCh)) : KInv r q i (j + 1) := by
  obtain ⟨h1, h2, h3, h4⟩ := h
  exact ⟨h1, by omega, by rw [take_get hj, keepC_snoc_no he, h3], drop_succ h4⟩
theorem KInv.done {r q : List Ch} {i : Nat} (h : KInv r q i r.length) : q.take i = keepC r ∧ i = (keepC r).length := by
  obtain ⟨h1, h2, h3, h4⟩ := h
  rw [List.take_of_length_le (Nat.le_refl r.length)] at h3
  refine ⟨h3, ?_⟩
  rw [← h3, List.length_take, Nat.min_eq_left (by omega)]
end Go.Proofs.Ytbfchlfagdhglaa
