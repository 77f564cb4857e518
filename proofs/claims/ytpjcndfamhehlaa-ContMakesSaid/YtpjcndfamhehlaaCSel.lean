/- cont.Select: the number of a place. -/
import Derived.Test.YtpjcndfamhehlaaCRank
namespace Go.Proofs.Ytpjcndfamhehlaa
open Go.RowKit
attribute [local go_sem] Oper.semAt_some

theorem place_at {s : Bs} {x : Nat} (hx : x < 256) (hs : s x = true) : (vals s)[(valsTo s x).length]? = some x := by
  obtain ⟨r, e, _⟩ := valsTo_take s (x + 1) 256 (by omega)
  rw [valsTo_succ s x, if_pos hs] at e
  show (valsTo s 256)[_]? = _
  rw [e, List.getElem?_append_left (by simp), List.getElem?_append_right (Nat.le_refl _)]; simp
/-- What Select answers. -/
def selOk (s : Bs) (p : Int) : Bool := decide (0 ≤ p) && decide (p < (vals s).length)
def selN (s : Bs) (p : Int) : Nat := if selOk s p = true then (vals s)[p.toNat]?.getD 0 else 0
def selV (s : Bs) (p : Int) : Value := .tuple #[.int .i64 (selN s p : Nat), .bool (selOk s p)]
theorem sel_hit {s : Bs} {x : Nat} {p : Int} (hx : x < 256) (hs : s x = true) (hp : ((valsTo s x).length : Int) = p) : selV s p = .tuple #[.int .i64 (x : Nat), .bool true] := by
  have h := place_at hx hs
  obtain ⟨h1, _⟩ := List.getElem?_eq_some_iff.1 h
  subst hp
  have ho : selOk s ((valsTo s x).length : Int) = true := by unfold selOk; simp; omega
  unfold selV selN
  rw [if_pos ho, ho, Int.toNat_natCast, h]; rfl
/-- No place ahead of k is p. -/
def NoneAt (p : Int) (k : Nat) : Prop := ∀ j : Nat, j < k → (j : Int) ≠ p
theorem sel_miss {s : Bs} {p : Int} (h : NoneAt p (vals s).length) : selV s p = .tuple #[.int .i64 0, .bool false] := by
  have ho : selOk s p = false := by
    unfold selOk
    rw [Bool.and_eq_false_iff, decide_eq_false_iff_not, decide_eq_false_iff_not]
    rcases Int.lt_or_le p 0 with h0 | h0
    · exact .inl (by omega)
    · refine .inr fun h1 => h p.toNat (by omega) (by omega)
  unfold selV selN
  rw [ho]; rfl
theorem results_sel {fn : Func} {t u : Tmp} (h : fn.results = #[.cell t 3, .cell u 4]) {tmps : Array Value} {w : World} {g k : Nat} {x : Int} {b : Bool} (hp : tmps.getD t undef = .pointer (some ⟨g, 0, none⟩)) (hq : tmps.getD u undef = .pointer (some ⟨k, 0, none⟩))
    (hx : w.cell? ⟨g, 0, none⟩ = some (.int .i64 x)) (hb : w.cell? ⟨k, 0, none⟩ = some (.bool b)) : (results fn tmps).run Try.prog w = .ok (.tuple #[.int .i64 x, .bool b]) w := by
  rw [Array.getD_eq_getD_getElem?] at hp hq
  simp [results, h, hp, hq, asAddr, go_sem, hx, hb, Try.isAgg3, Try.isAgg4]
/-- The blocks that are there ahead of the loop: the place's, the two results'. -/
def SelB (w : World) (p x : Int) (b : Bool) (W : World) : Prop := (Blk W (w.heap.size + 1) 3 #[.int .i64 p] ∧ Blk W (w.heap.size + 1 + 1) 3 #[.int .i64 x]) ∧ Blk W (w.heap.size + 1 + 1 + 1) 4 #[.bool b]
theorem SelB.start (w : World) (f : Int) (d : List UInt8) (p : Int) : SelB w p 0 false ((((w.alloc (.cells #[.int .i64 f, .string ⟨d.toArray⟩] 23)).alloc (.cells #[.int .i64 p] 3)).alloc (.cells #[.int .i64 0] 3)).alloc (.cells #[.bool false] 4)) := by
  have h1 := ((Blk.new (w.alloc (.cells #[.int .i64 f, .string ⟨d.toArray⟩] 23)) 3 #[.int .i64 p]).alloc (.cells #[.int .i64 0] 3)).alloc (.cells #[.bool false] 4)
  have h2 := (Blk.new ((w.alloc (.cells #[.int .i64 f, .string ⟨d.toArray⟩] 23)).alloc (.cells #[.int .i64 p] 3)) 3 #[.int .i64 0]).alloc (.cells #[.bool false] 4)
  have h3 := Blk.new (((w.alloc (.cells #[.int .i64 f, .string ⟨d.toArray⟩] 23)).alloc (.cells #[.int .i64 p] 3)).alloc (.cells #[.int .i64 0] 3)) 4 #[.bool false]
  rw [World.size_alloc] at h1
  rw [World.size_alloc, World.size_alloc] at h2
  rw [World.size_alloc, World.size_alloc, World.size_alloc] at h3
  exact ⟨⟨h1, h2⟩, h3⟩
theorem SelB.under {w a b : World} {p x : Int} {c : Bool} (h : SelB w p x c a) (hb : Below a.heap.size a b) : SelB w p x c b := ⟨⟨h.1.1.under hb, h.1.2.under hb⟩, h.2.under hb⟩
theorem SelB.far {w a : World} {p x : Int} {c : Bool} (h : SelB w p x c a) {q : Addr} (hq : w.heap.size + 1 + 1 + 1 < q.block) (v : Value) : SelB w p x c (a.setCell q v) := ⟨⟨h.1.1.far (by omega) v, h.1.2.far (by omega) v⟩, h.2.far (by omega) v⟩
theorem SelB.put {w a : World} {p x : Int} {c : Bool} (h : SelB w p x c a) (y : Int) (e : Bool) : SelB w p y e ((a.setCell ⟨w.heap.size + 1 + 1, 0, none⟩ (.int .i64 y)).setCell ⟨w.heap.size + 1 + 1 + 1, 0, none⟩ (.bool e)) :=
  ⟨⟨(h.1.1.far (p := ⟨w.heap.size + 1 + 1, 0, none⟩) (by simp) _).far (p := ⟨w.heap.size + 1 + 1 + 1, 0, none⟩) (by simp) _, (h.1.2.set_ 0 (.int .i64 y)).far (p := ⟨w.heap.size + 1 + 1 + 1, 0, none⟩) (by simp) _⟩, (h.2.far (p := ⟨w.heap.size + 1 + 1, 0, none⟩) (by simp) _).set_ 0 (.bool e)⟩
theorem SelB.cells {w a : World} {p x : Int} {c : Bool} (h : SelB w p x c a) : a.cell? ⟨w.heap.size + 1, 0, none⟩ = some (.int .i64 p) ∧ a.cell? ⟨w.heap.size + 1 + 1, 0, none⟩ = some (.int .i64 x) ∧ a.cell? ⟨w.heap.size + 1 + 1 + 1, 0, none⟩ = some (.bool c) ∧ a.frozen? ⟨w.heap.size + 1 + 1, 0, none⟩ = false ∧ a.frozen? ⟨w.heap.size + 1 + 1 + 1, 0, none⟩ = false :=
  ⟨h.1.1.cell 0, h.1.2.cell 0, h.2.cell 0, h.1.2.frozen 0, h.2.frozen 0⟩
theorem selB_own {β : Type} (w : World) (p x : Int) (c : Bool) : Own (fun (_ : β) W => SelB w p x c W) := fun s X Y row hs hg hr =>
  ⟨⟨blk_own _ _ (fun _ => #[.int .i64 p]) s X Y row hs.1.1 hg hr, blk_own _ _ (fun _ => #[.int .i64 x]) s X Y row hs.1.2 hg hr⟩, blk_own _ _ (fun _ => #[.bool c]) s X Y row hs.2 hg hr⟩
theorem SelB.book {w a : World} {p x : Int} {c : Bool} (h : SelB w p x c a) {D : Nat} (hD : w.heap.size + 1 + 1 + 1 < D) (o : Obj) : SelB w p x c (a.putObj D o) := ⟨⟨(World.putObj_heap_other (by omega)).trans h.1.1, (World.putObj_heap_other (by omega)).trans h.1.2⟩, (World.putObj_heap_other (by omega)).trans h.2⟩
theorem SelB.lt {w a : World} {p x : Int} {c : Bool} (h : SelB w p x c a) : w.heap.size + 1 + 1 + 1 < a.heap.size := h.2.lt
/-- What holds between two rounds, and when the loop is left. -/
def SelI (w w1 : World) (p : Int) (pre : List Nat) (W : World) : Prop :=
  (((Blk W (w1.heap.size + 1) 3 #[.int .i64 (pre.length : Nat)] ∧ Blk W (w1.heap.size + 1 + 1) 67 #[.pointer (some ⟨w1.heap.size, 0, none⟩)]) ∧ SelB w p 0 false W) ∧ NoneAt p pre.length) ∧ Below w.heap.size w W
def SelX (w : World) (s : Bs) (p : Int) (cd : Code) (_ : List Nat) (W : World) : Prop := ((∃ x b, SelB w p x b W ∧ selV s p = .tuple #[.int .i64 x, .bool b]) ∧ cd = .ret) ∧ Below w.heap.size w W
theorem selI_own (w w1 : World) (p : Int) (m : Nat) (hm : w.heap.size ≤ m) : OwnFrom m (SelI w w1 p) :=
  OwnFrom.and (OwnFrom.and (OwnFrom.and (OwnFrom.and (Own.from (blk_own _ _ (fun (pre : List Nat) => #[.int .i64 (pre.length : Nat)])) _) (Own.from (blk_own _ _ (fun _ => #[.pointer (some ⟨w1.heap.size, 0, none⟩)])) _)) (Own.from (selB_own w p 0 false) _)) (ownFrom_pure _ _)) (ownFrom_below (Nat.le_refl _) hm)
theorem selX_own (w : World) (s : Bs) (p : Int) (cd : Code) (m : Nat) (hm : w.heap.size ≤ m) : OwnFrom m (SelX w s p cd) :=
  OwnFrom.and (OwnFrom.and (Own.from (fun pre X Y row ⟨x, b, h, e⟩ hg hr => ⟨x, b, selB_own w p x b pre X Y row h hg hr, e⟩) _) (ownFrom_pure _ _)) (ownFrom_below (Nat.le_refl _) hm)

set_option maxRecDepth 100000 in
set_option maxHeartbeats 4000000 in
theorem select_any (f : Int) (hf1 : -9223372036854775808 ≤ f) (hf2 : f ≤ 9223372036854775807) (d : List UInt8) (hd : d.length ≤ 9223372036854775807) (p : Int) (w : World) :
    Calls Try.prog 18 #[contV f d, .int .i64 p] w fun e w' => e = .returned (selV (readS f d) p) ∧ Below w.heap.size w w' := by
  have hz := zero_set
  have hss := scl_size
  have hst := st_new
  have hB0 : Below w.heap.size w ((((w.alloc (.cells #[.int .i64 f, .string ⟨d.toArray⟩] 23)).alloc (.cells #[.int .i64 p] 3)).alloc (.cells #[.int .i64 0] 3)).alloc (.cells #[.bool false] 4)) := ((((Below.refl _ w).alloc (Nat.le_refl _) _).alloc (by simp) _).alloc (by simp; omega) _).alloc (by simp; omega) _
  have hSB0 := SelB.start w f d p
  have HR := Lib.hid (read_any f hf1 hf2 d hd ((((w.alloc (.cells #[.int .i64 f, .string ⟨d.toArray⟩] 23)).alloc (.cells #[.int .i64 p] 3)).alloc (.cells #[.int .i64 0] 3)).alloc (.cells #[.bool false] 4)))
  unfold readV contV at HR
  unfold contV
  generalize readS f d = s at *
  generalize decide (RightC f d) = b at *
  refine (callsIn_wide (n := 4)).1 ?_
  refine callsIn_of_wp_marks Try.func18 rfl trivial ?_ rfl
  simp only [Try.ntmps18, List.size_toArray, List.length_cons, List.length_nil, Nat.reduceAdd, Nat.reduceSub, Array.replicate_succ, Array.replicate_zero, List.push_toArray, List.append_toArray, List.nil_append, List.cons_append]
  rw [wpIn_wide]
  go_wp2_with fail
  refine HR.out.mono ?_
  rintro e w1 ⟨rfl, hb1⟩
  have hB1 := hB0.trans (hb1.mono hB0.size)
  have bS := Blk.new w1 48 (scl s)
  have hSB1 := hSB0.under hb1
  have hw1 := hSB1.lt
  clear hb1 hSB0
  go_wp2_with (go_at_call 37; refine (numbers_any _ _).mono ?_; rintro e w' ⟨rfl, rfl⟩)
  have bR0 := (Blk.new (w1.alloc (.cells (scl s) 48)) 3 #[.int .i64 0]).alloc (.cells #[.pointer (some ⟨w1.heap.size, 0, none⟩)] 67)
  have bL0 := Blk.new ((w1.alloc (.cells (scl s) 48)).alloc (.cells #[.int .i64 0] 3)) 67 #[.pointer (some ⟨w1.heap.size, 0, none⟩)]
  have bS0 := (bS.alloc (.cells #[.int .i64 0] 3)).alloc (.cells #[.pointer (some ⟨w1.heap.size, 0, none⟩)] 67)
  have hB4 : Below w1.heap.size w1 (((w1.alloc (.cells (scl s) 48)).alloc (.cells #[.int .i64 0] 3)).alloc (.cells #[.pointer (some ⟨w1.heap.size, 0, none⟩)] 67)) := (((Below.refl _ _).alloc (Nat.le_refl _) _).alloc (by simp) _).alloc (by simp; omega) _
  have hSB2 := hSB1.under hB4
  have hB5 := hB1.trans (hB4.mono hB1.size)
  have hsz0 : (((w1.alloc (.cells (scl s) 48)).alloc (.cells #[.int .i64 0] 3)).alloc (.cells #[.pointer (some ⟨w1.heap.size, 0, none⟩)] 67)).heap.size = w1.heap.size + 1 + 1 + 1 := by simp
  rw [World.size_alloc] at bR0
  rw [World.size_alloc, World.size_alloc] at bL0
  generalize (((w1.alloc (.cells (scl s) 48)).alloc (.cells #[.int .i64 0] 3)).alloc (.cells #[.pointer (some ⟨w1.heap.size, 0, none⟩)] 67)) = W0 at *
  refine (wpIn_wide (n := 4)).1 ?_
  refine wpIn_rangeFunc_nextD (n := 4) rfl (by decide) (gf := 45) (lb := #[.pointer (some ⟨w1.heap.size + 1 + 1, 0, none⟩)]) rfl trivial (enters_of Try.func45 (by kernel_rfl) rfl)
    (numbers_seq 3 (by decide) (w1.heap.size + 1 + 1) w1.heap.size s W0 bL0 bS0) keeps2_t (fun W l o hl => keeps2_b (B := W0.heap.size) (by omega) (by omega) W l o hl) (fun _ => rfl)
    (SelI w w1 p) (SelX w s p) (selI_own w w1 p _ (by omega)) (fun cd => selX_own w s p cd _ (by omega))
    ⟨⟨⟨⟨bR0, bL0⟩, hSB2⟩, fun j hj => by cases hj⟩, hB5⟩
    (fun x => { tmps := #[.agg #[.int .i64 f, .string ⟨d.toArray⟩], .int .i64 p, .pointer (some ⟨w.heap.size, 0, none⟩), .pointer (some ⟨w.heap.size + 1, 0, none⟩), .pointer (some ⟨w.heap.size + 1 + 1, 0, none⟩), .pointer (some ⟨w.heap.size + 1 + 1 + 1, 0, none⟩), .pointer (some ⟨w1.heap.size, 0, none⟩), .bool b, .pointer (some ⟨w1.heap.size + 1, 0, none⟩), .int .i64 (x : Nat), .tuple #[.agg (scl s), .bool b], .agg #[.int .i64 f, .string ⟨d.toArray⟩], .tuple #[.agg (scl s), .bool b], .agg (scl s), .bool b, .func (.func 45) #[] #[.pointer (some ⟨w1.heap.size + 1 + 1, 0, none⟩)], .int .i64 (x : Nat), undef, undef, undef, undef, undef, undef], defers := [] }) ?assign ?body ?done ?stop
  case assign =>
    intro l x W K hK
    gi_wp2
    exact hK
  case body =>
    rintro l pre x W ⟨⟨⟨⟨bR, bL⟩, hSB⟩, hne⟩, hB⟩ ⟨hx, hsx, hpre⟩
    have hlp : pre.length ≤ 256 := by rw [hpre]; exact Nat.le_trans (valsTo_le s x) (by omega)
    have c1 := bR.cell 0; have f1 := bR.frozen 0
    dsimp at c1
    obtain ⟨c0, c2, c3, f2, f3⟩ := hSB.cells
    by_cases he : (pre.length : Int) = p
    · have HX : Hid (SelX w s p .ret (pre ++ [x]) ((W.setCell ⟨w.heap.size + 1 + 1, 0, none⟩ (.int .i64 (x : Nat))).setCell ⟨w.heap.size + 1 + 1 + 1, 0, none⟩ (.bool true))) := Lib.hid ⟨⟨⟨x, true, hSB.put _ _, sel_hit hx hsx (by rw [← hpre]; exact he)⟩, rfl⟩, (hB.setCell (p := ⟨w.heap.size + 1 + 1, 0, none⟩) (by simp; omega) _).setCell (p := ⟨w.heap.size + 1 + 1 + 1, 0, none⟩) (by simp; omega) _⟩
      have c4 : (W.setCell ⟨w.heap.size + 1 + 1, 0, none⟩ (.int .i64 (x : Nat))).cell? ⟨w.heap.size + 1 + 1 + 1, 0, none⟩ = some (.bool false) := (World.cell?_setCell_other _ _ _ _ (by simp)).trans c3
      have he' : ((pre.length : Int) == p) = true := by simpa using he
      clear hne hpre bR bL hSB hB he
      gi_wp2
      exact ⟨(KeepsOthers.setCell _ _ _).trans (KeepsOthers.setCell _ _ _), HX.out⟩
    · have HI : Hid (SelI w w1 p (pre ++ [x]) (W.setCell ⟨w1.heap.size + 1, 0, none⟩ (.int .i64 ((pre.length : Int) + 1)))) := Lib.hid ⟨⟨⟨⟨by
          have := bR.set_ 0 (.int .i64 ((pre.length : Int) + 1))
          rw [show ((pre ++ [x]).length : Nat) = pre.length + 1 by simp]; exact this, bL.far (p := ⟨w1.heap.size + 1, 0, none⟩) (by simp) _⟩, hSB.far (q := ⟨w1.heap.size + 1, 0, none⟩) (by simp; omega) _⟩, fun j hj => by
            rw [List.length_append, List.length_singleton] at hj
            by_cases e : j = pre.length
            · rw [e]; exact he
            · exact hne j (by omega)⟩, hB.setCell (p := ⟨w1.heap.size + 1, 0, none⟩) (by simp; omega) _⟩
      have HK := Lib.hid (keeps2_set (Ba := w1.heap.size + 1 + 1) (Bb := w1.heap.size) W ⟨w1.heap.size + 1, 0, none⟩ (.int .i64 ((pre.length : Int) + 1)) (by simp) (by simp))
      have he' : ((pre.length : Int) == p) = false := by simpa using he
      clear hne hpre bR bL hSB hB he
      gi_wp2
      exact ⟨KeepsOthers.setCell _ _ _, HK.out, HI.out⟩
  case done =>
    rintro D ys W hD rfl ⟨⟨⟨⟨bR, bL⟩, hSB⟩, hne⟩, hB⟩ hK
    have HV := Lib.hid (sel_miss hne)
    obtain ⟨c0, c2, c3, f2, f3⟩ := hSB.cells
    have c4 : (W.setCell ⟨w.heap.size + 1 + 1, 0, none⟩ (.int .i64 0)).cell? ⟨w.heap.size + 1 + 1 + 1, 0, none⟩ = some (.bool false) := (World.cell?_setCell_other _ _ _ _ (by simp)).trans c3
    have hSE := (hSB.put 0 false).book (D := D) (by omega) (.deferred none)
    have hBe := (hB.setCell (p := ⟨w.heap.size + 1 + 1, 0, none⟩) (by simp; omega) (.int .i64 0)).setCell (p := ⟨w.heap.size + 1 + 1 + 1, 0, none⟩) (by simp; omega) (.bool false)
    have HE := Lib.hid (show _ ∧ _ ∧ _ from ⟨hSE.cells.2.1, hSE.cells.2.2.1, hBe.grown (grownBy_putObj' _ D (.deferred none)) hBe.size (fun k e => by cases e; omega)⟩)
    have hK2 : ((W.setCell ⟨w.heap.size + 1 + 1, 0, none⟩ (.int .i64 0)).setCell ⟨w.heap.size + 1 + 1 + 1, 0, none⟩ (.bool false)).heap[D]? = some (.deferred (some [])) := by
      rw [Below.heap_setCell _ _ _ _ (by simp; omega), Below.heap_setCell _ _ _ _ (by simp; omega)]; exact hK
    clear bR bL hSB hne hB hSE hBe
    go_wp2
    try rw [Exit.noGoto_ret]
    exact ⟨by simp, .inl ⟨_, _, rfl, run_takeDeferred hK2, _, results_sel (t := 4) (u := 5) rfl rfl rfl HE.out.1 HE.out.2.1, ⟨by rw [HV.out], HE.out.2.2⟩⟩⟩
  case stop =>
    rintro D cd pre W hD hSp ⟨⟨⟨x, c, hSB, hV⟩, rfl⟩, hB⟩ hK
    have HV := Lib.hid hV
    have hSE := hSB.book (D := D) (by omega) (.deferred none)
    have HE := Lib.hid (show _ ∧ _ ∧ _ from ⟨hSE.cells.2.1, hSE.cells.2.2.1, hB.grown (grownBy_putObj' _ D (.deferred none)) hB.size (fun k e => by cases e; omega)⟩)
    clear hSB hV hB hSE
    refine (wpIn_wide (n := 4)).2 ?_
    go_wp2
    try rw [Exit.noGoto_ret]
    exact ⟨by simp, .inl ⟨_, _, rfl, run_takeDeferred hK, _, results_sel (t := 4) (u := 5) rfl rfl rfl HE.out.1 HE.out.2.1, ⟨by rw [HV.out], HE.out.2.2⟩⟩⟩
end Go.Proofs.Ytpjcndfamhehlaa
