import Derived.Test.YtbfchlfagdhglaaMG16
import Derived.Test.YtbfchlfagdhglaaMG10
import Derived.Carry
import Derived.ChangeMaps4
/- slices.DeleteFunc of chunks that are empty; roar.joined. -/
namespace Go.Proofs.Ytbfchlfagdhglaa
open Go.RowKit

theorem setCells_blk (g : Nat) (t : TypeId) : ∀ (vs : List Value) (o : Nat) (W : World) (cur : Array Value), Blk W g t cur → ∃ cur', Blk (W.setCells g o vs) g t cur' ∧ cur'.size = cur.size ∧ ∀ k, k < o → cur'[k]? = cur[k]?
  | [], _, _, cur, h => ⟨cur, h, rfl, fun _ _ => rfl⟩
  | v :: r, o, W, cur, h => by
    obtain ⟨cur', h1, h2, h3⟩ := setCells_blk g t r (o + 1) _ _ (h.set_ o v)
    refine ⟨cur', h1, by rw [h2]; simp, fun k hk => ?_⟩
    rw [h3 k (by omega), Array.getElem?_setIfInBounds, if_neg (by omega)]
theorem below_setCells {B g : Nat} {a : World} (hg : B ≤ g) : ∀ (vs : List Value) (o : Nat) (W : World), Below B a W → Below B a (W.setCells g o vs)
  | [], _, _, h => h
  | v :: r, o, _, h => below_setCells hg r (o + 1) _ (h.setCell (p := ⟨g, o, none⟩) hg v)
theorem heap_setCells {g k : Nat} (hk : k ≠ g) : ∀ (vs : List Value) (o : Nat) (W : World), (W.setCells g o vs).heap[k]? = W.heap[k]?
  | [], _, _ => rfl
  | v :: r, o, W => (heap_setCells hk r (o + 1) (W.setCell ⟨g, o, none⟩ v)).trans (Below.heap_setCell W ⟨g, o, none⟩ v k hk)
theorem RowQ.clear {W : World} {g cap n : Nat} {q : List Ch} (h : RowQ W g cap n q) {i : Nat} (hi : i ≤ n) (vs : List Value) : RowQ (W.setCells g (i * 3) vs) g cap i (q.take i) := by
  obtain ⟨hl, cur, h0, h1, h2, h3, h4⟩ := h
  obtain ⟨cur', k1, k2, k3⟩ := setCells_blk g 54 vs (i * 3) W cur h0
  refine ⟨by rw [List.length_take, Nat.min_eq_left (by omega)], cur', k1, by omega, h2, by rw [k2]; exact h3, ?_⟩
  rw [← chsCells_take q i (by omega), ← h4, List.take_take, Nat.min_eq_left (by omega)]
  apply List.ext_getElem?
  intro k
  rw [List.getElem?_take, List.getElem?_take]
  by_cases hk : k < i * 3
  · rw [if_pos hk, if_pos hk, Array.getElem?_toList, Array.getElem?_toList, k3 k hk]
  · rw [if_neg hk, if_neg hk]
/-- Zeros behind the chunks that are kept. -/
def zerosC (n : Nat) : List Value := (Builtin.zeroCells #[.int .i64 0, .int .i64 0, .string ⟨#[]⟩] n).toList
theorem zerosC_length (n : Nat) : (zerosC n).length = n * 3 := by unfold zerosC Builtin.zeroCells; simp
theorem zerosC_one (n : Nat) : ∀ v ∈ zerosC n, v.oneCell' = true := by
  intro v hv
  unfold zerosC Builtin.zeroCells at hv
  rw [Array.toList_map, List.mem_map] at hv
  obtain ⟨i, _, rfl⟩ := hv
  have hm : i % 3 = 0 ∨ i % 3 = 1 ∨ i % 3 = 2 := by omega
  show (#[Value.int .i64 0, .int .i64 0, .string ⟨#[]⟩][i % 3]!).oneCell' = true
  rcases hm with h | h | h <;> rw [h] <;> rfl
theorem run_clear_chunks {W : World} {g cap n : Nat} {q : List Ch} (h : RowQ W g cap n q) {i : Nat} (hi : i < n) (ty : TypeId) (c : Nat) : (Builtin.clear_ #[22] ty #[.slice (some ⟨g, i * 3, none⟩) (n - i) c]).run Try.prog W = .ok (.tuple #[]) (W.setCells g (i * 3) (zerosC (n - i))) := by
  obtain ⟨cur, hb, hs, hc, hg⟩ := h.blk
  have hst := run_storeCells_cells (P := Try.prog) g (i * 3) (zerosC (n - i)) 0 W (fun j hj => by
    rw [zerosC_length] at hj
    rw [hb.cell (i * 3 + 0 + j), Option.isSome_iff_exists]
    have hlt : i * 3 + 0 + j < cur.size := by
      have : n * 3 ≤ cap * 3 := Nat.mul_le_mul_right 3 hc
      omega
    exact ⟨_, Array.getElem?_eq_getElem hlt⟩) (fun j _ => hb.frozen _) (zerosC_one _)
  simp only [Nat.add_zero] at hst
  obtain ⟨m, hm⟩ : ∃ m, n - i = m + 1 := ⟨n - i - 1, by omega⟩
  rw [hm] at hst ⊢
  unfold zerosC at hst ⊢
  simp [Builtin.clear_, run_underlying Try.underlying22, Value.cells, hst]

/-- What DeleteFunc leaves. -/
def DelR (r : List Ch) (base : Nat) (v0 : Value) (W : World) (e : Ending) (w' : World) : Prop := ∃ v, e = .returned v ∧ w'.ownsRow base 54 3 v (keepC r).length (chsCells (keepC r)) ∧ Below base W w' ∧ ∀ k, k < W.heap.size → some k ≠ v0.ownBlock → w'.heap[k]? = W.heap[k]?
/-- What holds between two rounds. -/
def DeI (base : Nat) (w : World) (r : List Ch) (g cap i j : Nat) (wr : World) : Prop := ∃ q, KInv r q i j ∧ RowQ wr g cap r.length q ∧ Below base w wr ∧ ∀ k, k < w.heap.size → k ≠ g → wr.heap[k]? = w.heap[k]?

set_option maxRecDepth 100000 in
set_option maxHeartbeats 4000000 in
theorem delete_any (base : Nat) (v : Value) (n : Nat) (r : List Ch) (hn : r.length = n) (w : World) (ho : w.ownsRow base 54 3 v n (chsCells r)) (hbw : base ≤ w.heap.size) :
    Calls Try.prog 63 #[v, .func (.func 38) #[] #[]] w (DelR r base v w) := by
  obtain ⟨x, cap, rfl, hnc, hcm, hC, hx⟩ := chs_row hn ho
  unfold maxLen at hcm
  have HI := Lib.hid (index_any x n cap r (by omega) w hC)
  have HO := Lib.hid ho
  have HN := Lib.hid hn
  clear ho hC hx hn
  go_enter Try.func63, Try.ntmps63
  go_wp2_with fail
  refine HI.out.mono ?_
  rintro e w1 ⟨⟨rfl, ha⟩ | ⟨k, rfl, hk, he, ha⟩, hb1⟩
  · have HR : Hid (DelR r base (.slice x n cap) w (.returned (.slice x n cap)) w1) := Lib.hid (by
      rw [HN.out] at ha
      refine ⟨_, rfl, ?_, hb1.mono hbw, fun k hk _ => hb1.block k hk⟩
      have := own_under HO.out hb1
      rw [keepC_all (by rw [HN.out]; exact ha), HN.out]; exact this)
    clear ha hb1
    go_wp2
    go_ret
    exact HR.out
  · rw [HN.out] at hk
    obtain ⟨g, rfl⟩ : ∃ g, x = some ⟨g, 0, none⟩ := by
      rcases HO.out.2 with ⟨e, h0⟩ | ⟨g, c', cur, e, _⟩
      · omega
      · cases e; exact ⟨g, rfl⟩
    obtain ⟨hQ, hbg⟩ := RowQ.of_own HN.out HO.out
    have HD0 : Hid (DeI base w r g cap k (k + 1) w1) := Lib.hid ⟨r, KInv.start (by rw [HN.out]; exact hk) he ha, by rw [HN.out]; exact hQ.under hb1, hb1.mono hbw, fun k hk _ => hb1.block k hk⟩
    have hk1 : ((k : Int) == -1) = false := by rw [beq_eq_false_iff_ne]; omega
    clear ha he hb1 hQ
    go_wp2
    go_loopw [5, 6] (fun a b wr => ∃ i j : Nat, a = .int .i64 i ∧ b = .int .i64 j ∧ j ≤ n ∧ i < j ∧ DeI base w r g cap i j wr)
      (fun _ b _ => n - (intOf b).toNat)
    case atStart => exact ⟨k, k + 1, rfl, by simp, by omega, by omega, HD0.out⟩
    case round =>
      obtain ⟨i, j, rfl, rfl, hjn, hij, q, hK, hQ, hB, hF⟩ := hrel
      have HF := Lib.hid hF
      clear hF
      clear HD0
      by_cases hlt : j < n
      · have hlt' : (j : Int) < n := by omega
        have hQ2 : RowQ wr g cap n q := by rw [← HN.out]; exact hQ
        obtain ⟨⟨d0, d1, d2⟩, _⟩ := hQ2.at_ hlt
        have hat := hK.at_
        rw [hat] at d0 d1 d2
        have HE := Lib.hid (fun W => empty_any (r.getD j noCh) W)
        have HQ := Lib.hid hQ2
        have HB := Lib.hid hB
        have HK := Lib.hid hK
        have HNm : Hid (r.length = n) := HN
        have hbA : Below wr.heap.size wr (wr.alloc (.cells #[.int .i64 (r.getD j noCh).1, .int .i64 (r.getD j noCh).2.1, .string ⟨(r.getD j noCh).2.2.toArray⟩] 54)) := (Below.refl _ _).alloc (Nat.le_refl _) _
        have HBA := Lib.hid hbA
        have HBx := Lib.hid (Blk.new wr 54 #[.int .i64 (r.getD j noCh).1, .int .i64 (r.getD j noCh).2.1, .string ⟨(r.getD j noCh).2.2.toArray⟩])
        have hgw : g < wr.heap.size := hQ2.lt
        have HW : Hid (w.heap.size ≤ wr.heap.size) := Lib.hid hB.size
        by_cases he : EmC (r.getD j noCh)
        · rw [decide_eq_true he] at HE
          have HK2 := Lib.hid (HK.out.skip (by rw [HN.out]; exact hlt) he)
          clear he hat hK hQ hQ2 hB hbA
          generalize r.getD j noCh = c at *
          go_wp2_with (go_at_call 38; refine (HE.out _).mono ?_; rintro e w4 ⟨rfl, hb4⟩)
          have HP : Hid (DeI base w r g cap i (j + 1) w4) := Lib.hid ⟨q, HK2.out, by rw [HN.out]; exact (HQ.out.under HBA.out).under hb4, (HB.out.trans (HBA.out.mono (by have := HB.out.size; omega))).trans (hb4.mono (by have := HB.out.size; simp; omega)), fun k hk hkg => (hb4.block k (by have := HW.out; simp; omega)).trans ((HBA.out.block k (by have := HW.out; omega)).trans (HF.out k hk hkg))⟩
          clear hb4
          go_wp2
          go_roundw
          case rel => exact ⟨i, j + 1, rfl, by simp, by omega, by omega, HP.out⟩
          case measure => simp [intOf]; omega
        · rw [decide_eq_false he] at HE
          have HK2 := Lib.hid (HK.out.keep (by rw [HN.out]; exact hlt) he)
          clear he hat hK hQ hQ2 hB hbA
          generalize r.getD j noCh = c at *
          go_wp2_with fail
          refine (HE.out _).mono ?_
          rintro e w4 ⟨rfl, hb4⟩
          have hQ4 := (HQ.out.under HBA.out).under hb4
          obtain ⟨⟨e0, e1, e2⟩, hfz⟩ := hQ4.at_ (j := i) (by omega)
          have f0 := hfz 0 (by decide); have f1 := hfz 1 (by decide); have f2 := hfz 2 (by decide)
          rw [Nat.add_zero] at f0
          have hx4 := HBx.out.under hb4
          have x0 := hx4.cell 0; have x1 := hx4.cell 1; have x2 := hx4.cell 2
          dsimp at x0 x1 x2
          have hB4 := (HB.out.trans (HBA.out.mono (by have := HB.out.size; omega))).trans (hb4.mono (by have := HB.out.size; simp; omega))
          have HP : Hid (DeI base w r g cap (i + 1) (j + 1) (((w4.setCell ⟨g, i * 3, none⟩ (.int .i64 c.1)).setCell ⟨g, i * 3 + 1, none⟩ (.int .i64 c.2.1)).setCell ⟨g, i * 3 + 2, none⟩ (.string ⟨c.2.2.toArray⟩))) := Lib.hid ⟨_, HK2.out, by rw [HN.out]; exact hQ4.set (by omega) c, ((hB4.setCell (p := ⟨g, i * 3, none⟩) hbg _).setCell (p := ⟨g, i * 3 + 1, none⟩) hbg _).setCell (p := ⟨g, i * 3 + 2, none⟩) hbg _, fun k hk hkg => by
            rw [Below.heap_setCell _ _ _ _ hkg, Below.heap_setCell _ _ _ _ hkg, Below.heap_setCell _ _ _ _ hkg]
            exact (hb4.block k (by have := HW.out; simp; omega)).trans ((HBA.out.block k (by have := HW.out; omega)).trans (HF.out k hk hkg))⟩
          have hii : (i : Int) < n := by omega
          clear hQ4 hfz hx4 hB4 hb4 d0 d1 d2
          go_wp2
          go_roundw
          case rel => exact ⟨i + 1, j + 1, by simp, by simp, by omega, by omega, HP.out⟩
          case measure => simp [intOf]; omega
      · obtain rfl : j = n := by omega
        have hge : ¬ (j : Int) < j := by omega
        have hQ2 : RowQ wr g cap j q := by rw [← HN.out]; exact hQ
        have hd := (show KInv r q i r.length by rw [HN.out]; exact hK).done
        have hcl := fun (ty : TypeId) (c : Nat) => run_clear_chunks hQ2 hij ty c
        have HR : Hid (DelR r base (.slice (some ⟨g, 0, none⟩) j cap) w (.returned (.slice (some ⟨g, 0, none⟩) i cap)) (wr.setCells g (i * 3) (zerosC (j - i)))) := Lib.hid (by
          refine ⟨_, rfl, ?_, below_setCells hbg _ _ _ hB, fun k hk hkg => (heap_setCells (fun e => hkg (by rw [e]; rfl)) _ _ _).trans (HF.out k hk (fun e => hkg (by rw [e]; rfl)))⟩
          have := (hQ2.clear (Nat.le_of_lt hij) (zerosC (j - i))).own (Nat.le_refl i) hbg
          rw [List.take_take, Nat.min_self, hd.1] at this
          rw [← hd.2]; exact this)
        have hic : (i : Int) ≤ j := by omega
        have hne : ¬ cap = i := by omega
        have hcj : (j : Int) ≤ cap := by omega
        generalize zerosC (j - i) = zs at *
        clear hd hQ2 hK hQ hB
        go_wp2
        go_ret
        exact HR.out

/-- What joined leaves. -/
def JoinR (r : List Ch) (base : Nat) (W : World) (e : Ending) (w' : World) : Prop := ∃ u, e = .returned (.agg #[u]) ∧ w'.ownsRow base 54 3 u (keepC r).length (chsCells (keepC r)) ∧ Below base W w'
theorem size_roar : (Try.prog.info? 24).map (·.size) = some 1 := by
  have h := info_roar
  cases e : Try.prog.info? 24 with
  | none => rw [e] at h; cases h
  | some i =>
    rw [e] at h
    simp only [Option.map_some, Option.some.injEq, Prod.mk.injEq] at h ⊢
    exact h.2.1
theorem load_roar1 {w : World} {g : Nat} {x : Value} (h : Blk w g 24 #[x]) : (loadVar 24 ⟨g, 0, none⟩).run Try.prog w = .ok (.agg #[x]) w := by
  have := run_loadVar_mid (P := Try.prog) w g 0 24 [x] _ (fun j v hv => by rw [Nat.zero_add, h.cell j]; simpa using hv) Try.underlying24 rfl (by rw [size_roar]; simp)
  simpa using this

set_option maxRecDepth 100000 in
set_option maxHeartbeats 1000000 in
theorem joined_any (base : Nat) (v : Value) (n : Nat) (r : List Ch) (hn : r.length = n) (w : World) (ho : w.ownsRow base 54 3 v n (chsCells r)) (hbw : base ≤ w.heap.size) :
    Calls Try.prog 47 #[v] w (JoinR r base w) := by
  have hB0 : Below w.heap.size w (w.alloc (.cells #[.slice none 0 0] 24)) := (Below.refl _ w).alloc (Nat.le_refl _) _
  have bR := Blk.new w 24 #[.slice none 0 0]
  have hD := delete_any base v n r hn _ (ho.alloc (.cells #[.slice none 0 0] 24)) (Nat.le_trans hbw hB0.size)
  have HD := Lib.hid hD
  have HO := Lib.hid ho
  obtain ⟨x, cap, rfl⟩ := own_slice ho
  clear ho hD hn
  go_enter Try.func47, Try.ntmps47
  go_wp2_with fail
  refine HD.out.mono ?_
  rintro e w1 ⟨u, rfl, hu, hb1, hoth⟩
  have bR1 : Blk w1 w.heap.size 24 #[.slice none 0 0] := (hoth w.heap.size (by simp) (by
    intro e
    rcases HO.out.2 with ⟨e2, _⟩ | ⟨g, c2, cur, e2, _, hg, _⟩
    · rw [e2] at e; cases e
    · rw [e2] at e
      have h3 : w.heap.size = g := by simpa [Value.ownBlock] using e
      have := (Array.getElem?_eq_some_iff.1 hg).1
      omega)).trans bR
  obtain ⟨x2, c2, rfl⟩ := own_slice hu
  have c0 := bR1.cell 0; have f0 := bR1.frozen 0
  dsimp at c0
  have hE := bR1.set_ 0 (.slice x2 (keepC r).length c2)
  have hne : ∀ b o, x2 = some ⟨b, o, none⟩ → b ≠ w.heap.size := fun b o e hb => by
    rcases hu.2 with ⟨e2, _⟩ | ⟨g, c3, cur, e2, _, hg, _⟩
    · injection e2 with e3; rw [e3] at e; cases e
    · injection e2 with e3 e4 e5
      rw [e] at e3; cases e3
      unfold Blk at bR1
      rw [← hb, hg] at bR1
      cases bR1
  have HR : Hid (JoinR r base w (.returned (.agg #[.slice x2 (keepC r).length c2])) (w1.setCell ⟨w.heap.size, 0, none⟩ (.slice x2 (keepC r).length c2))) := Lib.hid ⟨_, rfl, hu.kept (grownBy_setCell' w1 w.heap.size _) (by
      rcases hu.2 with ⟨e2, _⟩ | ⟨g, c3, cur, e2, _⟩
      · injection e2 with e3; exact .inl (by rw [e3]; rfl)
      · injection e2 with e3 e4 e5
        exact .inr (fun e => hne g 0 e3 (by rw [e3] at e; simpa [Value.ownBlock] using e))), ((hB0.mono hbw).trans hb1).setCell (p := ⟨w.heap.size, 0, none⟩) hbw _⟩
  clear hu hoth hb1 hB0 bR HD
  go_wp2
  exact bodyPost_ret (results_cell rfl rfl (load_roar1 hE)) rfl HR.out
end Go.Proofs.Ytbfchlfagdhglaa
/- cont.operations: the map of what each operation makes of two bytes. -/
namespace Go.Proofs.Ytbfchlfagdhglaa
open Go.RowKit

/-- The entries. -/
def opEs : Array MapEntry := #[⟨.int .i64 1, .func (.func 73) #[] #[], 0⟩, ⟨.int .i64 2, .func (.func 74) #[] #[], 1⟩, ⟨.int .i64 3, .func (.func 75) #[] #[], 2⟩, ⟨.int .i64 4, .func (.func 76) #[] #[], 3⟩]
theorem set_new (w : World) (o o' : Obj) : ({ heap := (w.alloc o).heap.setIfInBounds w.heap.size o', tape := w.tape, drawn := w.drawn, os := (w.alloc o).os, output := (w.alloc o).output } : World) = w.alloc o' := by
  cases w with
  | mk heap tape drawn os output =>
    simp only [World.alloc, World.mk.injEq, and_true]
    apply Array.ext_getElem?
    intro k
    rw [Array.getElem?_setIfInBounds, Array.getElem?_push, Array.getElem?_push]
    by_cases e : heap.size = k
    · subst e; simp
    · rw [if_neg e, if_neg (fun h => e h.symm), if_neg (fun h => e h.symm)]
theorem chk_int (b : Bool) (k : Int) (w : World) : (Instr.checkKey b 10000 3 (.int .i64 k)).run Try.prog w = .ok () w :=
  MapKept.run_checkKey Try.underlying3 (by trivial) b 9999
theorem run_ins (w : World) (es : Array MapEntry) (c : Nat) (k : Int) (v : Value) (hf : Instr.findNow (.int .i64) (.int .i64 k) es.toList 0 = some none) :
    (Instr.mapUpdate 100 (.map (some w.heap.size)) (.int .i64 k) v).run Try.prog (w.alloc (.map es c)) = .ok () (w.alloc (.map (es.push ⟨.int .i64 k, v, c⟩) (c + 1))) := by
  have hb : (w.alloc (.map es c)).heap[w.heap.size]? = some (.map es c) := World.alloc_heap_new w _
  simp [Instr.mapUpdate, run_underlying Try.underlying100, MapKept.run_getObj_map hb, chk_int, Instr.findKey, run_underlying Try.underlying3, hf, MapKept.run_setObj_map _ hb, Result.andThen]
  exact set_new w _ _
/-- What the map has at an operation's number. -/
def opV (op : Int) : Value := if op = 1 then .func (.func 73) #[] #[] else if op = 2 then .func (.func 74) #[] #[] else if op = 3 then .func (.func 75) #[] #[] else if op = 4 then .func (.func 76) #[] #[] else .nilFunc
def okOp (op : Int) : Bool := decide (1 ≤ op) && decide (op ≤ 4)
theorem run_look (w : World) (r : Nat) (op : Int) (hb : w.heap[r]? = some (.map opEs 4)) :
    (Instr.lookup 100 (.map (some r)) (.int .i64 op) true).run Try.prog w = .ok (.tuple #[opV op, .bool (okOp op)]) w := by
  have key : ∀ a : Option (Nat × Value), Instr.findNow (.int .i64) (.int .i64 op) opEs.toList 0 = some a → ∀ v ok, (match a with | some (_, v) => (v, true) | none => (Value.nilFunc, false)) = (v, ok) →
      (Instr.lookup 100 (.map (some r)) (.int .i64 op) true).run Try.prog w = .ok (.tuple #[v, .bool ok]) w := fun a h v ok e => by
    cases a with
    | none =>
      cases e
      simp [Instr.lookup, run_underlying Try.underlying100, MapKept.run_getObj_map hb, chk_int, MapKept.run_findKey Try.underlying3 h, Try.zeroValue98, Result.andThen]
    | some p =>
      cases e
      simp [Instr.lookup, run_underlying Try.underlying100, MapKept.run_getObj_map hb, chk_int, MapKept.run_findKey Try.underlying3 h, Result.andThen]
  by_cases h1 : op = 1
  · subst h1; exact key _ rfl _ _ rfl
  by_cases h2 : op = 2
  · subst h2; exact key _ rfl _ _ rfl
  by_cases h3 : op = 3
  · subst h3; exact key _ rfl _ _ rfl
  by_cases h4 : op = 4
  · subst h4; exact key _ rfl _ _ rfl
  have e1 : (op == 1) = false := by simpa using h1
  have e2 : (op == 2) = false := by simpa using h2
  have e3 : (op == 3) = false := by simpa using h3
  have e4 : (op == 4) = false := by simpa using h4
  have e : opV op = .nilFunc ∧ okOp op = false := by
    unfold opV okOp
    refine ⟨by rw [if_neg h1, if_neg h2, if_neg h3, if_neg h4], ?_⟩
    rw [Bool.and_eq_false_iff, decide_eq_false_iff_not, decide_eq_false_iff_not]; omega
  rw [e.1, e.2]
  refine key none ?_ _ _ rfl
  simp [Instr.findNow, opEs, Instr.sameNow, e1, e2, e3, e4]

set_option maxRecDepth 100000 in
set_option maxHeartbeats 1000000 in
theorem operations_any (w : World) : Calls Try.prog 58 #[] w fun e w' => e = .returned (.map (some w.heap.size)) ∧ w' = w.alloc (.map opEs 4) := by
  have hmm := @run_makeMap Try.prog
  have h1 := run_ins w #[] 0 1 (.func (.func 73) #[] #[]) rfl
  have h2 := run_ins w #[⟨.int .i64 1, .func (.func 73) #[] #[], 0⟩] 1 2 (.func (.func 74) #[] #[]) rfl
  have h3 := run_ins w #[⟨.int .i64 1, .func (.func 73) #[] #[], 0⟩, ⟨.int .i64 2, .func (.func 74) #[] #[], 1⟩] 2 3 (.func (.func 75) #[] #[]) rfl
  have h4 := run_ins w #[⟨.int .i64 1, .func (.func 73) #[] #[], 0⟩, ⟨.int .i64 2, .func (.func 74) #[] #[], 1⟩, ⟨.int .i64 3, .func (.func 75) #[] #[], 2⟩] 3 4 (.func (.func 76) #[] #[]) rfl
  simp only [List.push_toArray, List.nil_append, List.cons_append, Nat.zero_add, Nat.reduceAdd] at h1 h2 h3 h4
  go_enter Try.func58, Try.ntmps58
  go_wp2
  go_ret
  exact ⟨rfl, rfl⟩
end Go.Proofs.Ytbfchlfagdhglaa
