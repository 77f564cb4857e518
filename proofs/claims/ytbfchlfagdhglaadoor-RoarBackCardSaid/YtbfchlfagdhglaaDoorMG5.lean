import Derived.Test.YtbfchlfagdhglaaDoorMG3
import Derived.Test.YtbfchlfagdhglaaDoorMG4
import Derived.Deep.OwnRows
/- The document's answer: the bitmap of a set (tesseraeref07.of). -/
namespace Go.Proofs.YtbfchlfagdhglaaDoor
open Go.RowKit

/-- The set's row. -/
def Row (W : World) (g : Nat) (s : Bs) : Prop := W.rowIs g 4 65536 (fun n => .bool (s n))
theorem Row.below {n : Nat} {A B : World} {g : Nat} {s : Bs} (h : Row A g s) (hb : Below n A B) (hg : g < n) : Row B g s := World.rowIs.of_block h (hb.block g hg)
theorem Row.cell {W : World} {g : Nat} {s : Bs} (h : Row W g s) {n : Nat} (hn : n < 65536) : W.cell? ⟨g, n, none⟩ = some (.bool (s n)) := World.rowIs.cell h hn
theorem rows_below {w w' : World} {base sz n : Nat} {e : TypeId} {v : Value} {k : Nat} {xs : List Value} (h : w.ownsRow base e sz v k xs) (hb : Below n w w') (hn : w.heap.size ≤ n) : w'.ownsRow base e sz v k xs := by
  refine ⟨h.1, ?_⟩
  rcases h.2 with h0 | ⟨g, c, cur, e1, e2, e3, e4⟩
  · exact .inl h0
  · exact .inr ⟨g, c, cur, e1, e2, (hb.block g (Nat.lt_of_lt_of_le (Array.getElem?_eq_some_iff.1 e3).1 hn)).trans e3, e4⟩
/-- The state of the walk: the two boxes, the set, the chunks that have come. -/
def OfSt (w : World) (g : Nat) (s : Bs) (v : Value) (r : List Ch) (W : World) : Prop :=
  Blk W w.heap.size 24 #[.slice none 0 0] ∧ Blk W (w.heap.size + 1) 24 #[v] ∧ Row W g s ∧ W.ownsRow (w.heap.size + 2) 48 3 v r.length (chsCells r) ∧ Below w.heap.size w W ∧ g < w.heap.size
theorem OfSt.start {w : World} {g : Nat} {s : Bs} (h : Row w g s) : OfSt w g s (.slice none 0 0) [] ((w.alloc (.cells #[.slice none 0 0] 24)).alloc (.cells #[.slice none 0 0] 24)) := by
  have hb : Below w.heap.size w ((w.alloc (.cells #[.slice none 0 0] 24)).alloc (.cells #[.slice none 0 0] 24)) := ((Below.refl _ w).alloc (Nat.le_refl _) _).alloc (by simp) _
  exact ⟨(Blk.new w _ _).alloc _, by simpa using Blk.new (w.alloc (.cells #[.slice none 0 0] 24)) 24 #[.slice none 0 0], h.below hb (World.rowIs.lt h), World.ownsRow_nil _ _ _ _, hb, World.rowIs.lt h⟩
theorem OfSt.below {w a b : World} {g n : Nat} {s : Bs} {v : Value} {r : List Ch} (h : OfSt w g s v r a) (hb : Below n a b) (hn : a.heap.size ≤ n) : OfSt w g s v r b :=
  ⟨h.1.below hb (Nat.lt_of_lt_of_le h.1.lt hn), h.2.1.below hb (Nat.lt_of_lt_of_le h.2.1.lt hn), h.2.2.1.below hb (Nat.lt_of_lt_of_le (World.rowIs.lt h.2.2.1) hn), rows_below h.2.2.2.1 hb hn, h.2.2.2.2.1.trans (hb.mono (Nat.le_trans h.2.2.2.2.1.size hn)), h.2.2.2.2.2⟩
theorem OfSt.lt {w a : World} {g : Nat} {s : Bs} {v : Value} {r : List Ch} (h : OfSt w g s v r a) : w.heap.size + 2 ≤ a.heap.size := h.2.1.lt

theorem rows_far {w : World} {base sz : Nat} {e : TypeId} {v : Value} {k : Nat} {xs : List Value} (h : w.ownsRow base e sz v k xs) {p : Addr} (hp : p.block < base) (u : Value) : (w.setCell p u).ownsRow base e sz v k xs := by
  refine ⟨h.1, ?_⟩
  rcases h.2 with h0 | ⟨g, c, cur, e1, e2, e3, e4⟩
  · exact .inl h0
  · exact .inr ⟨g, c, cur, e1, e2, (Below.heap_setCell w p u g (by omega)).trans e3, e4⟩
/-- One chunk more: the row has grown, and is laid into the box. -/
theorem OfSt.app {w a w4 : World} {g : Nat} {s : Bs} {v v2 : Value} {r : List Ch} {c : Ch} {o : Obj} (h : OfSt w g s v r a) (hown : w4.ownsRow (w.heap.size + 2) 48 3 v2 (r.length + 1) (chsCells r ++ chCells c)) (hg : (a.alloc o).grownBy w4 v.ownBlock) :
    w4.cell? ⟨w.heap.size + 1, 0, none⟩ = some v ∧ w4.frozen? ⟨w.heap.size + 1, 0, none⟩ = false ∧ OfSt w g s v2 (r ++ [c]) (w4.setCell ⟨w.heap.size + 1, 0, none⟩ v2) := by
  have h7 := h.below ((Below.refl _ a).alloc (Nat.le_refl _) o) (Nat.le_refl _)
  have hne : ∀ k, v.ownBlock = some k → w.heap.size + 2 ≤ k := fun k e => (h.2.2.2.1.lt k e).1
  have hlt := h.lt
  obtain ⟨b0, b1, b2, b3, b4, b5⟩ := h7
  have hb : Below (w.heap.size + 2) (a.alloc o) w4 := (Below.refl _ _).grown hg (by rw [World.size_alloc]; omega) hne
  have b0' := b0.below hb (by omega)
  have b1' := b1.below hb (by omega)
  have hB := b4.trans (hb.mono (by omega))
  refine ⟨b1'.cell 0, b1'.frozen 0, b0'.far (by simp) _, b1'.set_ 0 v2, ?_, ?_, hB.setCell (by simp) _, b5⟩
  · exact World.rowIs.setOther (b2.below hb (by omega)) (by simp; omega) v2
  · rw [List.length_append, chsCells_append, chsCells_one]
    exact rows_far hown (by simp) v2
theorem load_roar {w : World} {g : Nat} {x : Value} (h : Blk w g 24 #[x]) : (loadVar 24 ⟨g, 0, none⟩).run Tryd.prog w = .ok (.agg #[x]) w := by
  obtain ⟨i, hi, hz, hs, _⟩ := info_parts info_roar
  have := run_loadVar_mid (P := Tryd.prog) w g 0 24 [x] _ (fun j v hv => by rw [Nat.zero_add, h.cell j]; simpa using hv) Tryd.underlying24 rfl (by rw [hi]; simp [hs])
  simpa using this
section
variable {fn : Func} {t u : Tmp} {Q : Ending → World → Prop} {a : Act} {w : World} {g : Nat}
/-- The return of a bitmap. -/
theorem ret_roar {x : Value} (h : fn.results = #[.cell t 24]) (hp : a.tmps.getD t undef = .pointer (some ⟨g, 0, none⟩)) (hb : Blk w g 24 #[x]) (hd : a.defers = []) (hQ : Q (.returned (.agg #[x])) w) : bodyPost Tryd.prog fn Q .ret a w :=
  bodyPost_ret (results_cell h hp (load_roar hb)) hd hQ
theorem ret_roar2 {x : Value} (h : fn.results = #[.cell t 24, .tmp u]) (hp : a.tmps.getD t undef = .pointer (some ⟨g, 0, none⟩)) (hb : Blk w g 24 #[x]) (hd : a.defers = []) (hQ : Q (.returned (.tuple #[.agg #[x], a.tmps.getD u undef])) w) : bodyPost Tryd.prog fn Q .ret a w :=
  bodyPost_ret (results_cell2 h hp (load_roar hb)) hd hQ
end
theorem own_slice {w : World} {base sz : Nat} {e : TypeId} {v : Value} {k : Nat} {xs : List Value} (h : w.ownsRow base e sz v k xs) : ∃ x c, v = .slice x k c := by
  rcases h.2 with ⟨e1, rfl⟩ | ⟨g, c, cur, e1, _⟩
  · exact ⟨_, _, e1⟩
  · exact ⟨_, _, e1⟩
theorem cells_three (w : World) (a b c : Value) (t : TypeId) : ∀ j u, [a, b, c][j]? = some u → (w.alloc (.cells #[a, b, c] t)).cell? ((⟨w.heap.size, 0, none⟩ : Addr).add j) = some u := fun j u h => by
  have e : (⟨w.heap.size, 0, none⟩ : Addr).add j = ⟨w.heap.size, j, none⟩ := by unfold Addr.add; split <;> simp_all
  rw [e, (Blk.new w t #[a, b, c]).cell j]
  simpa using h
set_option maxRecDepth 100000 in
set_option maxHeartbeats 4000000 in
theorem ref_of_any (g : Nat) (s : Bs) (len cap : Nat) (hlen : len = 65536) (w : World) (hs : Row w g s) :
    Calls Tryd.prog 30 #[.slice (some ⟨g, 0, none⟩) len cap] w fun e w' => ∃ v, e = .returned (.agg #[v]) ∧ w'.ownsRow w.heap.size 48 3 v (ofS s).length (chsCells (ofS s)) ∧ Below w.heap.size w w' := by
  have HS0 := Lib.hid (OfSt.start hs)
  have HL := Lib.hid hlen
  clear hs hlen
  obtain ⟨j0, hj, hy0, hy1, hy2⟩ := info_parts info_chunk
  have HJ := Lib.hid hj; have HY0 := Lib.hid hy0; have HY1 := Lib.hid hy1; have HY2 := Lib.hid hy2
  clear hj hy0 hy1 hy2
  obtain ⟨i0, hi, hz0, hz1, hz2⟩ := info_parts info_int
  have HInf := Lib.hid hi; have HZ0 := Lib.hid hz0; have HZ1 := Lib.hid hz1; have HZ2 := Lib.hid hz2
  clear hi hz0 hz1 hz2
  go_enter Tryd.func30, Tryd.ntmps30
  go_wp2
  generalize ((w.alloc (.cells #[.slice none 0 0] 24)).alloc (.cells #[.slice none 0 0] 24)) = w1 at *
  go_loopw [4] (fun i wr => ∃ (k : Nat) (v : Value), k ≤ 256 ∧ i = .int .i64 k ∧ OfSt w g s v (ofTo s k) wr) (fun i _ => 256 - (intOf i).toNat)
  case atStart => exact ⟨0, _, Nat.zero_le _, rfl, HS0.out⟩
  case round =>
    obtain ⟨k, v, hk, rfl, hS⟩ := hrel
    by_cases hlt : k < 256
    · have hlt' : (k : Int) < 256 := by omega
      have HS := Lib.hid hS
      have hsz := hS.lt
      clear hS HS0
      obtain ⟨W0, rfl⟩ : ∃ W0, W0 = wr := ⟨_, rfl⟩
      go_wp2
      go_loopw [5, 6] (fun lv i W => ∃ j : Nat, j ≤ 256 ∧ i = .int .i64 j ∧ W.ownsRow W0.heap.size 3 1 lv (valsTo (part s k) j).length (intVs (valsTo (part s k) j)) ∧ Below W0.heap.size W0 W) (fun _ i _ => 256 - (intOf i).toNat)
      case atStart => exact ⟨0, Nat.zero_le _, rfl, World.ownsRow_nil _ _ _ _, Below.refl _ _⟩
      case round =>
        obtain ⟨j, hj, rfl, hown, hB⟩ := hrel
        have hl := valsTo_le (part s k) j
        by_cases hjt : j < 256
        · have hjt' : (j : Int) < 256 := by omega
          obtain ⟨q, hq⟩ : ∃ q : Nat, q = 256 * k := ⟨_, rfl⟩
          obtain ⟨p, hp⟩ : ∃ p : Nat, p = q + j := ⟨_, rfl⟩
          have hw1 : IntKind.i64.wrap (256 * (k : Int)) = (q : Int) := by rw [IntKind.wrap_i64]; omega
          have hw2 : IntKind.i64.wrap ((q : Int) + (j : Int)) = (p : Int) := by rw [IntKind.wrap_i64]; omega
          have hp1 : (p : Int) < (len : Int) := by have := HL.out; omega
          have c0 := (HS.out.2.2.1.below hB (World.rowIs.lt HS.out.2.2.1)).cell (n := p) (by omega)
          have hsp : s p = part s k j := by unfold part; rw [hp, hq]
          rw [hsp] at c0
          have HY := Lib.hid (@valsTo_yes (part s k) j)
          have HN := Lib.hid (@valsTo_no (part s k) j)
          clear hq hp hsp
          by_cases hy : part s k j = true
          · have hT := HY.out hy
            rw [hy] at c0
            clear HY HN hy
            generalize intVs (valsTo (part s k) j) = bv at *
            generalize (valsTo (part s k) j).length = n at *
            go_wp2_with (at_builtin; refine wpList_append_own _ rfl _ _ 35 rfl W0.heap.size 3 i0 (.int .i64 0) 1 8 Tryd.underlying35 HInf.out HZ0.out HZ1.out HZ2.out rfl (by decide) _ _ _ rfl (hown.alloc _) ⟨wr.heap.size, 0, none⟩ 1 1 [.int .i64 j] rfl rfl (cell_one_new _ _ _) (by simp [Value.oneCell']) (by unfold maxLen; omega) (by omega) (by have := hB.size; simp; omega) ?_; intro v2 w4 hown4 hgrow2 _)
            have hB2 : Below W0.heap.size W0 w4 := (hB.alloc hB.size _).grown hgrow2 (by have := hB.size; simp; omega) (fun j e => (hown.lt j e).1)
            rw [← hT.1, ← hT.2] at hown4
            go_roundw
            case rel => exact ⟨j + 1, by omega, by simp, hown4, hB2⟩
            case measure => simp [intOf]; omega
          · have hy' := Bool.eq_false_iff.2 hy
            have hT := HN.out hy'
            rw [← hT] at hown
            rw [hy'] at c0
            clear HY HN hy hy' hT
            go_wp2
            go_roundw
            case rel => exact ⟨j + 1, by omega, by simp, hown, hB⟩
            case measure => simp [intOf]; omega
        · obtain rfl : j = 256 := by omega
          have hjt' : ¬ ((256 : Nat) : Int) < 256 := by omega
          obtain ⟨x, c, rfl, hI⟩ := row_ints (l := vals (part s k)) rfl hown
          have hS := HS.out.below hB (Nat.le_refl _)
          have hM := make_vals (part s k)
          have HMk := Lib.hid (fun h => ref_make_any x (vals (part s k)).length c (zsOf (vals (part s k))) (zsOf_length _) (by unfold vals; omega) wr h)
          rw [hM] at HMk
          have HE := Lib.hid (@ofTo_none s k)
          have HF := Lib.hid (@ofTo_some s k)
          have hl3 := ofTo_length s k
          clear hown HS
          by_cases hv : vals (part s k) = []
          · have hn0 : (vals (part s k)).length = 0 := by rw [hv]; rfl
            have hE := HE.out hv
            rw [← hE] at hS
            have HS := Lib.hid hS
            rw [hn0]
            clear HE HF HMk hI hS hE hn0 hv hM
            go_wp2
            go_roundw
            case rel => exact ⟨k + 1, _, by omega, by simp, HS.out⟩
            case measure => simp [intOf]; omega
          · have hn1 : (((vals (part s k)).length : Nat) : Int) > 0 := by
              have : (vals (part s k)).length ≠ 0 := fun h => hv (List.eq_nil_of_length_eq_zero h)
              omega
            have hF := HF.out hv
            obtain ⟨fq, hfq⟩ : ∃ f : Int, f = (bestF (part s k) : Nat) := ⟨_, rfl⟩
            obtain ⟨dq, hdq⟩ : ∃ d, d = bestD (part s k) := ⟨_, rfl⟩
            have hck : chunk (part s k) k = ((k : Int), fq, dq) := by rw [hfq, hdq]; rfl
            rw [hck] at hF
            rw [← hfq, ← hdq] at HMk
            have HF := Lib.hid hF
            clear hM hF hck hfq hdq hv HE
            generalize (vals (part s k)).length = n at *
            go_wp2_with fail
            refine (HMk.out hI).mono ?_
            rintro e w5 ⟨rfl, hb5⟩
            have hS5 := hS.below hb5 (Nat.le_refl _)
            have hS6 := hS5.below ((Below.refl _ w5).alloc (Nat.le_refl _) (.cells #[.int .i64 fq, .string ⟨dq.toArray⟩] 46)) (Nat.le_refl _)
            have c1 := hS6.2.1.cell 0
            have f1 := hS6.2.1.frozen 0
            have e0 := (Blk.new w5 46 #[.int .i64 fq, .string ⟨dq.toArray⟩]).cell 0
            have e1 := (Blk.new w5 46 #[.int .i64 fq, .string ⟨dq.toArray⟩]).cell 1
            dsimp at c1 e0 e1
            clear hS hS5 hI HMk hb5
            have hlr : (ofTo s k).length ≤ 256 := by omega
            go_wp2_with (at_builtin; refine wpList_append_own _ rfl _ _ 22 rfl (w.heap.size + 2) 48 j0 (.agg #[.int .i64 0, .int .i64 0, .string ⟨#[]⟩]) 3 32 Tryd.underlying22 HJ.out HY0.out HY1.out HY2.out rfl (by decide) _ _ _ rfl (hS6.2.2.2.1.alloc _) ⟨w5.heap.size + 1, 0, none⟩ 1 1 [.int .i64 k, .int .i64 fq, .string ⟨dq.toArray⟩] rfl rfl (by have := cells_three (w5.alloc (.cells #[.int .i64 fq, .string ⟨dq.toArray⟩] 46)) (.int .i64 k) (.int .i64 fq) (.string ⟨dq.toArray⟩) 48; rwa [World.size_alloc] at this) (by simp [Value.oneCell']) (by unfold maxLen; omega) (by omega) (by have := hS6.lt; rw [World.size_alloc]; omega) ?_; intro v2 w4 hown4 hgrow2 _; obtain ⟨x2, k2, rfl⟩ := own_slice hown4; obtain ⟨d1, d2, hS9⟩ := OfSt.app (c := ((k : Int), fq, dq)) hS6 hown4 hgrow2; rw [← HF.out] at hS9; clear hS6 hown4 hgrow2 HF)
            go_roundw
            case rel => exact ⟨k + 1, _, by omega, by simp, hS9⟩
            case measure => simp [intOf]; omega
    · obtain rfl : k = 256 := by omega
      have hge : ¬ ((256 : Nat) : Int) < 256 := by omega
      obtain ⟨x2, k2, rfl⟩ := own_slice hS.2.2.2.1
      have c1 := hS.2.1.cell 0
      have c0 := hS.1.cell 0
      have f0 := hS.1.frozen 0
      dsimp at c0 c1
      obtain ⟨v, hv⟩ : ∃ v, v = Value.slice x2 (ofTo s 256).length k2 := ⟨_, rfl⟩
      have hE : Blk (wr.setCell ⟨w.heap.size, 0, none⟩ v) w.heap.size 24 #[v] := hS.1.set_ 0 v
      have hown := rows_far hS.2.2.2.1 (p := ⟨w.heap.size, 0, none⟩) (by simp) v
      have hB := hS.2.2.2.2.1.setCell (p := ⟨w.heap.size, 0, none⟩) (Nat.le_refl _) v
      rw [hv] at hE hown hB
      have HO := Lib.hid (World.ownsRow.mono hown (by omega : w.heap.size ≤ w.heap.size + 2))
      clear hS hown HS0
      go_wp2
      exact ret_roar rfl rfl hE rfl ⟨_, rfl, HO.out, hB⟩
end Go.Proofs.YtbfchlfagdhglaaDoor
/- The document's answer: which numbers a bitmap has (tesseraeref07.set). -/
namespace Go.Proofs.YtbfchlfagdhglaaDoor
open Go.RowKit

theorem info_bool : (Tryd.prog.info? 4).map (fun i => (i.zero, i.size, i.bytes)) = some (some (.bool false), 1, 1) := by kernel_rfl
theorem Row.congr {W : World} {g : Nat} {s t : Bs} (h : Row W g s) (e : ∀ n, n < 65536 → s n = t n) : Row W g t := World.rowIs.congr h fun n hn => by rw [e n hn]
theorem Row.set {W : World} {g : Nat} {s : Bs} (h : Row W g s) (n : Nat) (b : Bool) : Row (W.setCell ⟨g, n, none⟩ (.bool b)) g (fun m => if m = n then b else s m) :=
  World.rowIs.congr (World.rowIs.set h n (.bool b)) fun m _ => by by_cases hm : m = n <;> simp [hm]
/-- The state of the walk: the box, the set's row. -/
def SzSt (w : World) (v : Value) (s : Bs) (W : World) : Prop := Blk W w.heap.size 24 #[v] ∧ Row W (w.heap.size + 1) s ∧ Below w.heap.size w W
theorem SzSt.start {w : World} {v : Value} {N : Nat} (hN : N = 65536) : SzSt w v (setZ []) ((w.alloc (.cells #[v] 24)).alloc (.cells (madeCells #[.bool false] N) 4)) := by
  subst hN
  refine ⟨(Blk.new w _ _).alloc _, ?_, ((Below.refl _ w).alloc (Nat.le_refl _) _).alloc (by simp) _⟩
  have := World.rowIs_made (w.alloc (.cells #[v] 24)) (.bool false) 65536 4
  rw [World.size_alloc] at this
  exact this
theorem SzSt.below {w a b : World} {n : Nat} {v : Value} {s : Bs} (h : SzSt w v s a) (hb : Below n a b) (hn : w.heap.size + 2 ≤ n) : SzSt w v s b :=
  ⟨h.1.below hb (by omega), h.2.1.below hb (by omega), h.2.2.trans (hb.mono (by omega))⟩
theorem SzSt.lt {w a : World} {v : Value} {s : Bs} (h : SzSt w v s a) : w.heap.size + 2 ≤ a.heap.size := World.rowIs.lt h.2.1
theorem SzSt.congr {w a : World} {v : Value} {s t : Bs} (h : SzSt w v s a) (e : ∀ n, n < 65536 → s n = t n) : SzSt w v t a := ⟨h.1, h.2.1.congr e, h.2.2⟩
theorem SzSt.set {w a : World} {v : Value} {s : Bs} (h : SzSt w v s a) (n : Nat) (b : Bool) : SzSt w v (fun m => if m = n then b else s m) (a.setCell ⟨w.heap.size + 1, n, none⟩ (.bool b)) :=
  ⟨h.1.far (by simp) _, h.2.1.set n b, h.2.2.setCell (by simp) _⟩
/-- What the call answers: the row of 65536 (N) that the set lies in. -/
def ZPost (w : World) (s : Bs) (e : Ending) (w' : World) : Prop := ∃ N, N = 65536 ∧ e = .returned (.slice (some ⟨w.heap.size + 1, 0, none⟩) N N) ∧ Row w' (w.heap.size + 1) s ∧ Below w.heap.size w w'
theorem take_get {r : List Ch} {k : Nat} (h : k < r.length) : r.take (k + 1) = r.take k ++ [r.getD k noCh] := by
  rw [List.take_add_one, List.getD_eq_getElem?_getD, List.getElem?_eq_getElem h]; rfl

set_option maxRecDepth 100000 in
set_option maxHeartbeats 4000000 in
theorem ref_setz_any (x : Option Addr) (len cap : Nat) (r : List Ch) (hm : len ≤ 9223372036854775807) (hd : ∀ c ∈ r, c.2.2.length ≤ 300) (w : World) (hr : Chs w.heap.size w (.slice x len cap) r) :
    Calls Tryd.prog 31 #[.agg #[.slice x len cap]] w (ZPost w (setZ r)) := by
  have hl := hr.len
  have HR := Lib.hid hr
  have HD := Lib.hid hd
  clear hr hd
  obtain ⟨N, hN⟩ : ∃ N, N = 65536 := ⟨_, rfl⟩
  have HS0 := Lib.hid (SzSt.start (w := w) (v := .slice x len cap) hN)
  have HN := Lib.hid hN
  clear hN
  obtain ⟨i0, hi, hz0, hz1, hz2⟩ := info_parts info_bool
  have HInf := Lib.hid hi; have HZ0 := Lib.hid hz0; have HZ1 := Lib.hid hz1; have HZ2 := Lib.hid hz2
  clear hi hz0 hz1 hz2
  have hst := st_newb
  have hsz := bcl_size
  have hz := zero_b256
  go_enter Tryd.func31, Tryd.ntmps31
  go_wp2_with (refine wpList_make_row _ rfl _ _ 71 rfl 4 i0 (.bool false) Tryd.underlying71 HInf.out HZ0.out HZ1.out rfl .i64 .i64 N (by rw [HN.out]; rfl) (by rw [HN.out]; rfl) (by rw [HZ2.out, HN.out]; decide) (by rw [HN.out]; decide) ?_)
  generalize ((w.alloc (.cells #[.slice x len cap] 24)).alloc (.cells (madeCells #[.bool false] N) 4)) = w1 at *
  go_loopw [4] (fun i wr => ∃ k : Nat, k ≤ len ∧ i = .int .i64 k ∧ SzSt w (.slice x len cap) (setZ (r.take k)) wr) (fun i _ => len - (intOf i).toNat)
  case atStart => exact ⟨0, Nat.zero_le _, rfl, HS0.out⟩
  case round =>
    obtain ⟨k, hk, rfl, hS⟩ := hrel
    have c0 := hS.1.cell 0
    dsimp at c0
    clear HS0
    by_cases hlt : k < len
    · have hlt' : (k : Int) < len := by omega
      obtain ⟨b, o, rfl, hb, hc⟩ := HR.out.at_ hlt
      have hc := hc.below hS.2.2 hb
      obtain ⟨d1, d2, d3⟩ := hc
      have hdk : (r.getD k noCh).2.2.length ≤ 300 := HD.out _ (by rw [List.getD_eq_getElem?_getD, List.getElem?_eq_getElem (by omega)]; exact List.getElem_mem _)
      have HT := Lib.hid (take_get (r := r) (k := k) (by omega))
      have HS := Lib.hid hS
      clear hS HR HD hb hl
      obtain ⟨c, hcc⟩ : ∃ c, r.getD k noCh = c := ⟨_, rfl⟩
      rw [hcc] at HT d1 d2 d3 hdk
      clear hcc
      have HF := Lib.hid (fun n h => setM_far (r := r.take k) (c := c) n h)
      have HZ := Lib.hid (setM_zero (r.take k) c)
      have HA := Lib.hid (setM_all (r.take k) c)
      have HP := Lib.hid (fun q m => setM_put (r.take k) c q m)
      have HM : Hid (∀ q m, c.1 = ((q : Nat) : Int) → m < 256 → setM (r.take k) c m (256 * q + m) = setZ (r.take k) (256 * q + m)) := Lib.hid fun q m _ hm2 => by
        unfold setM
        rw [decide_eq_false (by omega), Bool.false_and, Bool.or_false]
      obtain ⟨q0, f, d⟩ := c
      dsimp only at d1 d2 d3 hdk HT HF HZ HA HP HM
      have HSet := Lib.hid (fun W => ref_set_any f d hdk W)
      unfold contV at HSet
      obtain ⟨W0, rfl⟩ : ∃ W0, W0 = wr := ⟨_, rfl⟩
      go_wp2_with fail
      refine (HSet.out _).mono ?_
      rintro e w5 ⟨rfl, hb5⟩
      have hS5 := HS.out.below hb5 HS.out.lt
      have hb0 := Blk.new w5 94 (bcl (setOf f.toNat d))
      have hS6 := hS5.below ((Below.refl _ w5).alloc (Nat.le_refl _) (.cells (bcl (setOf f.toNat d)) 94)) hS5.lt
      have hl5 := hS5.lt
      have HS6 := Lib.hid hS6
      clear hb5 HSet hS5 hS6 c0 d1 d2 d3 HS
      by_cases hq : 0 ≤ q0 ∧ q0 < 256
      · obtain ⟨q, rfl⟩ : ∃ q : Nat, q0 = q := ⟨q0.toNat, by omega⟩
        have hq1 : (q : Int) ≥ 0 := by omega
        have hq2 : (q : Int) < 256 := hq.2
        clear hq HF
        generalize setOf f.toNat d = tt at *
        go_wp2
        generalize hW : w5.alloc (.cells (bcl tt) 94) = W1 at *
        clear hW
        go_loopw [7] (fun i W => ∃ m : Nat, m ≤ 256 ∧ i = .int .i64 m ∧ SzSt w (.slice (some ⟨b, o, none⟩) len cap) (setM (r.take k) (q, f, d) m) W ∧ Blk W w5.heap.size 94 (bcl tt)) (fun i _ => 256 - (intOf i).toNat)
        case atStart => exact ⟨0, Nat.zero_le _, rfl, HS6.out.congr fun n _ => (HZ.out n).symm, hb0⟩
        case round =>
          obtain ⟨m, hm2, rfl, hS, hbt⟩ := hrel
          by_cases hmt : m < 256
          · have hmt' : (m : Int) < 256 := by omega
            obtain ⟨u, hu⟩ : ∃ u : Nat, u = 256 * q := ⟨_, rfl⟩
            obtain ⟨p, hp⟩ : ∃ p : Nat, p = u + m := ⟨_, rfl⟩
            have hw1 : IntKind.i64.wrap (256 * (q : Int)) = (u : Int) := by rw [IntKind.wrap_i64]; omega
            have hw2 : IntKind.i64.wrap ((u : Int) + (m : Int)) = (p : Int) := by rw [IntKind.wrap_i64]; omega
            have hp1 : (p : Int) < (N : Int) := by have := HN.out; omega
            have c1 := hS.2.1.cell (n := p) (by omega)
            have f1 := World.rowIs.frozen hS.2.1 p
            have c2 := hbt.cell m
            rw [bcl_get hmt] at c2
            have hpp : p = 256 * q + m := by omega
            have hput := HP.out q m rfl hmt
            have hmm := HM.out q m rfl hmt
            rw [← hpp] at hput hmm
            have HNX : Hid (∀ b2 : Bool, b2 = (setM (r.take k) (q, f, d) m p || tt m) → SzSt w (.slice (some ⟨b, o, none⟩) len cap) (setM (r.take k) (q, f, d) (m + 1)) (wr.setCell ⟨w.heap.size + 1, p, none⟩ (.bool b2))) := Lib.hid fun b2 e => (hS.set p b2).congr fun n _ => by rw [e]; exact hput n
            have hbt2 : ∀ b2 : Bool, Blk (wr.setCell ⟨w.heap.size + 1, p, none⟩ (.bool b2)) w5.heap.size 94 (bcl tt) := fun b2 => hbt.far (by simp; omega) _
            have HB := Lib.hid hbt2
            clear hu hp hput hmm hpp hbt2 hS hbt HP HM
            generalize setM (r.take k) (q, f, d) m p = z1 at *
            generalize tt m = z2 at *
            cases z1
            · cases z2
              all_goals
                go_wp2
                go_roundw
                case rel => exact ⟨m + 1, by omega, by simp, HNX.out _ rfl, HB.out _⟩
                case measure => simp [intOf]; omega
            · go_wp2
              go_roundw
              case rel => exact ⟨m + 1, by omega, by simp, HNX.out _ (by simp), HB.out _⟩
              case measure => simp [intOf]; omega
          · obtain rfl : m = 256 := by omega
            have hmt' : ¬ ((256 : Nat) : Int) < 256 := by omega
            have HE : Hid (SzSt w (.slice (some ⟨b, o, none⟩) len cap) (setZ (r.take (k + 1))) wr) := Lib.hid (by
              rw [HT.out]
              exact hS.congr fun n _ => HA.out n)
            clear hS hbt HP HM HT HA HZ
            go_wp2
            go_roundw
            case rel => exact ⟨k + 1, by omega, by simp, HE.out⟩
            case measure => simp [intOf]; omega
      · have HE : Hid (SzSt w (.slice (some ⟨b, o, none⟩) len cap) (setZ (r.take (k + 1))) (w5.alloc (.cells (bcl (setOf f.toNat d)) 94))) := Lib.hid (by
          rw [HT.out]
          refine HS6.out.congr fun n hn => ?_
          rw [← HF.out 0 (by omega) n hn, HZ.out n])
        have hcs : ¬ q0 ≥ 0 ∨ (q0 ≥ 0 ∧ ¬ q0 < 256) := by omega
        clear HS6 HT HF HZ HA HP HM hq
        rcases hcs with h1 | ⟨h1, h2⟩
        all_goals
          go_wp2
          generalize w5.alloc (.cells (bcl (setOf f.toNat d)) 94) = W1 at *
          go_loopw [7] (fun i W => i = .int .i64 0 ∧ W = W1) (fun i _ => 0)
          case atStart => exact ⟨rfl, rfl⟩
          case round =>
            obtain ⟨rfl, rfl⟩ := hrel
            go_wp2
            go_roundw
            case rel => exact ⟨k + 1, by omega, by simp, HE.out⟩
            case measure => simp [intOf]; omega
    · obtain rfl : k = len := by omega
      have hge : ¬ (k : Int) < k := by omega
      rw [List.take_of_length_le (by omega)] at hS
      have HS := Lib.hid hS
      clear hS HR HD
      go_wp2
      go_ret
      exact ⟨N, HN.out, rfl, HS.out.2.1, HS.out.2.2⟩
end Go.Proofs.YtbfchlfagdhglaaDoor
/- The document's answer: is it a bitmap (tesseraeref07.Right)? -/
namespace Go.Proofs.YtbfchlfagdhglaaDoor
open Go.RowKit

/-- The boxed bitmap, held over calls. -/
def RtSt (w : World) (sv : Value) (r : List Ch) (W : World) : Prop := Blk W w.heap.size 24 #[sv] ∧ Chs W.heap.size W sv r ∧ Below w.heap.size w W
theorem RtSt.start {w : World} {sv : Value} {r : List Ch} (h : Chs w.heap.size w sv r) : RtSt w sv r (w.alloc (.cells #[sv] 24)) :=
  ⟨Blk.new w _ _, h.under ((Below.refl _ w).alloc (Nat.le_refl _) _), (Below.refl _ w).alloc (Nat.le_refl _) _⟩
theorem RtSt.under {w a b : World} {sv : Value} {r : List Ch} (h : RtSt w sv r a) (hb : Below a.heap.size a b) : RtSt w sv r b :=
  ⟨h.1.under hb, h.2.1.under hb, h.2.2.trans (hb.mono h.2.2.size)⟩
theorem RtSt.held {w a : World} {sv : Value} {r : List Ch} (h : RtSt w sv r a) : a.cell? ⟨w.heap.size, 0, none⟩ = some sv ∧ RtSt w sv r a := ⟨h.1.cell 0, h⟩
theorem RtSt.hold {w a b : World} {sv : Value} {r : List Ch} (h : a.cell? ⟨w.heap.size, 0, none⟩ = some sv ∧ RtSt w sv r a) (hb : Below a.heap.size a b) : b.cell? ⟨w.heap.size, 0, none⟩ = some sv ∧ RtSt w sv r b := (h.2.under hb).held
theorem RtSt.chs {w a : World} {sv : Value} {r : List Ch} (h : a.cell? ⟨w.heap.size, 0, none⟩ = some sv ∧ RtSt w sv r a) : Chs a.heap.size a sv r := h.2.2.1
theorem right_small {r : List Ch} (h : r.length ≤ 256) : decide (RightZ r) = decide (r = ofS (setZ r)) := decide_eq_decide.2 ⟨fun k => k.2, fun k => ⟨h, k⟩⟩
theorem right_big {r : List Ch} (h : ¬ r.length ≤ 256) : decide (RightZ r) = false := decide_eq_false fun k => h k.1
/-- Chunks as they may come: of at most 300 bytes. -/
def Ok3 (r : List Ch) : Prop := ∀ c ∈ r, c.2.2.length ≤ 300
theorem ok3_of (s : Bs) : Ok3 (ofS s) := fun c hc => by
  obtain ⟨j, _, rfl, _⟩ := mem_ofTo hc
  have := best_32 (part s j)
  show (bestD (part s j)).length ≤ 300
  omega
theorem of_slice {W w' : World} {s : Bs} {e : Ending} (h : ∃ v, e = .returned (.agg #[v]) ∧ w'.ownsRow W.heap.size 48 3 v (ofS s).length (chsCells (ofS s)) ∧ Below W.heap.size W w') :
    ∃ y c, e = .returned (.agg #[.slice y (ofS s).length c]) ∧ (ofS s).length ≤ c ∧ c ≤ maxLen ∧ Chs w'.heap.size w' (.slice y (ofS s).length c) (ofS s) ∧ Below W.heap.size W w' := by
  obtain ⟨v, rfl, ho, hb⟩ := h
  obtain ⟨y, c, rfl, h1, h2, h3, _⟩ := chs_row rfl ho
  exact ⟨y, c, rfl, h1, h2, h3, hb⟩
theorem ref_of_all (s : Bs) (g len cap : Nat) (hlen : len = 65536) (W : World) (hs : Row W g s) :
    Calls Tryd.prog 30 #[.slice (some ⟨g, 0, none⟩) len cap] W fun e w' => ∃ y c, e = .returned (.agg #[.slice y (ofS s).length c]) ∧ (ofS s).length ≤ c ∧ c ≤ maxLen ∧ Chs w'.heap.size w' (.slice y (ofS s).length c) (ofS s) ∧ Below W.heap.size W w' :=
  (ref_of_any g s len cap hlen W hs).mono fun _ _ h => of_slice h

set_option maxRecDepth 100000 in
set_option maxHeartbeats 4000000 in
theorem ref_rightz_any (x : Option Addr) (len cap : Nat) (r : List Ch) (hm : len ≤ 9223372036854775807) (hd : Ok3 r) (w : World) (hr : Chs w.heap.size w (.slice x len cap) r) :
    Calls Tryd.prog 18 #[.agg #[.slice x len cap]] w fun e w' => e = .returned (.bool (decide (RightZ r))) ∧ Below w.heap.size w w' := by
  have hl := hr.len
  have hS0 := (RtSt.start hr).held
  have HSet := Lib.hid (fun W h => ref_setz_any x len cap r hm hd W h)
  have HOf := Lib.hid (ref_of_all (setZ r))
  have hql := ofS_length (setZ r)
  have HSame := Lib.hid (fun y c2 W h1 h2 => ref_same_any x len cap r y (ofS (setZ r)).length c2 (ofS (setZ r)) hm (by omega) W h1 h2)
  clear hr hd
  go_enter Tryd.func18, Tryd.ntmps18
  go_wp2
  generalize w.alloc (.cells #[.slice x len cap] 24) = w1 at *
  by_cases hll : len ≤ 256
  · have hll' : (len : Int) ≤ 256 := by omega
    have hV := right_small (r := r) (by omega)
    have HV := Lib.hid hV
    have hd0 := RtSt.hold hS0 ((Below.refl _ _).drew)
    clear hV hl
    generalize setZ r = z at *
    generalize ofS z = q at *
    generalize hbb : decide (r = q) = b1 at *
    clear hbb
    go_region_held3 (fun W => W.cell? ⟨w.heap.size, 0, none⟩ = some (.slice x len cap) ∧ RtSt w (.slice x len cap) r W) (first | assumption | exact RtSt.hold (by assumption) (by assumption) | exact hd0) (first | (go_at_call 31; refine (HSet.out _ (RtSt.chs (w := w) (by assumption))).mono ?_; rintro e w5 ⟨N, hN, rfl, hrow, hb5⟩; have HN := Lib.hid hN; clear hN) | (go_at_call 30; refine (HOf.out _ _ _ (Hid.out (by assumption)) _ (by assumption)).mono ?_; rintro e w6 ⟨y, c2, rfl, k1, k2, k3, hb6⟩) | (go_at_call 12; refine (HSame.out _ _ _ (RtSt.chs (w := w) (by assumption)) (by assumption)).mono ?_; rintro e w7 ⟨rfl, hb7⟩))
    all_goals
      rename_i hS1
      have hB := hS1.2.2.2
      clear hS1
      go_wp2
      go_ret
      exact ⟨by rw [HV.out]; rfl, hB⟩
  · have hll' : ¬ (len : Int) ≤ 256 := by omega
    have HV := Lib.hid (right_big (r := r) (by omega))
    clear hl
    have hB := hS0.2.2.2
    obtain ⟨c0, hS⟩ := hS0
    have HS := Lib.hid hS
    clear hS
    go_quiet (fail)
    go_wp2
    go_ret
    exact ⟨by rw [HV.out]; rfl, by exact ⟨HS.out.2.2.os, HS.out.2.2.tape, HS.out.2.2.output, HS.out.2.2.size, HS.out.2.2.block⟩⟩
end Go.Proofs.YtbfchlfagdhglaaDoor
/- Bitmaps of numbers: what is answered. -/
namespace Go.Proofs.YtbfchlfagdhglaaDoor
open Go.RowKit

/-- A number that a bitmap can have. -/
def goodQ (z : Int) : Bool := decide (0 ≤ z) && decide (z < 65536)
def AllQ (zs : List Int) : Prop := ∀ z ∈ zs, goodQ z = true
instance (zs : List Int) : Decidable (AllQ zs) := by unfold AllQ; infer_instance
/-- The bitmap of numbers, and what is wrong with them. -/
def makeZ (zs : List Int) : List Ch × Int := if AllQ zs then (ofS (ofL zs), 0) else ([], 70)
theorem makeZ_good {zs : List Int} (h : AllQ zs) : makeZ zs = (ofS (ofL zs), 0) := if_pos h
theorem makeZ_bad {zs : List Int} (h : ¬ AllQ zs) : makeZ zs = ([], 70) := if_neg h
/-- A bitmap and an error that are answered. -/
def RoarRes (w : World) (p : List Ch × Int) (e : Ending) (w' : World) : Prop :=
  ∃ y c, e = .returned (.tuple #[.agg #[.slice y p.1.length c], .int .i64 p.2]) ∧ p.1.length ≤ c ∧ c ≤ maxLen ∧ Chs w'.heap.size w' (.slice y p.1.length c) p.1 ∧ Below w.heap.size w w' ∧ ∀ b o, y = some ⟨b, o, none⟩ → w.heap.size ≤ b
theorem roar_none {w w' : World} {p : List Ch × Int} (hp : p = ([], 70)) {e : Ending} (he : e = .returned (.tuple #[.agg #[.slice none 0 0], .int .i64 70])) (hb : Below w.heap.size w w') : RoarRes w p e w' := by
  subst hp
  exact ⟨none, 0, he, Nat.le_refl _, by decide, .inl ⟨⟨none, 0, rfl⟩, rfl⟩, hb, fun _ _ e => by cases e⟩
theorem roar_some {w w' : World} {p : List Ch × Int} {r : List Ch} (hp : p = (r, 0)) {e : Ending} {y : Option Addr} {c : Nat} (he : e = .returned (.tuple #[.agg #[.slice y r.length c], .int .i64 0])) (h1 : r.length ≤ c) (h2 : c ≤ maxLen) (hc : Chs w'.heap.size w' (.slice y r.length c) r) (hb : Below w.heap.size w w') (hf : ∀ b o, y = some ⟨b, o, none⟩ → w.heap.size ≤ b) : RoarRes w p e w' := by
  subst hp
  exact ⟨y, c, he, h1, h2, hc, hb, hf⟩
theorem allQ_of {zs : List Int} (h : ∀ j, j < zs.length → goodQ (zs[j]?.getD 0) = true) : AllQ zs := by
  intro z hz
  obtain ⟨j, hj, rfl⟩ := List.mem_iff_getElem.1 hz
  have := h j hj
  rwa [List.getElem?_eq_getElem hj] at this
theorem not_allQ {zs : List Int} {k : Nat} (hk : k < zs.length) (h : goodQ (zs[k]?.getD 0) = false) : ¬ AllQ zs := fun hg => by
  rw [List.getElem?_eq_getElem hk] at h
  have := hg _ (List.getElem_mem hk)
  rw [Option.getD_some, this] at h; cases h
theorem ofL_takeZ (zs : List Int) (k : Nat) (h : k < zs.length) (z : Nat) (hz : zs[k]?.getD 0 = z) (n : Nat) : (if n = z then true else ofL (zs.take k) n) = ofL (zs.take (k + 1)) n := by
  rw [List.getElem?_eq_getElem h, Option.getD_some] at hz
  unfold ofL
  rw [List.take_add_one, List.getElem?_eq_getElem h, List.any_append, hz]
  simp only [Option.toList_some, List.any_cons, List.any_nil, Bool.or_false]
  by_cases e : n = z
  · subst e; simp
  · rw [if_neg e, show ((z : Int) == (n : Int)) = false by rw [beq_eq_false_iff_ne]; omega, Bool.or_false]
theorem SzSt.store {w wr : World} {v : Value} {s : Bs} (h : SzSt w v s wr) (u : Value) : Blk (wr.setCell ⟨w.heap.size, 0, none⟩ u) w.heap.size 24 #[u] ∧ Below w.heap.size w (wr.setCell ⟨w.heap.size, 0, none⟩ u) :=
  ⟨h.1.set_ 0 u, h.2.2.setCell (Nat.le_refl _) u⟩
theorem chs_set {W : World} {g : Nat} {u sv : Value} {r : List Ch} (h : Chs W.heap.size W sv r) (hne : ∀ b o l c, sv = .slice (some ⟨b, o, none⟩) l c → b ≠ g) : Chs (W.setCell ⟨g, 0, none⟩ u).heap.size (W.setCell ⟨g, 0, none⟩ u) sv r := by
  rcases h with h | ⟨b, o, c, e, h1, h2⟩
  · exact .inl h
  · have hn := hne b o r.length c e
    refine .inr ⟨b, o, c, e, by simpa using h1, fun j hj => ?_⟩
    obtain ⟨a1, a2, a3⟩ := h2 j hj
    refine ⟨?_, ?_, ?_⟩
    · rw [World.cell?_setCell_far _ _ _ _ (by simpa using hn.symm)]; exact a1
    · rw [World.cell?_setCell_far _ _ _ _ (by simpa using hn.symm)]; exact a2
    · rw [World.cell?_setCell_far _ _ _ _ (by simpa using hn.symm)]; exact a3
/-- The bitmap that a row of chunks is, behind a store into the result's box below it. -/
theorem own_chs {W : World} {base g : Nat} {v u : Value} {r : List Ch} (h : W.ownsRow base 48 3 v r.length (chsCells r)) (hg : g < base) : ∃ y c, v = .slice y r.length c ∧ r.length ≤ c ∧ c ≤ maxLen ∧ Chs (W.setCell ⟨g, 0, none⟩ u).heap.size (W.setCell ⟨g, 0, none⟩ u) (.slice y r.length c) r ∧ ∀ b o, y = some ⟨b, o, none⟩ → base ≤ b :=
  chs_row rfl (rows_far h (p := ⟨g, 0, none⟩) hg u)
end Go.Proofs.YtbfchlfagdhglaaDoor
/- What bitmaps make: Flip, Values, Op as mathematics. -/
namespace Go.Proofs.YtbfchlfagdhglaaDoor
open Go.RowKit

def okQ (a b : Int) : Prop := 0 ≤ a ∧ a ≤ 65536 ∧ 0 ≤ b ∧ b ≤ 65536
instance (a b : Int) : Decidable (okQ a b) := by unfold okQ; infer_instance
/-- A bitmap flipped from a to b. -/
def flipZ (r : List Ch) (a b : Int) : List Ch × Int := if RightZ r ∧ okQ a b then (ofS (flipS (setZ r) a b), 0) else ([], 70)
theorem flipZ_good {r : List Ch} {a b : Int} (h : RightZ r) (k : okQ a b) : flipZ r a b = (ofS (flipS (setZ r) a b), 0) := if_pos ⟨h, k⟩
theorem flipZ_bad {r : List Ch} {a b : Int} (h : ¬ (RightZ r ∧ okQ a b)) : flipZ r a b = ([], 70) := if_neg h
theorem right_nil : RightZ [] := ⟨by decide, by
  have h : ∀ k, ofTo (setZ []) k = [] := fun k => by
    induction k with
    | zero => rfl
    | succ k ih =>
      rw [ofTo_none, ih]
      unfold vals valsTo part
      rw [List.filter_eq_nil_iff]
      intro a _
      rw [setZ_nil]; decide
  exact (h 256).symm⟩
/-- A bitmap's numbers, rising; none of what is no bitmap. -/
def valsZ (r : List Ch) : List Nat := if RightZ r then valsTo (setZ r) 65536 else []
theorem valsZ_good {r : List Ch} (h : RightZ r) : valsZ r = valsTo (setZ r) 65536 := if_pos h
theorem valsZ_bad {r : List Ch} (h : ¬ RightZ r) : valsZ r = [] := if_neg h
theorem valsZ_le (r : List Ch) : (valsZ r).length ≤ 65536 := by
  by_cases h : RightZ r
  · rw [valsZ_good h]; exact valsTo_le _ _
  · rw [valsZ_bad h]; exact Nat.zero_le _
/-- The numbers that are answered. -/
def ValsRes (w : World) (l : List Nat) (e : Ending) (w' : World) : Prop :=
  ∃ x c, e = .returned (.slice x l.length c) ∧ Ints w'.heap.size w' (.slice x l.length c) (zsOf l) ∧ Below w.heap.size w w'

def okOpZ (op : Int) : Prop := 1 ≤ op ∧ op ≤ 4
instance (op : Int) : Decidable (okOpZ op) := by unfold okOpZ; infer_instance
/-- What an operation makes of two bitmaps. -/
def opZ (op : Int) (r q : List Ch) : List Ch × Int := if RightZ r ∧ RightZ q ∧ okOpZ op then (ofS (opS op.toNat (setZ r) (setZ q)), 0) else ([], 70)
theorem opZ_good {op : Int} {r q : List Ch} (h : RightZ r) (k : RightZ q) (o : okOpZ op) : opZ op r q = (ofS (opS op.toNat (setZ r) (setZ q)), 0) := if_pos ⟨h, k, o⟩
theorem opZ_bad {op : Int} {r q : List Ch} (h : ¬ (RightZ r ∧ RightZ q ∧ okOpZ op)) : opZ op r q = ([], 70) := if_neg h
end Go.Proofs.YtbfchlfagdhglaaDoor
