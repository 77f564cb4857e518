import Derived.Test.YtbfchlfagdhglaaDoorMG12
import Derived.Test.YtbfchlfagdhglaaDoorMG13
import Derived.Test.YtbfchlfagdhglaaDoorMG14
import Derived.Test.YtbfchlfagdhglaaDoorMG5
import Derived.Laws.IdiomStrings
import Derived.Test.YtbfchlfagdhglaaDoorRows
import Derived.Test.YtbfchlfagdhglaaDoorMG2
import Derived.ProofKit
import Derived.OpenShut
import Derived.Lib.SmallJoins
import Derived.ShutString
import Derived.Deep.Onto
import Derived.DataShut
import Derived.Test.YtbfchlfagdhglaaDoorMG6
/- What the program's calls answer, in one form: Right, Values, Encode, Make. -/
namespace Go.Proofs.YtbfchlfagdhglaaDoor
open Go.RowKit
/-- A bitmap's length and place, as a call wants them. -/
def OkR (len cap : Nat) (r : List Ch) : Prop := len ≤ cap ∧ cap ≤ 9223372036854775807 ∧ ∀ c ∈ r, OkCh c
theorem OkR.len {len cap : Nat} {r : List Ch} (h : OkR len cap r) : len ≤ 9223372036854775807 := Nat.le_trans h.1 h.2.1
section
variable (x : Option Addr) (len cap : Nat) (r : List Ch) (hk : OkR len cap r) (W : World) (h : Chs W.heap.size W (.slice x len cap) r)
include hk h
theorem right_prog : Calls Tryd.prog 16 #[.agg #[.slice x len cap]] W fun e w' => e = .returned (.bool (decide (RightZ r))) ∧ Below W.heap.size W w' := right_roar x len cap r hk.2.2 hk.len W h
theorem values_prog : Calls Tryd.prog 15 #[.agg #[.slice x len cap]] W (ValsRes W (valsZ r)) := values_roar x len cap r hk.2.2 hk.len W h
theorem enc_prog : Calls Tryd.prog 6 #[.agg #[.slice x len cap]] W fun e w' => e = .returned (.tuple #[.string ⟨(encZ r).1.toArray⟩, .int .i64 (encZ r).2]) ∧ Below W.heap.size W w' := enc_roar x len cap r hk.2.2 hk.len W h
end
theorem make_prog (x : Option Addr) (len cap : Nat) (zs : List Int) (hlen : zs.length = len) (hlc : len ≤ 1000000) (_hcm : cap ≤ 9223372036854775807) (_hz : In64 zs) (W : World) (hI : Ints W.heap.size W (.slice x len cap) zs) : Calls Tryd.prog 13 #[.slice x len cap] W (RoarRes W (makeZ zs)) := make_roar x len cap zs hlen hlc W hI
end Go.Proofs.YtbfchlfagdhglaaDoor
/- What the laws call on what comes in: few, Few. -/
namespace Go.Proofs.YtbfchlfagdhglaaDoor
open Go.RowKit

/-- A chunk of at most 260 bytes. -/
def cutC (c : Ch) : Ch := (c.1, c.2.1, c.2.2.take 260)
/-- A bitmap of at most twenty such chunks. -/
def fewR (r : List Ch) : List Ch := (r.take 20).map cutC
theorem fewR_ok (r : List Ch) : Ok3 (fewR r) := fun c hc => by
  obtain ⟨x, _, rfl⟩ := List.mem_map.1 hc
  show (x.2.2.take 260).length ≤ 300
  rw [List.length_take]; omega
theorem fewR_length (r : List Ch) : (fewR r).length ≤ 20 := by unfold fewR; rw [List.length_map, List.length_take]; omega
theorem take_minC (d : List UInt8) (k : Nat) : d.take (min d.length k) = d.take k := by
  rcases Nat.le_total d.length k with h | h
  · rw [Nat.min_eq_left h, List.take_length, List.take_of_length_le h]
  · rw [Nat.min_eq_right h]
theorem app_row {a w4 : World} {base : Nat} {v v2 : Value} {r : List Ch} {c : Ch} {o : Obj} (h0 : a.ownsRow base 48 3 v r.length (chsCells r)) (hown : w4.ownsRow base 48 3 v2 (r.length + 1) (chsCells r ++ chCells c)) (hg : (a.alloc o).grownBy w4 v.ownBlock) (hb : base ≤ a.heap.size) :
    Below base a w4 ∧ w4.ownsRow base 48 3 v2 (r ++ [c]).length (chsCells (r ++ [c])) := by
  refine ⟨((Below.refl _ a).alloc hb _).grown hg (by rw [World.size_alloc]; omega) (fun k e => (h0.lt k e).1), ?_⟩
  rw [List.length_append, chsCells_append, chsCells_one]
  exact hown
/-- The state of Few's walk: three boxes. -/
def FwSt (w : World) (u v : Value) (q : List Ch) (W : World) : Prop :=
  Blk W w.heap.size 24 #[u] ∧ Blk W (w.heap.size + 1) 24 #[.slice none 0 0] ∧ Blk W (w.heap.size + 2) 24 #[v] ∧ W.ownsRow (w.heap.size + 3) 48 3 v q.length (chsCells q) ∧ Below w.heap.size w W
theorem FwSt.start (w : World) (u : Value) : FwSt w u (.slice none 0 0) [] (((w.alloc (.cells #[u] 24)).alloc (.cells #[.slice none 0 0] 24)).alloc (.cells #[.slice none 0 0] 24)) := by
  refine ⟨((Blk.new w _ _).alloc _).alloc _, ?_, ?_, World.ownsRow_nil _ _ _ _, (((Below.refl _ w).alloc (Nat.le_refl _) _).alloc (by simp) _).alloc (by simp; omega) _⟩
  · have := (Blk.new (w.alloc (.cells #[u] 24)) 24 #[.slice none 0 0]).alloc (.cells #[.slice none 0 0] 24)
    simpa using this
  · have := Blk.new ((w.alloc (.cells #[u] 24)).alloc (.cells #[.slice none 0 0] 24)) 24 #[.slice none 0 0]
    simpa using this
theorem FwSt.lt {w a : World} {u v : Value} {q : List Ch} (h : FwSt w u v q a) : w.heap.size + 3 ≤ a.heap.size := h.2.2.1.lt
theorem FwSt.below {w a b : World} {n : Nat} {u v : Value} {q : List Ch} (h : FwSt w u v q a) (hb : Below n a b) (hn : a.heap.size ≤ n) : FwSt w u v q b :=
  ⟨h.1.below hb (Nat.lt_of_lt_of_le h.1.lt hn), h.2.1.below hb (Nat.lt_of_lt_of_le h.2.1.lt hn), h.2.2.1.below hb (Nat.lt_of_lt_of_le h.2.2.1.lt hn), rows_below h.2.2.2.1 hb hn, h.2.2.2.2.trans (hb.mono (Nat.le_trans h.2.2.2.2.size hn))⟩
theorem FwSt.app {w a w4 : World} {u v v2 : Value} {q : List Ch} {c : Ch} {o : Obj} (h : FwSt w u v q a) (hown : w4.ownsRow (w.heap.size + 3) 48 3 v2 (q.length + 1) (chsCells q ++ chCells c)) (hg : (a.alloc o).grownBy w4 v.ownBlock) :
    w4.cell? ⟨w.heap.size + 2, 0, none⟩ = some v ∧ w4.frozen? ⟨w.heap.size + 2, 0, none⟩ = false ∧ FwSt w u v2 (q ++ [c]) (w4.setCell ⟨w.heap.size + 2, 0, none⟩ v2) := by
  obtain ⟨hb, ho⟩ := app_row h.2.2.2.1 hown hg h.lt
  have b0 := h.1.below hb (by omega)
  have b1 := h.2.1.below hb (by omega)
  have b2 := h.2.2.1.below hb (by omega)
  exact ⟨b2.cell 0, b2.frozen 0, b0.far (by simp) _, b1.far (by simp) _, b2.set_ 0 v2, rows_far ho (by simp) v2, (h.2.2.2.2.trans (hb.mono (by omega))).setCell (by simp) _⟩
/-- The bitmap that is answered. -/
def RoarOne (w : World) (r : List Ch) (e : Ending) (w' : World) : Prop :=
  ∃ y c, e = .returned (.agg #[.slice y r.length c]) ∧ r.length ≤ c ∧ c ≤ maxLen ∧ Chs w'.heap.size w' (.slice y r.length c) r ∧ Below w.heap.size w w' ∧ ∀ b o, y = some ⟨b, o, none⟩ → w.heap.size ≤ b

set_option maxRecDepth 100000 in
set_option maxHeartbeats 4000000 in
theorem fewr_any (x : Option Addr) (len cap : Nat) (r : List Ch) (_hm : len ≤ 9223372036854775807) (hd : ∀ c ∈ r, c.2.2.length ≤ 9223372036854775807) (w : World) (hr : Chs w.heap.size w (.slice x len cap) r) :
    Calls Tryd.prog 7 #[.agg #[.slice x len cap]] w (RoarOne w (fewR r)) := by
  have hl := hr.len
  have HR := Lib.hid hr
  have HD := Lib.hid hd
  have HS0 := Lib.hid (FwSt.start w (.slice x len cap))
  clear hr hd
  obtain ⟨j0, hj, hy0, hy1, hy2⟩ := info_parts info_chunk
  have HJ := Lib.hid hj; have HY0 := Lib.hid hy0; have HY1 := Lib.hid hy1; have HY2 := Lib.hid hy2
  clear hj hy0 hy1 hy2
  go_enter Tryd.func7, Tryd.ntmps7
  go_wp2
  generalize (((w.alloc (.cells #[.slice x len cap] 24)).alloc (.cells #[.slice none 0 0] 24)).alloc (.cells #[.slice none 0 0] 24)) = w1 at *
  go_loopw [4] (fun i wr => ∃ (k : Nat) (v : Value), k ≤ len ∧ k ≤ 20 ∧ i = .int .i64 k ∧ FwSt w (.slice x len cap) v ((r.take k).map cutC) wr) (fun i _ => len - (intOf i).toNat)
  case atStart => exact ⟨0, _, Nat.zero_le _, Nat.zero_le _, rfl, HS0.out⟩
  case round =>
    obtain ⟨k, v, hk, hk2, rfl, hS⟩ := hrel
    have c0 := hS.1.cell 0
    dsimp at c0
    clear HS0
    by_cases hlt : k < len ∧ k < 20
    · obtain ⟨hlt, hlt2⟩ := hlt
      have hlt' : (k : Int) < len := by omega
      have hlt2' : (k : Int) < 20 := by omega
      obtain ⟨b, o, rfl, hb, hc⟩ := HR.out.at_ hlt
      have hc := hc.below hS.2.2.2.2 hb
      obtain ⟨d1, d2, d3⟩ := hc
      have hT : (r.take (k + 1)).map cutC = (r.take k).map cutC ++ [cutC (r.getD k noCh)] := by rw [take_get (by omega), List.map_append]; rfl
      have hlq : ((r.take k).map cutC).length ≤ 20 := by rw [List.length_map, List.length_take]; omega
      have hdk : (r.getD k noCh).2.2.length ≤ 9223372036854775807 := HD.out _ (by rw [List.getD_eq_getElem?_getD, List.getElem?_eq_getElem (by omega)]; exact List.getElem_mem _)
      have HT := Lib.hid hT
      generalize r.getD k noCh = c at *
      generalize (r.take k).map cutC = q at *
      obtain ⟨q0, f, d⟩ := c
      dsimp only at d1 d2 d3 hdk
      obtain ⟨m, hm', hmin⟩ : ∃ m : Nat, m = min d.length 260 ∧ ∀ (ts : Array TypeId) (t : TypeId) (W : World), (Builtin.min_ ts t #[.int .i64 (d.length : Int), .int .i64 260]).run Tryd.prog W = .ok (.int .i64 (m : Int)) W := ⟨min d.length 260, rfl, fun ts t W => by
        rw [run_min_int2]
        congr 2
        split <;> omega⟩
      have hext := (ext_mk d 0 m).trans (mk_str (b := d.take 260) (by rw [List.drop_zero, hm', take_minC]))
      have hml : (m : Int) ≤ d.length := by omega
      have hS6 := hS.below ((Below.refl _ wr).alloc (Nat.le_refl _) (.cells #[.int .i64 q0, .int .i64 f, .string ⟨(d.take 260).toArray⟩] 48)) (Nat.le_refl _)
      have c1 := hS6.2.2.1.cell 0
      dsimp at c1
      have hC : cutC (q0, f, d) = (q0, f, d.take 260) := rfl
      rw [hC] at HT
      clear hT hm' hl hC HR HD hb hS
      go_wp2_with (at_builtin; refine wpList_append_own _ rfl _ _ 22 rfl (w.heap.size + 3) 48 j0 (.agg #[.int .i64 0, .int .i64 0, .string ⟨#[]⟩]) 3 32 Tryd.underlying22 HJ.out HY0.out HY1.out HY2.out rfl (by decide) _ _ _ rfl (hS6.2.2.2.1.alloc _) ⟨wr.heap.size + 1, 0, none⟩ 1 1 [.int .i64 q0, .int .i64 f, .string ⟨(d.take 260).toArray⟩] rfl rfl (by have := cells_three (wr.alloc (.cells #[.int .i64 q0, .int .i64 f, .string ⟨(d.take 260).toArray⟩] 48)) (.int .i64 q0) (.int .i64 f) (.string ⟨(d.take 260).toArray⟩) 48; rwa [World.size_alloc] at this) (by simp [Value.oneCell']) (by unfold maxLen; omega) (by omega) (by have := hS6.lt; rw [World.size_alloc]; omega) ?_; intro v2 w4 hown4 hgrow2 _; obtain ⟨x2, k2, rfl⟩ := own_slice hown4; obtain ⟨e1, e2, hS9⟩ := FwSt.app (c := (q0, f, d.take 260)) hS6 hown4 hgrow2; rw [← HT.out] at hS9; clear hS6 hown4 hgrow2 HT)
      go_roundw
      case rel => exact ⟨k + 1, _, by omega, by omega, by simp, hS9⟩
      case measure => simp [intOf]; omega
    · have hcs : ¬ (k : Int) < len ∨ ((k : Int) < len ∧ ¬ (k : Int) < 20) := by omega
      have hE : (r.take k).map cutC = fewR r := by
        unfold fewR
        congr 1
        by_cases h : k < len
        · rw [show k = 20 by omega]
        · rw [List.take_of_length_le (by omega), List.take_of_length_le (by omega)]
      rw [hE] at hS
      obtain ⟨y, c, rfl, h1, h2, h3, h4⟩ := own_chs (g := w.heap.size + 1) (u := v) hS.2.2.2.1 (by omega)
      have c1 := hS.2.2.1.cell 0
      have f1 := hS.2.1.frozen 0
      have g1 := hS.2.1.cell 0
      dsimp at c1 g1
      have hE2 := hS.2.1.set_ 0 (.slice y (fewR r).length c)
      have hD := hS.2.2.2.2.setCell (p := ⟨w.heap.size + 1, 0, none⟩) (by simp) (.slice y (fewR r).length c)
      have H3 := Lib.hid h3
      have H4 : Hid (∀ b o, y = some ⟨b, o, none⟩ → w.heap.size ≤ b) := Lib.hid (fun b o e => by have := h4 b o e; omega)
      clear hS h3 h4 hE HR HD
      rcases hcs with h5 | ⟨h5, h6⟩
      all_goals
        go_wp2
        exact ret_roar rfl rfl hE2 rfl ⟨y, c, rfl, h1, h2, H3.out, hD, H4.out⟩
set_option maxRecDepth 100000 in
theorem fewz_any (x : Option Addr) (len cap : Nat) (hlc : len ≤ cap) (_hcm : cap ≤ 9223372036854775807) (w : World) : Calls Tryd.prog 14 #[.slice x len cap] w fun e w' => e = .returned (.slice x (min len 300) cap) ∧ w = w' := by
  by_cases h : (len : Int) ≤ 300
  · have hm : min len 300 = len := by omega
    have HM := Lib.hid hm
    clear hm
    go_enter Tryd.func14, Tryd.ntmps14
    go_wp2
    go_ret
    exact ⟨by rw [HM.out]; first | rfl | (rw [Int.min_eq_left h]; rfl), rfl⟩
  · have hm : min len 300 = 300 := by omega
    have HM := Lib.hid hm
    clear hm
    go_enter Tryd.func14, Tryd.ntmps14
    go_wp2
    go_ret
    exact ⟨by rw [HM.out]; first | rfl | (rw [Int.min_eq_right (by omega)]; rfl), rfl⟩
end Go.Proofs.YtbfchlfagdhglaaDoor
/- What the rows of this layer's laws share: what an argument reads as. -/
namespace Go.Proofs.YtbfchlfagdhglaaDoor
open Go.ChangeShapes Go.WideShapes Go.ChangeAt Go.RowKit Go.Joins

theorem own : ownKnob Tryd.prog.godebug = none := by kernel_rfl
theorem i64_of_wf {n : Int} (h : (Lit.int .i64 n).wf = true) : -9223372036854775808 ≤ n ∧ n ≤ 9223372036854775807 := by
  simp only [Lit.wf, Bool.and_eq_true, decide_eq_true_eq] at h; exact h
section
variable {H : Type} {enc : TypeId × Value → H}
theorem cellsI : Tryd.prog.cellsOf 3 = 1 := by kernel_rfl
set_option maxRecDepth 100000 in
theorem in64_of {zs : List Int} (h : ∀ n ∈ zs, (Lit.int .i64 n).wf = true) : In64 zs := fun j => by
  by_cases hj : j < zs.length
  · rw [List.getElem?_eq_getElem hj]
    exact i64_of_wf (h _ (List.getElem_mem hj))
  · rw [List.getElem?_eq_none (by omega)]
    decide
set_option maxRecDepth 100000 in
/-- Numbers in a slice: they lie in old memory, and read as before wherever that lies as it lay. -/
theorem open_numbers {W : World} {r : Reach} {b0 : Nat} {v : Value} {d : DataW H} {p : List MemPlace} (hv : Value.okWide Tryd.prog W r b0 35 v) (h : DataW.Trod enc Tryd.prog W 0 (fun _ => true) true 35 v d p) (hlt : ∀ q ∈ p, q.block < W.heap.size) :
    ∃ (x : Option Addr) (len cap : Nat) (zs : List Int), v = .slice x len cap ∧ len ≤ cap ∧ cap ≤ 9223372036854775807 ∧ zs.length = len ∧ In64 zs ∧ Ints W.heap.size W v zs ∧
      ∀ W', Below W.heap.size W W' → ∀ sp : Nat → Bool, (∀ q ∈ p, sp q.block = true) → DataW.Trod enc Tryd.prog W' 0 sp true 35 v d p := by
  obtain ⟨x, len, cap, rfl⟩ := okWide_slice Tryd.underlying35 hv
  obtain ⟨fuel, hf⟩ := h
  rcases open_ints Tryd.underlying35 Tryd.underlying3 cellsI hf with ⟨hcs, hx⟩ | ⟨a, len', cap', zs, hcs, _, hl, hm, hz, hx, hcell, hwz⟩
  · simp [Value.cells] at hcs
    obtain ⟨rfl, rfl, rfl⟩ := hcs
    simp only [Prod.mk.injEq] at hx
    obtain ⟨rfl, rfl⟩ := hx
    exact ⟨none, 0, 0, [], rfl, Nat.le_refl _, by decide, rfl, fun j => by simp, .inl ⟨⟨none, 0, rfl⟩, rfl⟩, fun W' _ sp _ => shut_slice_nil Tryd.underlying35⟩
  · simp [Value.cells] at hcs
    obtain ⟨rfl, rfl, rfl⟩ := hcs
    simp only [Prod.mk.injEq] at hx
    obtain ⟨rfl, rfl⟩ := hx
    simp only [if_true] at hz
    have hm' : cap ≤ 9223372036854775807 := by unfold maxLen at hm; omega
    have htl : (zs.take len).length = len := by rw [List.length_take]; omega
    have hblk : 0 < zs.length → a.block < W.heap.size := fun h0 => hlt (.cell a.block a.off) (MemPlace.mem_row.2 ⟨0, h0, by simp⟩)
    refine ⟨some a, len, cap, zs.take len, rfl, hl, hm', htl, in64_of (fun n hn => hwz n (List.mem_of_mem_take hn)), ?_, ?_⟩
    · by_cases hl0 : len = 0
      · subst hl0
        exact .inl ⟨⟨some a, cap, rfl⟩, by simp⟩
      · obtain ⟨b, off, spot⟩ := a
        have hspot : spot = none := by simpa [Addr.add] using World.cell?_spot (hcell 0 (by omega))
        subst hspot
        refine .inr ⟨b, off, cap, by rw [htl], hblk (by omega), fun j hj => ?_⟩
        rw [htl] at hj
        have h1 := hcell j (by omega)
        rw [add_plain] at h1
        rw [h1, List.getElem?_take, if_pos hj]
        rfl
    · intro W' hB sp hsp
      by_cases hz0 : zs.length = 0
      · have hc0 : cap = 0 := by omega
        have hl0 : len = 0 := by omega
        subst hc0; subst hl0
        have t0 := shut_ints (enc := enc) (w := W') (base := 0) (spare := sp) (held := true) (a := a) (len := 0) (cap := 0) (zs := zs) 0 Tryd.underlying35 Tryd.underlying3 cellsI (Nat.zero_le _) (Nat.le_refl _) hm (by simp [hz0]) (fun i hi => by omega) hwz
        exact ⟨2, by simpa [Value.cells] using t0⟩
      · have hspb : sp a.block = true := hsp (.cell a.block a.off) (MemPlace.mem_row.2 ⟨0, by omega, by simp⟩)
        have hlt' := hblk (by omega)
        have t0 := shut_ints (enc := enc) (w := W') (base := 0) (spare := sp) (held := true) (a := a) (len := len) (cap := cap) (zs := zs) 0 Tryd.underlying35 Tryd.underlying3 cellsI (Nat.zero_le _) hl hm (by simp [hspb, hz]) (fun i hi => (hB.cell (by rw [block_add]; exact hlt')).trans (hcell i hi)) hwz
        exact ⟨2, by simpa [Value.cells] using t0⟩
end
end Go.Proofs.YtbfchlfagdhglaaDoor
/- A bitmap as a law's argument: a slice of chunks. -/
namespace Go.Proofs.YtbfchlfagdhglaaDoor
open Go.ChangeShapes Go.WideShapes Go.ChangeAt Go.RowKit Go.Joins
open Go.ChangeMaps (open_string shut_string)

theorem cellsCn : Tryd.prog.cellsOf 46 = 2 := by kernel_rfl
theorem cellsCh : Tryd.prog.cellsOf 48 = 3 := by kernel_rfl
theorem cellsSt : Tryd.prog.cellsOf 9 = 1 := by kernel_rfl
theorem cellsIn : Tryd.prog.cellsOf 3 = 1 := by kernel_rfl
theorem cellsSl : Tryd.prog.cellsOf 22 = 1 := by kernel_rfl
theorem cellsRo : Tryd.prog.cellsOf 24 = 1 := by kernel_rfl
section
variable {H : Type} {enc : TypeId × Value → H} {w : World} {base : Nat} {spare : Nat → Bool} {held : Bool}
set_option maxRecDepth 100000 in
theorem trod_chunk {n : Nat} {cs : List Value} {x : DataW H × List MemPlace} (h : DataW.trod enc Tryd.prog w base spare held n 48 cs = some x) :
    ∃ c : Ch, cs = chCells c ∧ OkCh c ∧ x.2 = [] ∧ ∀ (w' : World) (base' : Nat) (sp : Nat → Bool) (hd : Bool), DataW.trod enc Tryd.prog w' base' sp hd 3 48 cs = some x := by
  obtain ⟨y0, y1, n0, rfl, hl, h0, h1⟩ := trod_struct2 Tryd.underlying48 h
  obtain ⟨z0, z1, n1, rfl, hl1, g0, g1⟩ := trod_struct2 Tryd.underlying46 h1
  obtain ⟨q, e0, rfl, wq⟩ := DataW.trod_int Tryd.underlying3 h0
  obtain ⟨f, e1, rfl, wf⟩ := DataW.trod_int Tryd.underlying3 g0
  obtain ⟨s, e2, rfl, hs⟩ := DataW.trod_string Tryd.underlying9 g1
  rw [cellsCh] at hl
  match cs, hl with
  | [a, b, c], _ =>
    simp [cellsCn, cellsIn, cellsSt] at e0 e1 e2
    subst e0 e1 e2
    have e : (⟨s.data.toList.toArray⟩ : ByteArray) = s := by cases s; simp
    have hl : s.data.toList.length ≤ 9223372036854775807 := by
      unfold maxLen at hs
      rw [Array.length_toList]
      exact hs
    refine ⟨(q, f, s.data.toList), by unfold chCells; rw [e], ⟨i64_of_wf wq, i64_of_wf wf, hl⟩, rfl, fun w' base' sp hd => ?_⟩
    refine trod_struct2_mk (n := 2) (y0 := (.lit (.int .i64 q), [])) (y1 := (.agg [.lit (.int .i64 f), .lit (.string s.data.toList)], [] ++ [])) Tryd.underlying48 (by rw [cellsCh]; rfl) ?_ ?_
    · simpa [cellsIn] using trod_int_mk (enc := enc) (w := w') (base := base') (spare := sp) (held := hd) 1 Tryd.underlying3 wq
    · have := trod_struct2_mk (enc := enc) (w := w') (base := base') (spare := sp) (held := hd) (n := 1) (cs := [.int .i64 f, .string s]) (y0 := (.lit (.int .i64 f), [])) (y1 := (.lit (.string s.data.toList), [])) Tryd.underlying46 (by rw [cellsCn]; rfl)
        (by simpa [cellsIn] using trod_int_mk (enc := enc) (w := w') (base := base') (spare := sp) (held := hd) 0 Tryd.underlying3 wf)
        (by simp [cellsSt, DataW.trod, Tryd.underlying9, hs])
      simpa [cellsCn] using this
theorem cells_get {W : World} {a : Addr} {n : Nat} {cs : List Value} (h : W.cells? 0 a n = some cs) {j : Nat} {u : Value} (hj : cs[j]? = some u) : W.cell? (a.add j) = some u := by
  obtain ⟨_, hlen, hc⟩ := World.cells?_some h
  have hjn : j < n := by
    have := (List.getElem?_eq_some_iff.1 hj).1
    omega
  have := hc j hjn
  rw [hj] at this
  exact this
set_option maxRecDepth 100000 in
/-- A bitmap that comes in: it lies in old memory, and reads as before wherever that lies as it lay. -/
theorem open_roar {W : World} {r : Reach} {b0 : Nat} {v : Value} {d : DataW H} {p : List MemPlace} (hv : Value.okWide Tryd.prog W r b0 24 v) (h : DataW.Trod enc Tryd.prog W 0 (fun _ => true) true 24 v d p) (hlt : ∀ q ∈ p, q.block < W.heap.size) :
    ∃ (x : Option Addr) (len cap : Nat) (rl : List Ch), v = .agg #[.slice x len cap] ∧ len ≤ cap ∧ cap ≤ 9223372036854775807 ∧ rl.length = len ∧ (∀ c ∈ rl, OkCh c) ∧ Chs W.heap.size W (.slice x len cap) rl ∧
      ∀ W', Below W.heap.size W W' → ∀ sp : Nat → Bool, (∀ q ∈ p, sp q.block = true) → DataW.Trod enc Tryd.prog W' 0 sp true 24 v d p := by
  obtain ⟨cs, rfl, hsz⟩ := okWide_struct Tryd.underlying24 hv
  rw [cellsRo] at hsz
  obtain ⟨fuel, hf⟩ := h
  obtain ⟨y0, n0, hx0, hl0, h0⟩ := trod_struct1 Tryd.underlying24 hf
  obtain ⟨cl⟩ := cs
  match cl, hsz with
  | [u], _ =>
  simp only [Prod.mk.injEq] at hx0
  obtain ⟨rfl, rfl⟩ := hx0
  obtain ⟨d1, p1⟩ := y0
  simp [cellsSl, Value.cells] at h0
  -- shut again
  have up : ∀ (W' : World) (sp : Nat → Bool), (∃ n, DataW.trod enc Tryd.prog W' 0 sp true n 22 [u] = some (d1, p1)) → DataW.Trod enc Tryd.prog W' 0 sp true 24 (.agg #[u]) (.agg [d1]) p1 := fun W' sp ⟨n, hn⟩ => by
    refine ⟨n + 1, ?_⟩
    have := trod_struct1_mk (enc := enc) (w := W') (base := 0) (spare := sp) (held := true) (n := n) (cs := [u]) (y0 := (d1, p1)) Tryd.underlying24 (by rw [cellsRo]; rfl) (by simpa [cellsSl] using hn)
    simpa [Value.cells] using this
  rcases Deep.open_slice Tryd.underlying22 h0 with ⟨hcs, hx⟩ | ⟨a, len, cap, m, n, D, Pl, hcs, _, hl, hm, hmm, hx, hcell⟩
  · simp only [List.cons.injEq, and_true] at hcs
    subst hcs
    refine ⟨none, 0, 0, [], rfl, Nat.le_refl _, by decide, rfl, (fun c hc => by cases hc), .inl ⟨⟨none, 0, rfl⟩, rfl⟩, fun W' _ sp _ => up W' sp ?_⟩
    rw [hx]
    exact ⟨1, by simp [DataW.trod, Tryd.underlying22]⟩
  · simp only [List.cons.injEq, and_true] at hcs
    subst hcs
    simp only [if_true] at hmm
    subst hmm
    have hm' : m ≤ 9223372036854775807 := by unfold maxLen at hm; omega
    obtain ⟨C, hC⟩ := Deep.choose_lt (α := Ch) (p := fun i c => W.cells? 0 (a.add (i * 3)) 3 = some (chCells c) ∧ OkCh c ∧ Pl i = [] ∧ ∀ (w' : World) (base' : Nat) (sp : Nat → Bool) (hd : Bool), DataW.trod enc Tryd.prog w' base' sp hd 3 48 (chCells c) = some (D i, [])) (fun i hi => by
      obtain ⟨cs', h1, h2⟩ := hcell i hi
      rw [cellsCh] at h1
      obtain ⟨c, rfl, hok, hp, hall⟩ := trod_chunk h2
      have hp' : Pl i = [] := hp
      rw [hp'] at hall
      exact ⟨c, h1, hok, hp', hall⟩)
    have hrow : 0 < m → a.block < W.heap.size := fun h0 => hlt (.cell a.block a.off) (by
      simp only [Prod.mk.injEq] at hx
      rw [hx.2, cellsCh]
      exact List.mem_append_left _ (MemPlace.mem_row.2 ⟨0, by omega, by simp⟩))
    have hnone : 0 < m → a.spot = none := fun h0 => by
      have := cells_get (hC 0 h0).1 (j := 0) rfl
      simpa [Addr.add] using World.cell?_spot this
    have hget : ∀ j, j < len → ((List.range len).map C).getD j noCh = C j := fun j hj => by simp [List.getD_eq_getElem?_getD, hj]
    refine ⟨some a, len, m, (List.range len).map C, rfl, hl, hm', by simp, ?_, ?_, ?_⟩
    · intro c hc
      obtain ⟨i, hi, rfl⟩ := List.mem_map.1 hc
      exact (hC i (by have := List.mem_range.1 hi; omega)).2.1
    · by_cases hl0 : len = 0
      · subst hl0
        exact .inl ⟨⟨some a, m, rfl⟩, by simp⟩
      · obtain ⟨b, off, spot⟩ := a
        have hs := hnone (by omega)
        dsimp only at hs
        subst hs
        refine .inr ⟨b, off, m, by simp, hrow (by omega), fun j hj => ?_⟩
        have hj' : j < len := by simpa using hj
        rw [hget j hj']
        have h1 := (hC j (by omega)).1
        have key : ∀ i, i < 3 → ∀ u, (chCells (C j))[i]? = some u → W.cell? ⟨b, off + j * 3 + i, none⟩ = some u := fun i _ u hu => by
          have := cells_get h1 hu
          rwa [add_plain, add_plain] at this
        exact ⟨key 0 (by decide) _ rfl, key 1 (by decide) _ rfl, key 2 (by decide) _ rfl⟩
    · intro W' hB sp hsp
      refine up W' sp ?_
      rw [hx]
      by_cases hm0 : m = 0
      · subst hm0
        obtain rfl : len = 0 := by omega
        have t0 := Deep.shut_slice_whole_cells (enc := enc) (P := Tryd.prog) (w := W') (base := 0) (spare := fun _ => true) (held := true) (a := a) (len := 0) (cap := 0) Tryd.underlying22 (Nat.zero_le _) (Nat.le_refl _) hm rfl D Pl (fun i hi => by omega)
        obtain ⟨n, hn⟩ := t0
        have e : DataW.trod enc Tryd.prog W' 0 sp true n 22 [.slice (some a) 0 0] = DataW.trod enc Tryd.prog W' 0 (fun _ => true) true n 22 [.slice (some a) 0 0] := by
          cases n with
          | zero => rfl
          | succ n => simp [DataW.trod, Tryd.underlying22]
        exact ⟨n, by rw [e]; simpa using hn⟩
      · have hlt' := hrow (by omega)
        have hspb : sp a.block = true := hsp (.cell a.block a.off) (by
          simp only [Prod.mk.injEq] at hx
          rw [hx.2, cellsCh]
          exact List.mem_append_left _ (MemPlace.mem_row.2 ⟨0, by omega, by simp⟩))
        obtain ⟨n, hn⟩ := Deep.shut_slice_whole_cells (enc := enc) (P := Tryd.prog) (w := W') (base := 0) (spare := sp) (held := true) (a := a) (len := len) (cap := m) Tryd.underlying22 (Nat.zero_le _) hl hm hspb D Pl (fun i hi => by
          obtain ⟨h1, _, h2, h3⟩ := hC i hi
          obtain ⟨_, hlen, hc⟩ := World.cells?_some h1
          refine ⟨chCells (C i), 3, ?_, by rw [h2]; exact h3 _ _ _ _⟩
          rw [cellsCh]
          exact World.cells?_of_each (Nat.zero_le _) hlen fun j hj => (hB.cell (by rw [block_add, block_add]; exact hlt')).trans (hc j hj))
        exact ⟨n, hn⟩
end
end Go.Proofs.YtbfchlfagdhglaaDoor
/- What the laws on bitmaps lean on: rules of sets, counts, spans, the bitmap that is known. -/
namespace Go.Proofs.YtbfchlfagdhglaaDoor

/-! ### Rules of sets -/
theorem rule_dist (a b c : Bs) : opS 1 a (opS 2 b c) = opS 2 (opS 1 a b) (opS 1 a c) := by
  funext n; unfold opS; simp only [if_true, if_false, show (2 : Nat) ≠ 1 by decide]
  cases a n <;> cases b n <;> cases c n <;> rfl
theorem rule_comm (b c : Bs) : opS 2 c b = opS 2 b c := by
  funext n; unfold opS; simp only [if_true, if_false, show (2 : Nat) ≠ 1 by decide]
  cases b n <;> cases c n <;> rfl
/-- All numbers from a on below b. -/
def spanZ (a b : Int) : Bs := fun n => decide (a ≤ n) && decide ((n : Int) < b)
theorem span_all (n : Nat) (h : n < 65536) : spanZ 0 65536 n = true := by
  unfold spanZ
  rw [decide_eq_true (by omega), decide_eq_true (by omega)]; rfl
theorem flip_all (s : Bs) (n : Nat) (h : n < 65536) : flipS s 0 65536 n = !s n := by
  unfold flipS
  rw [if_pos (by omega)]
theorem rule_not (s : Bs) : SameZ (opS 4 (spanZ 0 65536) s) (flipS s 0 65536) := fun n hn => by
  rw [flip_all s n hn]
  unfold opS
  rw [if_neg (by decide), if_neg (by decide), if_neg (by decide), span_all n hn, Bool.true_and]
theorem rule_xor (s : Bs) : SameZ (opS 3 (spanZ 0 65536) s) (flipS s 0 65536) := fun n hn => by
  rw [flip_all s n hn]
  unfold opS
  rw [if_neg (by decide), if_neg (by decide), if_pos rfl, span_all n hn]
  cases s n <;> rfl
theorem count_not (s : Bs) (k : Nat) : (valsTo (fun n => !s n) k).length + (valsTo s k).length = k := by
  induction k with
  | zero => rfl
  | succ k ih =>
    simp only [valsTo_succ]
    cases s k <;> simp <;> omega
theorem count_flip (s : Bs) : (valsTo (flipS s 0 65536) 65536).length + (valsTo s 65536).length = 65536 := by
  have e : valsTo (flipS s 0 65536) 65536 = valsTo (fun n => !s n) 65536 := valsTo_congr fun n hn => flip_all s n hn
  rw [e]; exact count_not s 65536
theorem count_span (a b N : Nat) (hb : b ≤ N) : (valsTo (spanZ a b) N).length = b - a := by
  have key : ∀ k, (valsTo (spanZ a b) k).length = min k b - a := by
    intro k
    induction k with
    | zero => simp [valsTo]
    | succ k ih =>
      rw [valsTo_succ]
      by_cases h : spanZ a b k = true
      · rw [if_pos h, List.length_append, ih, List.length_singleton]
        unfold spanZ at h
        simp only [Bool.and_eq_true, decide_eq_true_iff] at h
        omega
      · rw [if_neg h, ih]
        unfold spanZ at h
        simp only [Bool.and_eq_true, decide_eq_true_iff] at h
        omega
  rw [key, Nat.min_eq_right hb]
theorem has_of (s : Bs) (n : Int) : hasZ (ofS s) n = (goodQ n && s n.toNat) := by
  unfold hasZ
  by_cases h : goodQ n = true
  · rw [h, Bool.true_and, Bool.true_and, readZ_good (right_of s)]
    unfold goodQ at h
    simp only [Bool.and_eq_true, decide_eq_true_iff] at h
    exact set_of s _ (by omega)
  · rw [Bool.eq_false_iff.2 h, Bool.false_and, Bool.false_and]
theorem has_span {a b : Int} (h : okQ a b) (n : Int) : hasZ (ofS (spanZ a b)) n = (decide (a ≤ n) && decide (n < b)) := by
  rw [has_of]
  obtain ⟨h1, h2, h3, h4⟩ := h
  unfold goodQ spanZ
  rw [Bool.eq_iff_iff]
  simp only [Bool.and_eq_true, decide_eq_true_iff]
  omega
theorem flip_twiceZ {a b : Int} (h : okQ a b) {r : List Ch} (hr : RightZ r) : flipZ (flipZ r a b).1 a b = (r, 0) := by
  rw [flipZ_good hr h]
  show flipZ (ofS (flipS (setZ r) a b)) a b = _
  rw [flipZ_of h, flip_twice, ← hr.2]

/-! ### The bitmap that is known -/
theorem ofTo_few (s : Bs) (m : Nat) (h : ∀ n, s n = true → n < 256 * m) : ∀ k, ofTo s (m + k) = ofTo s m
  | 0 => rfl
  | k + 1 => by
    rw [← ofTo_few s m h k]
    refine ofTo_none ?_
    unfold vals valsTo part
    rw [List.filter_eq_nil_iff]
    intro i _ e
    have h3 : 256 * (m + k) + i < 256 * m := h _ e
    rw [Nat.mul_add] at h3
    omega
def l7 : List Int := [1, 9, 256, 257, 258, 259, 260, 261, 262, 263, 264, 265, 266, 267, 268, 269, 270]
def r7 : List Ch := [(0, 1, [1, 9]), (1, 3, [0, 14])]
theorem l7_lt (n : Nat) (h : ofL l7 n = true) : n < 256 * 2 := by
  unfold ofL l7 at h
  rw [List.any_eq_true] at h
  obtain ⟨z, hz, e⟩ := h
  have e' := of_decide_eq_true e
  have hz' : z < 512 := by
    have : ∀ z ∈ ([1, 9, 256, 257, 258, 259, 260, 261, 262, 263, 264, 265, 266, 267, 268, 269, 270] : List Int), z < 512 := by decide
    exact this z hz
  omega
theorem of_l7 : ofS (ofL l7) = r7 := by
  have v0 : vals (part (ofL l7) 0) ≠ [] := by decide +kernel
  have v1 : vals (part (ofL l7) 1) ≠ [] := by decide +kernel
  have f0 : bestF (part (ofL l7) 0) = 1 := by decide +kernel
  have f1 : bestF (part (ofL l7) 1) = 3 := by decide +kernel
  have d0 : bestD (part (ofL l7) 0) = [1, 9] := by decide +kernel
  have d1 : bestD (part (ofL l7) 1) = [0, 14] := by decide +kernel
  have e1 : ofTo (ofL l7) 2 = r7 := by
    rw [ofTo_some v1, ofTo_some v0]
    unfold chunk
    rw [f0, f1, d0, d1]; rfl
  unfold ofS
  rw [show (256 : Nat) = 2 + 254 from rfl, ofTo_few (ofL l7) 2 l7_lt 254, e1]
theorem make_l7 : makeZ l7 = (r7, 0) := by
  have hq : AllQ l7 := by decide
  rw [makeZ_good hq, of_l7]
theorem right_r7 : RightZ r7 := by
  rw [← of_l7]; exact right_of _
theorem enc_r7 : encZ r7 = ([2, 0, 1, 1, 1, 9, 1, 3, 1, 0, 14], 0) := by
  rw [encZ_good right_r7]
  have : bytesZ r7 = [2, 0, 1, 1, 1, 9, 1, 3, 1, 0, 14] := by decide +kernel
  rw [this]
theorem make_65536 : makeZ [65536] = ([], 70) := makeZ_bad (by decide)
end Go.Proofs.YtbfchlfagdhglaaDoor
/- What the laws on bitmaps share: shown. -/
namespace Go.Proofs.YtbfchlfagdhglaaDoor
open Go.RowKit

theorem ints_cut {n₀ : Nat} {W : World} {x : Option Addr} {len cap : Nat} {zs : List Int} (h : Ints n₀ W (.slice x len cap) zs) (k : Nat) (hl : zs.length = len) : Ints n₀ W (.slice x (min len k) cap) (zs.take k) := by
  rcases h with ⟨⟨x', cap', e⟩, rfl⟩ | ⟨b, off, cap', e, hb, hc⟩
  · cases e
    exact .inl ⟨⟨x, cap, by simp⟩, by simp⟩
  · cases e
    refine .inr ⟨b, off, cap, by rw [List.length_take, Nat.min_comm], hb, fun j hj => ?_⟩
    rw [List.length_take] at hj
    rw [hc j (by omega), List.getElem?_take, if_pos (by omega)]
theorem in64_take {zs : List Int} (h : In64 zs) (k : Nat) : In64 (zs.take k) := fun j => by
  rw [List.getElem?_take]
  split
  · exact h j
  · decide
def n7 : List Nat := [1, 9, 256, 257, 258, 259, 260, 261, 262, 263, 264, 265, 266, 267, 268, 269, 270]
theorem n7_take (k : Nat) (hk : k < 15) : intVs (n7.take (2 + (k + 1))) = intVs (n7.take (2 + k)) ++ [Value.int .i64 ((256 + k : Nat) : Int)] := by
  have : ∀ k : Fin 15, n7.take (2 + (k.val + 1)) = n7.take (2 + k.val) ++ [256 + k.val] := by decide +kernel
  rw [this ⟨k, hk⟩]
  simp [intVs]
theorem zs_n7 : zsOf n7 = l7 := by decide
theorem own_two (w : World) (a b : Value) : (w.alloc (.cells #[a, b] 3)).ownsRow w.heap.size 3 1 (.slice (some ⟨w.heap.size, 0, none⟩) 2 2) 2 [a, b] :=
  ⟨rfl, .inr ⟨w.heap.size, 2, #[a, b], rfl, Nat.le_refl _, heap_alloc_new w _, Nat.le_refl _, by decide, rfl, rfl⟩⟩
theorem ints_one (w : World) (z : Int) : Ints (w.alloc (.cells #[.int .i64 z] 3)).heap.size (w.alloc (.cells #[.int .i64 z] 3)) (.slice (some ⟨w.heap.size, 0, none⟩) 1 1) [z] :=
  .inr ⟨w.heap.size, 0, 1, rfl, by simp, fun j hj => by
    obtain rfl : j = 0 := by simpa using hj
    rw [Nat.zero_add, (Blk.new w 3 #[.int .i64 z]).cell 0]; rfl⟩
theorem own_cap {w : World} {base : Nat} {e : TypeId} {v : Value} {n : Nat} {xs : List Value} (h : w.ownsRow base e 1 v n xs) : ∃ x c, v = .slice x n c ∧ n ≤ c ∧ c ≤ maxLen := by
  rcases h.2 with ⟨rfl, rfl⟩ | ⟨g, cap, cur, rfl, _, _, h1, h2, _⟩
  · exact ⟨_, _, rfl, Nat.le_refl _, by decide⟩
  · exact ⟨_, _, rfl, h1, h2⟩
theorem r7_ok : ∀ c ∈ r7, OkCh c := by
  intro c hc
  unfold r7 at hc
  rcases List.mem_cons.1 hc with rfl | hc
  · exact ⟨⟨by decide, by decide⟩, ⟨by decide, by decide⟩, by decide⟩
  · rw [List.mem_singleton.1 hc]
    exact ⟨⟨by decide, by decide⟩, ⟨by decide, by decide⟩, by decide⟩
theorem in64_l7 : In64 l7 := fun j => by
  rcases Nat.lt_or_ge j 17 with h | h
  · have : ∀ j : Fin 17, -9223372036854775808 ≤ l7[j.val]?.getD 0 ∧ l7[j.val]?.getD 0 ≤ 9223372036854775807 := by decide +kernel
    exact this ⟨j, h⟩
  · rw [List.getElem?_eq_none (by simpa [l7] using h)]; decide
set_option maxRecDepth 100000 in
set_option maxHeartbeats 4000000 in
theorem shownz_any (w : World) : Calls Tryd.prog 5 #[] w fun e w' => e = .returned (.bool true) ∧ Below w.heap.size w w' := by
  have hB0 : Below w.heap.size w (w.alloc (.cells #[.int .i64 1, .int .i64 9] 3)) := (Below.refl _ w).alloc (Nat.le_refl _) _
  have hO0 := own_two w (.int .i64 1) (.int .i64 9)
  have HM := Lib.hid (fun (x : Option Addr) (c : Nat) (h2 : c ≤ 9223372036854775807) W (h : Ints W.heap.size W (.slice x 17 c) l7) => make_prog x 17 c l7 rfl (by decide) h2 in64_l7 W h)
  rw [make_l7] at HM
  have HM3 := Lib.hid (fun W => make_prog (some ⟨W.heap.size, 0, none⟩) 1 1 [65536] rfl (by decide) (by decide) (fun j => by
    match j with
    | 0 => decide
    | j + 1 => simp) _ (ints_one W 65536))
  rw [make_65536] at HM3
  have HEn := Lib.hid (fun (x : Option Addr) (c : Nat) (h1 : 2 ≤ c) (h2 : c ≤ 9223372036854775807) W h => enc_prog x 2 c r7 ⟨h1, h2, r7_ok⟩ W h)
  rw [enc_r7] at HEn
  obtain ⟨i0, hi, hz0, hz1, hz2⟩ := info_parts info_int
  have HInf := Lib.hid hi; have HZ0 := Lib.hid hz0; have HZ1 := Lib.hid hz1; have HZ2 := Lib.hid hz2
  clear hi hz0 hz1 hz2
  go_enter Tryd.func5, Tryd.ntmps5
  go_wp2
  have HB0 := Lib.hid hB0
  have HO0 := Lib.hid hO0
  clear hB0 hO0
  generalize w.alloc (.cells #[.int .i64 1, .int .i64 9] 3) = W0 at *
  go_loopw [1, 2] (fun v i wr => ∃ k : Nat, k ≤ 15 ∧ i = .int .i64 ((256 + k : Nat) : Int) ∧ wr.ownsRow w.heap.size 3 1 v (2 + k) (intVs (n7.take (2 + k))) ∧ Below w.heap.size w wr)
    (fun _ i _ => 271 - (intOf i).toNat)
  case atStart => exact ⟨0, Nat.zero_le _, rfl, HO0.out, HB0.out⟩
  case round =>
    obtain ⟨k, hk, rfl, hown, hB⟩ := hrel
    clear HB0 HO0
    by_cases hlt : k < 15
    · have HT := Lib.hid (n7_take k hlt)
      obtain ⟨j, hj⟩ : ∃ j : Nat, j = 256 + k := ⟨_, rfl⟩
      have HJ : Hid (256 + (k + 1) = j + 1) := Lib.hid (by omega)
      rw [← hj] at HT ⊢
      have hlt' : (j : Int) ≤ 270 := by omega
      clear hj
      go_wp2_with (at_builtin; refine wpList_append_own _ rfl _ _ 35 rfl w.heap.size 3 i0 (.int .i64 0) 1 8 Tryd.underlying35 HInf.out HZ0.out HZ1.out HZ2.out rfl (by decide) _ _ _ rfl (hown.alloc _) ⟨wr.heap.size, 0, none⟩ 1 1 [.int .i64 j] rfl rfl (cell_one_new _ _ _) (by simp [Value.oneCell']) (by unfold maxLen; omega) (by omega) (by have := hB.size; simp; omega) ?_; intro v2 w2 hown2 hgrow2 _)
      have hB2 : Below w.heap.size w w2 := (hB.alloc hB.size _).grown hgrow2 (by have := hB.size; simp; omega) (fun j e => (hown.lt j e).1)
      rw [← HT.out] at hown2
      go_roundw
      case rel => exact ⟨k + 1, by omega, by rw [HJ.out]; simp, hown2, hB2⟩
      case measure => simp [intOf]; omega
    · obtain rfl : k = 15 := by omega
      have hge : ¬ ((256 + 15 : Nat) : Int) ≤ 270 := by omega
      have e17 : intVs (n7.take (2 + 15)) = intVs n7 := rfl
      rw [e17] at hown
      obtain ⟨xv, cv, rfl, k1, k2⟩ := own_cap hown
      have hI2 := row_zs (l := n7) rfl hown
      rw [zs_n7] at hI2
      have HM2 := Lib.hid (HM.out xv cv (by unfold maxLen at k2; omega) wr hI2)
      clear hown hI2 e17 HM
      go_wp2_with fail
      refine HM2.out.mono ?_
      rintro e w3 ⟨y, c, rfl, m1, m2, m3, hb3, -⟩
      have hl7 : r7.length = 2 := rfl
      simp only [hl7] at m1 m3 ⊢
      clear hl7
      have hB3 := hB.trans (hb3.mono hB.size)
      have hB4 := hB3.alloc hB3.size (.cells #[.slice y 2 c] 24)
      have b3 := Blk.new w3 24 #[.slice y 2 c]
      have m4 := m3.under ((Below.refl _ w3).alloc (Nat.le_refl _) (.cells #[.slice y 2 c] 24))
      have HE2 := Lib.hid (HEn.out y c m1 (by unfold maxLen at m2; omega) _ m4)
      have c0 := b3.cell 0
      dsimp at c0
      clear HM2 hB hB3 hb3 m3 m4 HEn b3
      go_wp2_with fail
      refine HE2.out.mono ?_
      rintro e w4 ⟨rfl, hb4⟩
      have hB5 := hB4.trans (hb4.mono hB4.size)
      have hB6 := hB5.alloc hB5.size (.cells #[.int .i64 65536] 3)
      have HM4 := Lib.hid (HM3.out w4)
      clear HE2 hB4 hB5 hb4 c0 HM3
      go_wp2_with fail
      refine HM4.out.mono ?_
      rintro e w5 ⟨y5, c5, rfl, -, -, -, hb5, -⟩
      have hB7 := hB6.trans (hb5.mono hB6.size)
      have hB8 := hB7.alloc hB7.size (.cells #[.slice y5 0 c5] 24)
      have HB8 := Lib.hid hB8
      clear hB6 hB7 hb5 hB8 HM4
      go_wp2
      go_ret
      exact ⟨rfl, HB8.out⟩
/-- A bitmap in a box, held over calls. -/
def BoxR (g : Nat) (v : Value) (r : List Ch) (W : World) : Prop := Blk W g 24 #[v] ∧ Chs W.heap.size W v r
theorem BoxR.new {W : World} {v : Value} {r : List Ch} (h : Chs W.heap.size W v r) : BoxR W.heap.size v r (W.alloc (.cells #[v] 24)) := ⟨Blk.new W _ _, h.under ((Below.refl _ W).alloc (Nat.le_refl _) _)⟩
theorem BoxR.under {A B : World} {g : Nat} {v : Value} {r : List Ch} (h : BoxR g v r A) (hb : Below A.heap.size A B) : BoxR g v r B := ⟨h.1.under hb, h.2.under hb⟩
theorem BoxR.alloc {A : World} {g : Nat} {v : Value} {r : List Ch} (h : BoxR g v r A) (o : Obj) : BoxR g v r (A.alloc o) := h.under ((Below.refl _ A).alloc (Nat.le_refl _) o)
theorem okCh_of (s : Bs) : ∀ c ∈ ofS s, OkCh c := fun c hc => by
  obtain ⟨j, hj, rfl, _⟩ := mem_ofTo hc
  have h1 := bestF_form (part s j)
  have h2 := best_32 (part s j)
  refine ⟨⟨?_, ?_⟩, ⟨?_, ?_⟩, ?_⟩
  · show (-9223372036854775808 : Int) ≤ (j : Int); omega
  · show (j : Int) ≤ 9223372036854775807; omega
  · show (-9223372036854775808 : Int) ≤ ((bestF (part s j) : Nat) : Int); omega
  · show ((bestF (part s j) : Nat) : Int) ≤ 9223372036854775807; omega
  · show (bestD (part s j)).length ≤ 9223372036854775807; omega
/-- What a call answers that makes a bitmap is a bitmap. -/
theorem okCh_made {r : List Ch} (h : RightZ r) : ∀ c ∈ r, OkCh c := by rw [h.2]; exact okCh_of _
theorem okCh_make (zs : List Int) : ∀ c ∈ (makeZ zs).1, OkCh c := by
  by_cases h : AllQ zs
  · rw [makeZ_good h]; exact okCh_of _
  · rw [makeZ_bad h]; intro c hc; cases hc
theorem okCh_flip (r : List Ch) (a b : Int) : ∀ c ∈ (flipZ r a b).1, OkCh c := by
  by_cases h : RightZ r ∧ okQ a b
  · rw [flipZ_good h.1 h.2]; exact okCh_of _
  · rw [flipZ_bad h]; intro c hc; cases hc
end Go.Proofs.YtbfchlfagdhglaaDoor
