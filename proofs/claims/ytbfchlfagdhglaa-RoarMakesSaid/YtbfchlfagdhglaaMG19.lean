import Derived.Test.YtbfchlfagdhglaaMG18
import Derived.Test.YtbfchlfagdhglaaMG10
import Derived.Test.YtbfchlfagdhglaaMG13
import Derived.Test.YtbfchlfagdhglaaMG15
import Derived.Test.YtbfchlfagdhglaaMG11
import Derived.Test.YtbfchlfagdhglaaMG5
import Derived.Test.YtbfchlfagdhglaaMG6
import Derived.Test.YtbfchlfagdhglaaMG17
/- cont.Flip. -/
namespace Go.Proofs.Ytbfchlfagdhglaa
open Go.RowKit

/-- What Flip answers. -/
def flipV (f : Int) (d : List UInt8) (a b : Int) : Value :=
  if RightC f d ∧ 0 ≤ a ∧ a ≤ 256 ∧ 0 ≤ b ∧ b ≤ 256 then .tuple #[contV (bestF (flipS (setOf f.toNat d) a b) : Nat) (bestD (flipS (setOf f.toNat d) a b)), .int .i64 0] else .tuple #[contV 0 [], .int .i64 60]
theorem flip_same (s : Bs) (a b : Nat) : Same (opS 3 s (spanS (fun _ => false) a b)) (flipS s a b) := fun n _ => by
  unfold opS flipS spanS
  rw [if_neg (by decide), if_neg (by decide), if_pos rfl, Bool.false_or]
  by_cases h : (a : Int) ≤ n ∧ (n : Int) < b
  · rw [if_pos h]
    have h1 : a ≤ n := by omega
    have h2 : n < b := by omega
    simp [h1, h2]
  · rw [if_neg h]
    have : (decide (a ≤ n) && decide (n < b)) = false := by
      rw [Bool.and_eq_false_iff]; simp; omega
    rw [this]; simp
theorem opCV_form (op f g : Int) (d e : List UInt8) : ∃ (x : Int) (y : List UInt8) (z : Int), opCV op f d g e = .tuple #[.agg #[.int .i64 x, .string ⟨y.toArray⟩], .int .i64 z] := by
  unfold opCV
  split
  · exact ⟨_, _, _, rfl⟩
  · exact ⟨_, _, _, rfl⟩
theorem flip_op (f : Int) (d : List UInt8) (a b : Nat) (ha : a ≤ 256) (hb : b ≤ 256) : opCV 3 f d (bestF (spanS (fun _ => false) a b) : Nat) (bestD (spanS (fun _ => false) a b)) = flipV f d a b := by
  have hr := best_right (spanS (fun _ => false) a b)
  have hs := best_set (spanS (fun _ => false) a b)
  by_cases h : RightC f d
  · have hS : Same (opS 3 (setOf f.toNat d) (setOf (bestF (spanS (fun _ => false) a b)) (bestD (spanS (fun _ => false) a b)))) (flipS (setOf f.toNat d) a b) :=
      (op_congr (fun _ _ => rfl) hs 3).trans (flip_same _ a b)
    unfold opCV flipV
    rw [if_pos ⟨rfl, h, hr⟩, if_pos ⟨h, by omega, by omega, by omega, by omega⟩, Int.toNat_natCast]
    rw [show (3 : Int).toNat = 3 from rfl, bestF_congr hS, bestD_congr hS]
  · unfold opCV flipV
    rw [if_neg (fun k => h k.2.1), if_neg (fun k => h k.1)]

set_option maxRecDepth 100000 in
set_option maxHeartbeats 4000000 in
theorem flip_any (f : Int) (hf1 : -9223372036854775808 ≤ f) (hf2 : f ≤ 9223372036854775807) (d : List UInt8) (hd : d.length ≤ 9223372036854775807) (a b : Int) (w : World) :
    Calls Try.prog 48 #[contV f d, .int .i64 a, .int .i64 b] w fun e w' => e = .returned (flipV f d a b) ∧ Below w.heap.size w w' := by
  have hz := zero_set
  have hss := scl_size
  unfold contV
  have hB0 : Below w.heap.size w ((w.alloc (.cells #[.int .i64 f, .string ⟨d.toArray⟩] 52)).alloc (.cells #[.int .i64 0, .string ⟨#[]⟩] 52)) := ((Below.refl _ _).alloc (Nat.le_refl _) _).alloc (by simp) _
  have bC : Blk ((w.alloc (.cells #[.int .i64 f, .string ⟨d.toArray⟩] 52)).alloc (.cells #[.int .i64 0, .string ⟨#[]⟩] 52)) w.heap.size 52 #[.int .i64 f, .string ⟨d.toArray⟩] := (Blk.new w _ _).alloc _
  have bR : Blk ((w.alloc (.cells #[.int .i64 f, .string ⟨d.toArray⟩] 52)).alloc (.cells #[.int .i64 0, .string ⟨#[]⟩] 52)) (w.heap.size + 1) 52 #[.int .i64 0, .string ⟨#[]⟩] := by
    have := Blk.new (w.alloc (.cells #[.int .i64 f, .string ⟨d.toArray⟩] 52)) 52 #[.int .i64 0, .string ⟨#[]⟩]
    rwa [World.size_alloc] at this
  by_cases hok : 0 ≤ a ∧ a ≤ 256 ∧ 0 ≤ b ∧ b ≤ 256
  · obtain ⟨h1, h2, h3, h4⟩ := hok
    obtain ⟨a, rfl⟩ : ∃ k : Nat, a = k := ⟨a.toNat, by omega⟩
    obtain ⟨b, rfl⟩ : ∃ k : Nat, b = k := ⟨b.toNat, by omega⟩
    obtain ⟨mn, hmn, hmin⟩ : ∃ m : Int, ¬ m < 0 ∧ ∀ (ts : Array TypeId) (t : TypeId) (W : World), (Builtin.min_ ts t #[.int .i64 (a : Int), .int .i64 (b : Int)]).run Try.prog W = .ok (.int .i64 m) W := ⟨if (b : Int) < a then (b : Int) else a, by split <;> omega, fun ts t W => run_min_int2 ..⟩
    obtain ⟨mx, hmx, hmax⟩ : ∃ m : Int, ¬ 256 < m ∧ ∀ (ts : Array TypeId) (t : TypeId) (W : World), (Builtin.max_ ts t #[.int .i64 (a : Int), .int .i64 (b : Int)]).run Try.prog W = .ok (.int .i64 m) W := ⟨if (b : Int) > a then (b : Int) else a, by split <;> omega, fun ts t W => run_max_int2 ..⟩
    have HV := Lib.hid (flip_op f d a b (by omega) (by omega))
    have bS : Blk (((w.alloc (.cells #[.int .i64 f, .string ⟨d.toArray⟩] 52)).alloc (.cells #[.int .i64 0, .string ⟨#[]⟩] 52)).alloc (.cells (scl fun _ => false) 92)) (w.heap.size + 1 + 1) 92 (scl fun _ => false) := by
      have := Blk.new ((w.alloc (.cells #[.int .i64 f, .string ⟨d.toArray⟩] 52)).alloc (.cells #[.int .i64 0, .string ⟨#[]⟩] 52)) 92 (scl fun _ => false)
      rwa [World.size_alloc, World.size_alloc] at this
    have HS := Lib.hid (putSpan_any (w.heap.size + 1 + 1) (fun _ => false) a b (by omega) (by omega) _ bS)
    have hB1 := hB0.alloc hB0.size (.cells (scl fun _ => false) 92)
    have bC1 := bC.alloc (.cells (scl fun _ => false) 92)
    have bR1 := bR.alloc (.cells (scl fun _ => false) 92)
    clear hB0 bC bR bS h1 h2 h3 h4
    generalize spanS (fun _ => false) a b = s at *
    generalize flipV f d a b = av at *
    go_enter Try.func48, Try.ntmps48
    go_wp2_with fail
    refine HS.out.mono ?_
    rintro e w1 ⟨⟨v, rfl⟩, hg, hb⟩
    have hB2 := hB1.trans (grown_below hg (by omega) hB1.size)
    have bC2 := bC1.grown hg (by omega)
    have bR2 := bR1.grown hg (by omega)
    have HA := Lib.hid (fun W hW => best_any (w.heap.size + 1 + 1) s W hW)
    have hb' := hb.drew
    have bC3 := bC2.drew
    have HOp := Lib.hid (fun W => opC_any f hf1 hf2 d hd (bestF s : Nat) (by have := bestF_form s; omega) (by have := bestF_form s; omega) (bestD s) (by have := best_32 s; omega) W 3)
    obtain ⟨x, y, z, hxyz⟩ := opCV_form 3 f (bestF s : Nat) d (bestD s)
    rw [hxyz] at HV
    simp only [hxyz] at HOp
    have HB2 := Lib.hid hB2; have HC2 := Lib.hid bC2; have HR2 := Lib.hid bR2
    have c0 := bC3.cell 0; have c1 := bC3.cell 1
    dsimp at c0 c1
    unfold contV at HA HOp
    clear hxyz hB1 bC1 bR1 hg hb bC2 bR2 hB2 bC3
    generalize bestF s = q at *
    generalize bestD s = dq at *
    go_wp2
    go_region_with (first
      | (go_at_call 59; refine (HA.out _ hb').mono ?_; rintro e w2 ⟨rfl, hb2⟩; have hb3 : Below w1.heap.size w1 w2 := ((Below.refl w1.heap.size w1).drew).trans hb2; have bC3 := HC2.out.under hb3; have c0 := bC3.cell 0; have c1 := bC3.cell 1; dsimp at c0 c1; clear bC3)
      | (go_at_call 42; refine (HOp.out _).mono ?_; rintro e w3 ⟨rfl, hb4⟩; have hb5 := hb3.trans (hb4.mono hb3.size); have bR3 := HR2.out.under hb5; have c0 := bR3.cell 0; have c1 := bR3.cell 1; have f0 := bR3.frozen 0; have f1 := bR3.frozen 1; dsimp at c0 c1; have hE := bR3.set2 (.int .i64 x) (.string ⟨y.toArray⟩); have hE2 := ((HB2.out.trans (hb5.mono HB2.out.size)).setCell (p := ⟨w.heap.size + 1, 0, none⟩) (by simp) (.int .i64 x)).setCell (p := ⟨w.heap.size + 1, 1, none⟩) (by simp) (.string ⟨y.toArray⟩); clear bR3))
    all_goals
      go_wp2
      exact ret_cont2 rfl rfl hE rfl ⟨by rw [← HV.out]; rfl, hE2⟩
  · have HV : Hid (flipV f d a b = .tuple #[.agg #[.int .i64 0, .string ⟨#[]⟩], .int .i64 60]) := Lib.hid (by unfold flipV; rw [if_neg (fun h => hok h.2)]; rfl)
    clear bC
    by_cases hm : (if (b : Int) < a then (b : Int) else a) < 0
    · obtain ⟨mn, hmn, hmin⟩ : ∃ m : Int, m < 0 ∧ ∀ (ts : Array TypeId) (t : TypeId) (W : World), (Builtin.min_ ts t #[.int .i64 (a : Int), .int .i64 (b : Int)]).run Try.prog W = .ok (.int .i64 m) W := ⟨if (b : Int) < a then (b : Int) else a, hm, fun ts t W => run_min_int2 ..⟩
      clear hm hok
      go_enter Try.func48, Try.ntmps48
      go_wp2
      exact ret_cont2 rfl rfl bR rfl ⟨by rw [HV.out]; rfl, hB0⟩
    · obtain ⟨mn, hmn, hmin⟩ : ∃ m : Int, ¬ m < 0 ∧ ∀ (ts : Array TypeId) (t : TypeId) (W : World), (Builtin.min_ ts t #[.int .i64 (a : Int), .int .i64 (b : Int)]).run Try.prog W = .ok (.int .i64 m) W := ⟨if (b : Int) < a then (b : Int) else a, hm, fun ts t W => run_min_int2 ..⟩
      obtain ⟨mx, hmx, hmax⟩ : ∃ m : Int, 256 < m ∧ ∀ (ts : Array TypeId) (t : TypeId) (W : World), (Builtin.max_ ts t #[.int .i64 (a : Int), .int .i64 (b : Int)]).run Try.prog W = .ok (.int .i64 m) W := ⟨if (b : Int) > a then (b : Int) else a, by split at hm <;> split <;> omega, fun ts t W => run_max_int2 ..⟩
      clear hm hok
      go_enter Try.func48, Try.ntmps48
      go_wp2
      exact ret_cont2 rfl rfl bR rfl ⟨by rw [HV.out]; rfl, hB0⟩
end Go.Proofs.Ytbfchlfagdhglaa
/- What the laws of this layer lean on: what the calls answer, one behind the other. -/
namespace Go.Proofs.Ytbfchlfagdhglaa
open Go.RowKit

/-- Three containers' cells, held over a region. -/
theorem hold6 {w a b : World} {g1 g2 g3 : Nat} {x1 y1 x2 y2 x3 y3 : Value}
    (hS : a.cell? ⟨g1, 0, none⟩ = some x1 ∧ a.cell? ⟨g1, 1, none⟩ = some y1 ∧ a.cell? ⟨g2, 0, none⟩ = some x2 ∧ a.cell? ⟨g2, 1, none⟩ = some y2 ∧ a.cell? ⟨g3, 0, none⟩ = some x3 ∧ a.cell? ⟨g3, 1, none⟩ = some y3 ∧ g1 < a.heap.size ∧ g2 < a.heap.size ∧ g3 < a.heap.size ∧ Below w.heap.size w a)
    (hb : Below a.heap.size a b) :
    b.cell? ⟨g1, 0, none⟩ = some x1 ∧ b.cell? ⟨g1, 1, none⟩ = some y1 ∧ b.cell? ⟨g2, 0, none⟩ = some x2 ∧ b.cell? ⟨g2, 1, none⟩ = some y2 ∧ b.cell? ⟨g3, 0, none⟩ = some x3 ∧ b.cell? ⟨g3, 1, none⟩ = some y3 ∧ g1 < b.heap.size ∧ g2 < b.heap.size ∧ g3 < b.heap.size ∧ Below w.heap.size w b := by
  obtain ⟨h1, h2, h3, h4, h5, h6, k1, k2, k3, hB⟩ := hS
  exact ⟨cell_below _ hb k1 h1, cell_below _ hb k1 h2, cell_below _ hb k2 h3, cell_below _ hb k2 h4, cell_below _ hb k3 h5, cell_below _ hb k3 h6, Nat.lt_of_lt_of_le k1 hb.size, Nat.lt_of_lt_of_le k2 hb.size, Nat.lt_of_lt_of_le k3 hb.size, hB.trans (hb.mono hB.size)⟩
theorem hold6_end {w a : World} {g1 g2 g3 : Nat} {x1 y1 x2 y2 x3 y3 : Value}
    (hS : a.cell? ⟨g1, 0, none⟩ = some x1 ∧ a.cell? ⟨g1, 1, none⟩ = some y1 ∧ a.cell? ⟨g2, 0, none⟩ = some x2 ∧ a.cell? ⟨g2, 1, none⟩ = some y2 ∧ a.cell? ⟨g3, 0, none⟩ = some x3 ∧ a.cell? ⟨g3, 1, none⟩ = some y3 ∧ g1 < a.heap.size ∧ g2 < a.heap.size ∧ g3 < a.heap.size ∧ Below w.heap.size w a) : Below w.heap.size w a := hS.2.2.2.2.2.2.2.2.2
-- Hold6
def cv (f : Int) (d : List UInt8) : Value := .agg #[.int .i64 f, .string ⟨d.toArray⟩]
/-- Form and bytes as they can come. -/
def OkC (f : Int) (d : List UInt8) : Prop := -9223372036854775808 ≤ f ∧ f ≤ 9223372036854775807 ∧ d.length ≤ 9223372036854775807
theorem okC_best (S : Bs) : OkC (bestF S : Nat) (bestD S) := by
  have h1 := bestF_form S; have h2 := best_32 S
  unfold OkC; omega
theorem count_all_any (f : Int) (d : List UInt8) (h : OkC f d) (W : World) : Calls Try.prog 37 #[.agg #[.int .i64 f, .string ⟨d.toArray⟩]] W fun e w' => e = .returned (.int .i64 ((vals (readS f d)).length : Nat)) ∧ Below W.heap.size W w' := countC_any f h.1 h.2.1 d h.2.2 W
theorem has_all_any (f : Int) (d : List UInt8) (h : OkC f d) (n : Int) (hn1 : -9223372036854775808 ≤ n) (hn2 : n ≤ 9223372036854775807) (W : World) : Calls Try.prog 40 #[.agg #[.int .i64 f, .string ⟨d.toArray⟩], .int .i64 n] W fun e w' => e = .returned (.bool (goodZ n && readS f d n.toNat)) ∧ Below W.heap.size W w' := has_any f h.1 h.2.1 d h.2.2 n hn1 hn2 W
theorem op_all_any (op f : Int) (d : List UInt8) (h : OkC f d) (g : Int) (e : List UInt8) (k : OkC g e) (W : World) : Calls Try.prog 42 #[.int .i64 op, .agg #[.int .i64 f, .string ⟨d.toArray⟩], .agg #[.int .i64 g, .string ⟨e.toArray⟩]] W fun en w' => en = .returned (opCV op f d g e) ∧ Below W.heap.size W w' := opC_any f h.1 h.2.1 d h.2.2 g k.1 k.2.1 e k.2.2 W op
def okR (a b : Int) : Prop := 0 ≤ a ∧ a ≤ 256 ∧ 0 ≤ b ∧ b ≤ 256
theorem flip_best {S : Bs} {a b : Int} (h : okR a b) : flipV (bestF S : Nat) (bestD S) a b = .tuple #[.agg #[.int .i64 (bestF (flipS S a b) : Nat), .string ⟨(bestD (flipS S a b)).toArray⟩], .int .i64 0] := by
  have hS : Same (flipS (setOf ((bestF S : Nat) : Int).toNat (bestD S)) a b) (flipS S a b) := by
    rw [Int.toNat_natCast]; exact flip_congr (best_set S) a b
  unfold flipV
  rw [if_pos ⟨best_right S, h⟩, bestF_congr hS, bestD_congr hS]; rfl
theorem flip_range {f : Int} {d : List UInt8} {a b : Int} (h : ¬ okR a b) : flipV f d a b = .tuple #[.agg #[.int .i64 0, .string ⟨#[]⟩], .int .i64 60] := by
  unfold flipV
  rw [if_neg (fun k => h k.2)]; rfl
theorem right_none {d : List UInt8} : ¬ RightC 0 d := fun h => absurd h.1 (by decide)
theorem flip_none {d : List UInt8} {a b : Int} : flipV 0 d a b = .tuple #[.agg #[.int .i64 0, .string ⟨#[]⟩], .int .i64 60] := by
  unfold flipV
  rw [if_neg (fun k => right_none k.1)]; rfl
theorem read_best (S : Bs) : Same (readS (bestF S : Nat) (bestD S)) S := by
  unfold readS
  rw [if_pos (best_right S), Int.toNat_natCast]; exact best_set S
theorem read_none {d : List UInt8} : readS 0 d = fun _ => false := by
  unfold readS
  rw [if_neg right_none]
theorem best_bnd (S : Bs) : -9223372036854775808 ≤ ((bestF S : Nat) : Int) ∧ ((bestF S : Nat) : Int) ≤ 9223372036854775807 ∧ (bestD S).length ≤ 9223372036854775807 := by
  have h1 := bestF_form S; have h2 := best_32 S
  omega
theorem op_best {S T : Bs} {op : Nat} (h : okOp op = true) : opCV op (bestF S : Nat) (bestD S) (bestF T : Nat) (bestD T) = .tuple #[.agg #[.int .i64 (bestF (opS op S T) : Nat), .string ⟨(bestD (opS op S T)).toArray⟩], .int .i64 0] := by
  have hS : Same (opS op (setOf ((bestF S : Nat) : Int).toNat (bestD S)) (setOf ((bestF T : Nat) : Int).toNat (bestD T))) (opS op S T) := by
    rw [Int.toNat_natCast, Int.toNat_natCast]; exact op_congr (best_set S) (best_set T) op
  unfold opCV
  rw [if_pos ⟨h, best_right S, best_right T⟩, Int.toNat_natCast, bestF_congr hS, bestD_congr hS]; rfl
end Go.Proofs.Ytbfchlfagdhglaa
/- Bytes of a bitmap: pure mathematics. -/
namespace Go.Proofs.Ytbfchlfagdhglaa
open Go.RowKit

/-- A number's lowest byte. -/
def u8 (z : Int) : UInt8 := UInt8.ofNat (z % 256).toNat
theorem u8_wrap (z : Int) : IntKind.u8.wrap z = ((u8 z).toNat : Int) := by
  unfold u8
  rw [UInt8.toNat_ofNat']
  simp [IntKind.wrap, IntKind.bits, IntKind.signed]
  omega
/-- A chunk's bytes. -/
def chBytes (c : Ch) : List UInt8 := [u8 c.1, u8 c.2.1, u8 ((c.2.2.length : Int) - 1)] ++ c.2.2
def bytesZ (r : List Ch) : List UInt8 := vput r.length ++ r.flatMap chBytes
/-- A bitmap's bytes, and what is wrong with it. -/
def encZ (r : List Ch) : List UInt8 × Int := if RightZ r then (bytesZ r, 0) else ([], 70)
theorem encZ_good {r : List Ch} (h : RightZ r) : encZ r = (bytesZ r, 0) := if_pos h
theorem encZ_bad {r : List Ch} (h : ¬ RightZ r) : encZ r = ([], 70) := if_neg h
/-- The bytes of the first k chunks. -/
def accZ (r : List Ch) (k : Nat) : List UInt8 := vput r.length ++ (r.take k).flatMap chBytes
theorem accZ_zero (r : List Ch) : accZ r 0 = vput r.length := by unfold accZ; simp
theorem accZ_all (r : List Ch) : accZ r r.length = bytesZ r := by unfold accZ; rw [List.take_of_length_le (Nat.le_refl _)]; rfl
theorem accZ_succ {r : List Ch} {k : Nat} (h : k < r.length) : accZ r (k + 1) = accZ r k ++ chBytes (r.getD k noCh) := by
  unfold accZ
  rw [take_get h, List.flatMap_append, List.append_assoc]; simp
theorem accZ_le {r : List Ch} (hd : Ok3 r) (hl : r.length ≤ 256) (k : Nat) : (accZ r k).length ≤ 100000 := by
  unfold accZ
  have h1 := length_put (n := r.length) (by omega)
  have h2 : ∀ q : List Ch, Ok3 q → (q.flatMap chBytes).length ≤ 303 * q.length := by
    intro q
    induction q with
    | nil => intro _; simp
    | cons c q ih =>
      intro h
      have := ih fun x hx => h x (List.mem_cons_of_mem _ hx)
      have h3 : c.2.2.length ≤ 300 := h c (List.mem_cons_self ..)
      rw [List.flatMap_cons, List.length_append, List.length_cons]
      have h4 : (chBytes c).length = 3 + c.2.2.length := by unfold chBytes; rw [List.length_append]; rfl
      omega
  have h3 := h2 (r.take k) fun x hx => hd x (List.mem_of_mem_take hx)
  have h4 : (r.take k).length ≤ 256 := by rw [List.length_take]; omega
  rw [List.length_append]
  omega
end Go.Proofs.Ytbfchlfagdhglaa
/- What the laws on bitmaps lean on: rules of sets, counts, spans, the bitmap that is known. -/
namespace Go.Proofs.Ytbfchlfagdhglaa

/-! ### Rules of sets -/
theorem rule_dist (a b c : Bs) : opS 1 a (opS 2 b c) = opS 2 (opS 1 a b) (opS 1 a c) := by
  funext n; unfold opS; simp only [if_true, if_false, show (2 : Nat) ≠ 1 by decide]
  cases a n <;> cases b n <;> cases c n <;> rfl
theorem rule_comm (b c : Bs) : opS 2 c b = opS 2 b c := by
  funext n; unfold opS; simp only [if_true, if_false, show (2 : Nat) ≠ 1 by decide]
  cases b n <;> cases c n <;> rfl
/-- All numbers from a on below b. -/
def spanZ (a b : Int) : Bs := fun n => decide (a ≤ n) && decide ((n : Int) < b)
theorem span_all (n : Nat) (h : n < 65536) : spanZ 0 65536 n = true := by
  unfold spanZ
  rw [decide_eq_true (by omega), decide_eq_true (by omega)]; rfl
theorem flip_all (s : Bs) (n : Nat) (h : n < 65536) : flipS s 0 65536 n = !s n := by
  unfold flipS
  rw [if_pos (by omega)]
theorem rule_not (s : Bs) : SameZ (opS 4 (spanZ 0 65536) s) (flipS s 0 65536) := fun n hn => by
  rw [flip_all s n hn]
  unfold opS
  rw [if_neg (by decide), if_neg (by decide), if_neg (by decide), span_all n hn, Bool.true_and]
theorem rule_xor (s : Bs) : SameZ (opS 3 (spanZ 0 65536) s) (flipS s 0 65536) := fun n hn => by
  rw [flip_all s n hn]
  unfold opS
  rw [if_neg (by decide), if_neg (by decide), if_pos rfl, span_all n hn]
  cases s n <;> rfl
theorem count_not (s : Bs) (k : Nat) : (valsTo (fun n => !s n) k).length + (valsTo s k).length = k := by
  induction k with
  | zero => rfl
  | succ k ih =>
    simp only [valsTo_succ]
    cases s k <;> simp <;> omega
theorem count_flip (s : Bs) : (valsTo (flipS s 0 65536) 65536).length + (valsTo s 65536).length = 65536 := by
  have e : valsTo (flipS s 0 65536) 65536 = valsTo (fun n => !s n) 65536 := valsTo_congr fun n hn => flip_all s n hn
  rw [e]; exact count_not s 65536
theorem count_span (a b N : Nat) (hb : b ≤ N) : (valsTo (spanZ a b) N).length = b - a := by
  have key : ∀ k, (valsTo (spanZ a b) k).length = min k b - a := by
    intro k
    induction k with
    | zero => simp [valsTo]
    | succ k ih =>
      rw [valsTo_succ]
      by_cases h : spanZ a b k = true
      · rw [if_pos h, List.length_append, ih, List.length_singleton]
        unfold spanZ at h
        simp only [Bool.and_eq_true, decide_eq_true_iff] at h
        omega
      · rw [if_neg h, ih]
        unfold spanZ at h
        simp only [Bool.and_eq_true, decide_eq_true_iff] at h
        omega
  rw [key, Nat.min_eq_right hb]
theorem has_of (s : Bs) (n : Int) : hasZ (ofS s) n = (goodQ n && s n.toNat) := by
  unfold hasZ
  by_cases h : goodQ n = true
  · rw [h, Bool.true_and, Bool.true_and, readZ_good (right_of s)]
    unfold goodQ at h
    simp only [Bool.and_eq_true, decide_eq_true_iff] at h
    exact set_of s _ (by omega)
  · rw [Bool.eq_false_iff.2 h, Bool.false_and, Bool.false_and]
theorem has_span {a b : Int} (h : okQ a b) (n : Int) : hasZ (ofS (spanZ a b)) n = (decide (a ≤ n) && decide (n < b)) := by
  rw [has_of]
  obtain ⟨h1, h2, h3, h4⟩ := h
  unfold goodQ spanZ
  rw [Bool.eq_iff_iff]
  simp only [Bool.and_eq_true, decide_eq_true_iff]
  omega
theorem flip_twiceZ {a b : Int} (h : okQ a b) {r : List Ch} (hr : RightZ r) : flipZ (flipZ r a b).1 a b = (r, 0) := by
  rw [flipZ_good hr h]
  show flipZ (ofS (flipS (setZ r) a b)) a b = _
  rw [flipZ_of h, flip_twice, ← hr.2]

/-! ### The bitmap that is known -/
theorem ofTo_few (s : Bs) (m : Nat) (h : ∀ n, s n = true → n < 256 * m) : ∀ k, ofTo s (m + k) = ofTo s m
  | 0 => rfl
  | k + 1 => by
    rw [← ofTo_few s m h k]
    refine ofTo_none ?_
    unfold vals valsTo part
    rw [List.filter_eq_nil_iff]
    intro i _ e
    have h3 : 256 * (m + k) + i < 256 * m := h _ e
    rw [Nat.mul_add] at h3
    omega
def l7 : List Int := [1, 9, 256, 257, 258, 259, 260, 261, 262, 263, 264, 265, 266, 267, 268, 269, 270]
def r7 : List Ch := [(0, 1, [1, 9]), (1, 3, [0, 14])]
theorem l7_lt (n : Nat) (h : ofL l7 n = true) : n < 256 * 2 := by
  unfold ofL l7 at h
  rw [List.any_eq_true] at h
  obtain ⟨z, hz, e⟩ := h
  have e' := of_decide_eq_true e
  have hz' : z < 512 := by
    have : ∀ z ∈ ([1, 9, 256, 257, 258, 259, 260, 261, 262, 263, 264, 265, 266, 267, 268, 269, 270] : List Int), z < 512 := by decide
    exact this z hz
  omega
theorem of_l7 : ofS (ofL l7) = r7 := by
  have v0 : vals (part (ofL l7) 0) ≠ [] := by decide +kernel
  have v1 : vals (part (ofL l7) 1) ≠ [] := by decide +kernel
  have f0 : bestF (part (ofL l7) 0) = 1 := by decide +kernel
  have f1 : bestF (part (ofL l7) 1) = 3 := by decide +kernel
  have d0 : bestD (part (ofL l7) 0) = [1, 9] := by decide +kernel
  have d1 : bestD (part (ofL l7) 1) = [0, 14] := by decide +kernel
  have e1 : ofTo (ofL l7) 2 = r7 := by
    rw [ofTo_some v1, ofTo_some v0]
    unfold chunk
    rw [f0, f1, d0, d1]; rfl
  unfold ofS
  rw [show (256 : Nat) = 2 + 254 from rfl, ofTo_few (ofL l7) 2 l7_lt 254, e1]
theorem make_l7 : makeZ l7 = (r7, 0) := by
  have hq : AllQ l7 := by decide
  rw [makeZ_good hq, of_l7]
theorem right_r7 : RightZ r7 := by
  rw [← of_l7]; exact right_of _
theorem enc_r7 : encZ r7 = ([2, 0, 1, 1, 1, 9, 1, 3, 1, 0, 14], 0) := by
  rw [encZ_good right_r7]
  have : bytesZ r7 = [2, 0, 1, 1, 1, 9, 1, 3, 1, 0, 14] := by decide +kernel
  rw [this]
theorem make_65536 : makeZ [65536] = ([], 70) := makeZ_bad (by decide)
end Go.Proofs.Ytbfchlfagdhglaa
/- roar.Span. -/
namespace Go.Proofs.Ytbfchlfagdhglaa
open Go.RowKit

theorem num0K_any (k : Nat) (hk : k ≤ 256) (w : World) :
    Calls Try.prog 36 #[.int .i64 (k : Nat), .int .i64 0] w fun e w' => e = .returned (.int .i64 (256 * (k : Int))) ∧ w = w' := by
  have := num_any k 0 hk (by decide) w
  rw [show ((256 * k + 0 : Nat) : Int) = 256 * (k : Int) by omega] at this
  exact this
/-- The chunks of a span, from key ka on, m of them. -/
def spanL (a b : Int) (ka m : Nat) : List Ch := (List.range' ka m).map fun k => chunk (part (spanZ a b) k) k
theorem spanL_length (a b : Int) (ka m : Nat) : (spanL a b ka m).length = m := by unfold spanL; simp
theorem spanL_succ (a b : Int) (ka m : Nat) : spanL a b ka (m + 1) = spanL a b ka m ++ [chunk (part (spanZ a b) (ka + m)) (ka + m)] := by
  unfold spanL
  rw [List.range'_concat, List.map_append]
  simp
/-- A chunk of a span is what Flip makes of nothing. -/
theorem span_part {a b : Int} {k : Nat} {i j : Int} (hi : i = max (a - 256 * k) 0) (hj : j = min (b - 256 * k) 256) : Same (flipS (fun _ => false) i j) (part (spanZ a b) k) := fun n hn => by
  unfold flipS part spanZ
  by_cases h : i ≤ n ∧ (n : Int) < j
  · rw [if_pos h, decide_eq_true (by omega), decide_eq_true (by omega)]; rfl
  · rw [if_neg h]
    symm
    rw [Bool.and_eq_false_iff, decide_eq_false_iff_not, decide_eq_false_iff_not]
    omega
theorem span_flip {a b : Int} {k : Nat} {i j : Int} (hi : i = max (a - 256 * k) 0) (hj : j = min (b - 256 * k) 256) (h1 : i ≤ 256) (h2 : 0 ≤ j) : flipV 1 [] i j = .tuple #[.agg #[.int .i64 (bestF (part (spanZ a b) k) : Nat), .string ⟨(bestD (part (spanZ a b) k)).toArray⟩], .int .i64 0] := by
  have e := flip_best (S := fun _ => false) (a := i) (b := j) ⟨by omega, h1, h2, by omega⟩
  rw [bestF_none, bestD_none] at e
  have hs := span_part (a := a) (b := b) hi hj
  rw [bestF_congr hs, bestD_congr hs] at e
  exact e
/-- All chunks of a span, without the empty ones: its bitmap. -/
theorem span_keep {a b : Int} {ka m : Nat} (hka : (ka : Int) = a / 256) (hlt : ∀ k : Nat, ka ≤ k → k < ka + m → k < 256) (hend : b ≤ 256 * ((ka + m : Nat) : Int)) : keepC (spanL a b ka m) = ofS (spanZ a b) := by
  refine ofS_keys (ks := List.range' ka m) List.pairwise_lt_range' (fun k hk => ?_) (fun k hk hn => ?_) rfl
  · rw [List.mem_range'_1] at hk
    exact hlt k hk.1 hk.2
  · rw [List.mem_range'_1] at hn
    unfold vals valsTo
    rw [List.filter_eq_nil_iff]
    intro i hi
    have hi := List.mem_range.1 hi
    unfold part spanZ
    rw [Bool.and_eq_true, decide_eq_true_iff, decide_eq_true_iff]
    omega
/-- What holds at the loop's head. -/
def SpI (w : World) (a b : Int) (ka m : Nat) (v : Value) (wr : World) : Prop := wr.ownsRow (w.heap.size + 1) 54 3 v m (chsCells (spanL a b ka m)) ∧ Blk wr w.heap.size 24 #[.slice none 0 0] ∧ Below w.heap.size w wr
theorem SpI.under {w a2 b2 : World} {a b : Int} {ka m : Nat} {v : Value} (h : SpI w a b ka m v a2) (hb : Below a2.heap.size a2 b2) : SpI w a b ka m v b2 := ⟨own_under h.1 hb, h.2.1.under hb, h.2.2.trans (hb.mono h.2.2.size)⟩
theorem SpI.app {w a2 w4 : World} {a b : Int} {ka m : Nat} {v v2 : Value} {o : Obj} (h : SpI w a b ka m v a2) (hg : (a2.alloc o).grownBy w4 v.ownBlock) (ho : w4.ownsRow (w.heap.size + 1) 54 3 v2 (m + 1) (chsCells (spanL a b ka (m + 1)))) : SpI w a b ka (m + 1) v2 w4 := by
  have h2 := h.under ((Below.refl _ a2).alloc (Nat.le_refl _) o)
  have hr : ∀ k, v.ownBlock = some k → w.heap.size + 1 ≤ k := fun k e => by
    rcases h.1.2 with ⟨e2, _⟩ | ⟨g, c, cur, e2, hb, _⟩
    · rw [e2] at e; cases e
    · rw [e2] at e
      have : g = k := by simpa [Value.ownBlock] using e
      omega
  exact ⟨ho, (hg.block _ h2.2.1.lt (fun e => by have := hr _ e.symm; omega)).trans h2.2.1, h2.2.2.grown hg h2.2.2.size (fun k e => by have := hr k e; omega)⟩

set_option maxRecDepth 100000 in
set_option maxHeartbeats 4000000 in
theorem span_roar (a b : Int) (la : -9223372036854775808 ≤ a) (ua : a ≤ 9223372036854775807) (lb : -9223372036854775808 ≤ b) (ub : b ≤ 9223372036854775807) (w : World) : Calls Try.prog 27 #[.int .i64 a, .int .i64 b] w (RoarRes w (flipZ [] a b)) := by
  have hB0 : Below w.heap.size w (w.alloc (.cells #[.slice none 0 0] 24)) := (Below.refl _ w).alloc (Nat.le_refl _) _
  have bR := Blk.new w 24 #[.slice none 0 0]
  obtain ⟨mn, hmn, hmin⟩ : ∃ m : Int, m = (if b < a then b else a) ∧ ∀ (ts : Array TypeId) (t : TypeId) (W : World), (Builtin.min_ ts t #[.int .i64 a, .int .i64 b]).run Try.prog W = .ok (.int .i64 m) W := ⟨_, rfl, fun ts t W => run_min_int2 ..⟩
  obtain ⟨mx, hmx, hmax⟩ : ∃ m : Int, m = (if b > a then b else a) ∧ ∀ (ts : Array TypeId) (t : TypeId) (W : World), (Builtin.max_ ts t #[.int .i64 a, .int .i64 b]).run Try.prog W = .ok (.int .i64 m) W := ⟨_, rfl, fun ts t W => run_max_int2 ..⟩
  by_cases hok : okQ a b
  · have HV := Lib.hid (flipZ_nil hok)
    obtain ⟨o1, o2, o3, o4⟩ := hok
    have hm1 : ¬ mn < 0 := by rw [hmn]; split <;> omega
    have hm2 : ¬ mx > 65536 := by rw [hmx]; split <;> omega
    obtain ⟨ka, hka⟩ : ∃ ka : Nat, a / 256 = (ka : Int) := ⟨(a / 256).toNat, by omega⟩
    have HKa := Lib.hid hka
    have HSp : Hid (∀ m : Nat, (∀ k : Nat, ka ≤ k → k < ka + m → k < 256) → b ≤ 256 * ((ka + m : Nat) : Int) → keepC (spanL a b ka m) = ofS (spanZ a b)) := Lib.hid fun m h1 h2 => span_keep hka.symm h1 h2
    obtain ⟨i0, hi, hz0, hz1, hz2⟩ := info_parts info_chunk
    have HInf := Lib.hid hi; have HZ0 := Lib.hid hz0; have HZ1 := Lib.hid hz1; have HZ2 := Lib.hid hz2
    have HI0 : Hid (SpI w a b ka 0 (.slice none 0 0) (w.alloc (.cells #[.slice none 0 0] 24))) := Lib.hid ⟨⟨rfl, .inl ⟨rfl, rfl⟩⟩, bR, hB0⟩
    clear hi hz0 hz1 hz2 hmn hmx bR hB0
    have hkb : ka ≤ 256 := by omega
    have hab : a < 256 * (ka : Int) + 256 := by omega
    go_enter Try.func27, Try.ntmps27
    go_wp2_with (go_at_call 30; refine (key_any _ _).mono ?_; rintro e w' ⟨rfl, rfl⟩)
    clear hka
    generalize w.alloc (.cells #[.slice none 0 0] 24) = W0 at *
    go_loopw [6, 7] (fun v q wr => ∃ k : Nat, q = .int .i64 (k : Nat) ∧ ka ≤ k ∧ k ≤ 256 ∧ (∀ j : Nat, ka ≤ j → j < k → j < 256) ∧ SpI w a b ka (k - ka) v wr)
      (fun _ q _ => 256 - (intOf q).toNat)
    case atStart => exact ⟨ka, rfl, Nat.le_refl _, hkb, fun k h1 h2 => by omega, by rw [Nat.sub_self]; exact HI0.out⟩
    case round =>
      obtain ⟨k, rfl, hkk, hk6, hall, hS⟩ := hrel
      clear HI0
      by_cases hlt : 256 * (k : Int) < b
      · have hk5 : k < 256 := by omega
        have HAll : Hid (∀ j : Nat, ka ≤ j → j < k + 1 → j < 256) := Lib.hid fun j h1 h2 => by
          by_cases e : j = k
          · omega
          · exact hall j h1 (by omega)
        have hw1 : IntKind.i64.wrap (a - 256 * (k : Int)) = a - 256 * (k : Int) := by rw [IntKind.wrap_i64]; omega
        have hw2 : IntKind.i64.wrap (b - 256 * (k : Int)) = b - 256 * (k : Int) := by rw [IntKind.wrap_i64]; omega
        obtain ⟨i, hi1, hi2⟩ : ∃ i : Int, i = max (a - 256 * k) 0 ∧ ∀ (ts : Array TypeId) (t : TypeId) (W : World), (Builtin.max_ ts t #[.int .i64 (a - 256 * (k : Int)), .int .i64 0]).run Try.prog W = .ok (.int .i64 i) W := ⟨if (0 : Int) > a - 256 * (k : Int) then 0 else a - 256 * (k : Int), by split <;> omega, fun ts t W => run_max_int2 ..⟩
        obtain ⟨j, hj1, hj2⟩ : ∃ j : Int, j = min (b - 256 * k) 256 ∧ ∀ (ts : Array TypeId) (t : TypeId) (W : World), (Builtin.min_ ts t #[.int .i64 (b - 256 * (k : Int)), .int .i64 256]).run Try.prog W = .ok (.int .i64 j) W := ⟨if (256 : Int) < b - 256 * (k : Int) then 256 else b - 256 * (k : Int), by split <;> omega, fun ts t W => run_min_int2 ..⟩
        have HF := Lib.hid (fun W => flip_any 1 (by decide) (by decide) [] (by decide) i j W)
        rw [span_flip hi1 hj1 (by omega) (by omega)] at HF
        unfold contV at HF
        have HSu : Hid (chsCells (spanL a b ka (k - ka + 1)) = chsCells (spanL a b ka (k - ka)) ++ [Value.int .i64 (k : Nat), .int .i64 (bestF (part (spanZ a b) k) : Nat), .string ⟨(bestD (part (spanZ a b) k)).toArray⟩]) := Lib.hid (by
          rw [spanL_succ, chsCells_append, chsCells_one, show ka + (k - ka) = k by omega]; rfl)
        have HS := Lib.hid hS
        clear hi1 hj1 hall hS
        generalize bestF (part (spanZ a b) k) = f at *
        generalize bestD (part (spanZ a b) k) = d at *
        go_wp2_with (first | (go_at_call 36; refine (num0K_any k (by omega) _).mono ?_; rintro e w' ⟨rfl, rfl⟩) | (go_at_call 43; refine (nothing_any _).mono ?_; rintro e w4 ⟨rfl, hb4⟩))
        refine (HF.out _).mono ?_
        rintro e w5 ⟨rfl, hb5⟩
        have hS6 := ((HS.out.under hb4).under hb5).under ((Below.refl _ w5).alloc (Nat.le_refl _) (.cells #[.int .i64 f, .string ⟨d.toArray⟩] 52))
        have hsz6 := hS6.2.1.lt
        clear hb4 hb5
        go_wp2_with (at_builtin; refine wpList_append_own _ rfl _ _ 22 rfl (w.heap.size + 1) 54 i0 (.agg #[.int .i64 0, .int .i64 0, .string ⟨#[]⟩]) 3 32 Try.underlying22 HInf.out HZ0.out HZ1.out HZ2.out rfl (by decide) _ _ _ rfl (hS6.1.alloc _) ⟨w5.heap.size + 1, 0, none⟩ 1 1 [.int .i64 k, .int .i64 f, .string ⟨d.toArray⟩] rfl rfl (by have := cells_three (w5.alloc (.cells #[.int .i64 f, .string ⟨d.toArray⟩] 52)) (.int .i64 k) (.int .i64 f) (.string ⟨d.toArray⟩) 54; rwa [World.size_alloc] at this) (by simp [Value.oneCell']) (by unfold maxLen; omega) (by omega) (by rw [World.size_alloc]; omega) ?_; intro v2 w6 hown6 hgrow6 _; rw [← HSu.out] at hown6; obtain ⟨x2, k2, rfl⟩ := own_slice hown6; have HS7 := Lib.hid (SpI.app hS6 hgrow6 hown6); clear hS6 hgrow6 hown6)
        go_roundw
        case rel => exact ⟨k + 1, by simp, by omega, by omega, HAll.out, by rw [show k + 1 - ka = k - ka + 1 by omega]; exact HS7.out⟩
        case measure => simp [intOf]; omega
      · have hend : b ≤ 256 * ((ka + (k - ka) : Nat) : Int) := by omega
        have hkp := HSp.out (k - ka) (fun j h1 h2 => hall j h1 (by omega)) hend
        obtain ⟨x2, c2, rfl⟩ := own_slice hS.1
        have hJ := joined_any (w.heap.size + 1) (.slice x2 (k - ka) c2) (k - ka) (spanL a b ka (k - ka)) (spanL_length ..) wr hS.1 hS.2.1.lt
        unfold JoinR at hJ
        rw [hkp] at hJ
        have HJ := Lib.hid hJ
        have HS := Lib.hid hS
        clear hall hS hJ hkp hend
        go_wp2_with (first | (go_at_call 36; refine (num0K_any k (by omega) _).mono ?_; rintro e w' ⟨rfl, rfl⟩))
        refine HJ.out.mono ?_
        rintro e w5 ⟨u, rfl, hu, hb5⟩
        have bR5 : Blk w5 w.heap.size 24 #[.slice none 0 0] := (hb5.block w.heap.size (by omega)).trans HS.out.2.1
        have c0 := bR5.cell 0; have f0 := bR5.frozen 0
        dsimp at c0
        obtain ⟨x3, c3, rfl, h1, h2, h3, h4⟩ := own_chs (g := w.heap.size) (u := u) hu (by omega)
        have hE := bR5.set_ 0 (.slice x3 (ofS (spanZ a b)).length c3)
        have HD := Lib.hid ((HS.out.2.2.trans (hb5.mono (by omega))).setCell (p := ⟨w.heap.size, 0, none⟩) (Nat.le_refl _) (.slice x3 (ofS (spanZ a b)).length c3))
        have H4 : Hid (∀ b o, x3 = some ⟨b, o, none⟩ → w.heap.size ≤ b) := Lib.hid (fun b o e => by have := h4 b o e; omega)
        have H3 := Lib.hid h3
        have HE := Lib.hid hE
        clear hu hb5 bR5 h3 h4 HJ HS hE
        go_wp2
        exact ret_roar2 rfl rfl HE.out rfl (roar_some HV.out rfl h1 h2 H3.out HD.out H4.out)
  · have HV := Lib.hid (flipZ_bad (r := []) (fun h => hok h.2) : flipZ [] a b = ([], 70))
    have c0 := bR.cell 0
    have HB := Lib.hid bR
    have HD := Lib.hid hB0
    clear bR hB0
    unfold okQ at hok
    by_cases hm1 : mn < 0
    · clear hmn hmx hok
      go_enter Try.func27, Try.ntmps27
      go_wp2
      exact ret_roar2 rfl rfl HB.out rfl (roar_none HV.out rfl HD.out)
    · have hm2 : mx > 65536 := by
        rw [hmx]; rw [hmn] at hm1
        split <;> split at hm1 <;> omega
      clear hmn hmx hok
      go_enter Try.func27, Try.ntmps27
      go_wp2
      exact ret_roar2 rfl rfl HB.out rfl (roar_none HV.out rfl HD.out)
end Go.Proofs.Ytbfchlfagdhglaa
