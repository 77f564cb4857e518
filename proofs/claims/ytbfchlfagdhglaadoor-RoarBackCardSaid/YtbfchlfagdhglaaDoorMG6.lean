import Derived.Test.YtbfchlfagdhglaaDoorMG5
import Derived.Test.YtbfchlfagdhglaaDoorMG2
import Derived.Test.YtbfchlfagdhglaaDoorMG3
import Derived.Lib.BitFns
/- Numbers, ranks, places of bitmaps; bitmaps of their numbers: pure mathematics. -/
namespace Go.Proofs.YtbfchlfagdhglaaDoor

/-- The set that a bitmap is read as: none of what is no bitmap. -/
def readZ (r : List Ch) : Bs := fun n => decide (RightZ r) && setZ r n
theorem readZ_good {r : List Ch} (h : RightZ r) : readZ r = setZ r := by funext n; unfold readZ; rw [decide_eq_true h, Bool.true_and]
theorem readZ_bad {r : List Ch} (h : ¬ RightZ r) : readZ r = fun _ => false := by funext n; unfold readZ; rw [decide_eq_false h, Bool.false_and]
theorem valsTo_none (k : Nat) : valsTo (fun _ => false) k = [] := by
  unfold valsTo
  rw [List.filter_eq_nil_iff]
  intro a _
  decide
theorem valsZ_read (r : List Ch) : valsZ r = valsTo (readZ r) 65536 := by
  by_cases h : RightZ r
  · rw [valsZ_good h, readZ_good h]
  · rw [valsZ_bad h, readZ_bad h, valsTo_none]
/-- How many numbers below N are at most n. -/
def rankN (s : Bs) (N : Nat) (n : Int) : Nat := (valsTo s (min N (n + 1).toNat)).length
theorem rankN_low (s : Bs) (N : Nat) (n : Int) (h : n < 0) : rankN s N n = 0 := by
  unfold rankN
  rw [show min N (n + 1).toNat = 0 by omega]; rfl
theorem rankN_high (s : Bs) (N : Nat) (n : Int) (h : (N : Int) ≤ n + 1) : rankN s N n = (valsTo s N).length := by
  unfold rankN
  rw [show min N (n + 1).toNat = N by omega]
theorem rankN_le (s : Bs) (N : Nat) (n : Int) : rankN s N n ≤ (valsTo s N).length := by
  unfold rankN
  obtain ⟨r, e, _⟩ := valsTo_take s (min N (n + 1).toNat) N (Nat.min_le_left _ _)
  rw [e, List.length_append]; omega
theorem rankN_step (s : Bs) (N n : Nat) (hn : n < N) : rankN s N n = rankN s N (n - 1 : Int) + (if s n then 1 else 0) := by
  unfold rankN
  rw [show min N ((n : Int) + 1).toNat = n + 1 by omega, show min N ((n : Int) - 1 + 1).toNat = n by omega, valsTo_succ]
  split <;> simp
/-- The number of a place. -/
theorem placeN (s : Bs) (N : Nat) {p n : Nat} (h : (valsTo s N)[p]? = some n) : n < N ∧ s n = true ∧ (valsTo s n).length = p := by
  have hm := mem_valsTo.1 (List.mem_of_getElem? h)
  refine ⟨hm.1, hm.2, ?_⟩
  obtain ⟨r, e, hr⟩ := valsTo_take s (n + 1) N (by omega)
  rw [valsTo_succ s n, if_pos hm.2] at e
  have hk : (valsTo s N)[(valsTo s n).length]? = some n := by
    rw [e, List.getElem?_append_left (by simp), List.getElem?_append_right (Nat.le_refl _)]; simp
  obtain ⟨h1, e1⟩ := List.getElem?_eq_some_iff.1 h
  obtain ⟨h2, e2⟩ := List.getElem?_eq_some_iff.1 hk
  have ha := List.pairwise_iff_getElem.1 (vals_asc s N)
  rcases Nat.lt_trichotomy p (valsTo s n).length with hlt | heq | hgt
  · have h5 := ha _ _ h1 h2 hlt
    rw [e1, e2] at h5; omega
  · exact heq.symm
  · have h5 := ha _ _ h2 h1 hgt
    rw [e1, e2] at h5; omega
theorem placeN_at (s : Bs) (N : Nat) {x : Nat} (hx : x < N) (hs : s x = true) : (valsTo s N)[(valsTo s x).length]? = some x := by
  obtain ⟨r, e, hr⟩ := valsTo_take s (x + 1) N (by omega)
  rw [valsTo_succ s x, if_pos hs] at e
  rw [e, List.getElem?_append_left (by simp), List.getElem?_append_right (Nat.le_refl _)]; simp
/-- The rank of the number at a place, and of the one ahead of it. -/
theorem placeN_rank (s : Bs) (N : Nat) {p n : Nat} (h : (valsTo s N)[p]? = some n) : rankN s N n = p + 1 ∧ rankN s N ((n : Int) - 1) = p := by
  obtain ⟨h1, h2, h3⟩ := placeN s N h
  have h4 : rankN s N ((n : Int) - 1) = p := by
    unfold rankN
    rw [show min N ((n : Int) - 1 + 1).toNat = n by omega]; exact h3
  exact ⟨by rw [rankN_step s N n h1, h4, h2]; rfl, h4⟩
/-- How many of the first k values are at most n: what a law counts. -/
theorem rankN_count (s : Bs) (N : Nat) (n : Int) : ((valsTo s N).filter fun (v : Nat) => decide ((v : Int) ≤ n)).length = rankN s N n := by
  unfold rankN
  obtain ⟨r, e, hr⟩ := valsTo_take s (min N (n + 1).toNat) N (Nat.min_le_left _ _)
  have h1 : (valsTo s (min N (n + 1).toNat)).filter (fun (v : Nat) => decide ((v : Int) ≤ n)) = valsTo s (min N (n + 1).toNat) := by
    rw [List.filter_eq_self]
    intro v hv
    have := (mem_valsTo.1 hv).1
    rw [decide_eq_true_iff]; omega
  have h2 : r.filter (fun (v : Nat) => decide ((v : Int) ≤ n)) = [] := by
    rw [List.filter_eq_nil_iff]
    intro v hv
    have h3 := hr v hv
    have h4 : v ∈ valsTo s N := by rw [e]; exact List.mem_append_right _ hv
    have h5 := (mem_valsTo.1 h4).1
    rw [decide_eq_true_iff]
    omega
  rw [e, List.filter_append, h1, h2, List.append_nil]
theorem vals_mem (s : Bs) (N : Nat) (n : Int) : (valsTo s N).any (fun (v : Nat) => decide ((v : Int) = n)) = (decide (0 ≤ n) && decide (n < (N : Int)) && s n.toNat) := by
  rw [Bool.eq_iff_iff, List.any_eq_true]
  simp only [Bool.and_eq_true, decide_eq_true_iff]
  constructor
  · rintro ⟨v, hv, rfl⟩
    have := mem_valsTo.1 hv
    exact ⟨⟨by omega, by omega⟩, by simpa using this.2⟩
  · rintro ⟨⟨h1, h2⟩, h3⟩
    exact ⟨n.toNat, mem_valsTo.2 ⟨by omega, h3⟩, by omega⟩
/-- Has a bitmap the number? -/
def hasZ (r : List Ch) (n : Int) : Bool := goodQ n && readZ r n.toNat
/-- The numbers of a bitmap make it again. -/
theorem ofL_valsN (s : Bs) (N n : Nat) : ofL (zsOf (valsTo s N)) n = (decide (n < N) && s n) := by
  unfold ofL zsOf
  rw [List.any_map, Bool.eq_iff_iff, List.any_eq_true]
  simp only [Bool.and_eq_true, decide_eq_true_iff, Function.comp]
  constructor
  · rintro ⟨v, hv, e⟩
    have e' : v = n := by
      have := of_decide_eq_true e
      omega
    subst e'
    exact mem_valsTo.1 hv
  · rintro ⟨h1, h2⟩
    exact ⟨n, mem_valsTo.2 ⟨h1, h2⟩, by simp⟩
theorem allQ_vals (s : Bs) : AllQ (zsOf (valsTo s 65536)) := by
  intro z hz
  obtain ⟨v, hv, rfl⟩ := List.mem_map.1 hz
  have := (mem_valsTo.1 hv).1
  unfold goodQ; simp; omega
theorem make_valsZ {r : List Ch} (h : RightZ r) : makeZ (zsOf (valsZ r)) = (r, 0) := by
  rw [valsZ_good h, makeZ_good (allQ_vals _)]
  have e : ofS (ofL (zsOf (valsTo (setZ r) 65536))) = ofS (setZ r) := ofS_congr fun n hn => by rw [ofL_valsN, decide_eq_true hn, Bool.true_and]
  rw [e, ← h.2]
/-- Two bitmaps of sets. -/
theorem ofS_eq {s t : Bs} : ofS s = ofS t ↔ SameZ s t := ⟨fun h => (set_of s).symm.trans (h ▸ set_of t), ofS_congr⟩
theorem opZ_of (op : Nat) (h1 : 1 ≤ op) (h4 : op ≤ 4) (s t : Bs) : opZ (op : Int) (ofS s) (ofS t) = (ofS (opS op s t), 0) := by
  rw [opZ_good (right_of s) (right_of t) (by unfold okOpZ; omega), Int.toNat_natCast]
  refine Prod.ext (ofS_congr fun n hn => ?_) rfl
  unfold opS
  rw [set_of s n hn, set_of t n hn]
theorem flipZ_of {a b : Int} (h : okQ a b) (s : Bs) : flipZ (ofS s) a b = (ofS (flipS s a b), 0) := by
  rw [flipZ_good (right_of s) h]
  refine Prod.ext (ofS_congr fun n hn => ?_) rfl
  unfold flipS
  rw [set_of s n hn]
theorem flipZ_nil {a b : Int} (h : okQ a b) : flipZ [] a b = (ofS (fun n => decide (a ≤ n) && decide ((n : Int) < b)), 0) := by
  rw [flipZ_good right_nil h]
  refine Prod.ext (ofS_congr fun n _ => ?_) rfl
  unfold flipS
  rw [setZ_nil]
  by_cases h1 : a ≤ n ∧ (n : Int) < b
  · rw [if_pos h1, decide_eq_true h1.1, decide_eq_true h1.2]; rfl
  · rw [if_neg h1]
    symm
    rw [Bool.and_eq_false_iff, decide_eq_false_iff_not, decide_eq_false_iff_not]
    omega
theorem valsZ_of (s : Bs) : valsZ (ofS s) = valsTo s 65536 := by
  rw [valsZ_good (right_of s)]
  exact valsTo_congr fun n hn => set_of s n hn
end Go.Proofs.YtbfchlfagdhglaaDoor
/- The program's set: its cells, put, putSpan. -/
namespace Go.Proofs.YtbfchlfagdhglaaDoor
open Go.RowKit

/-- The cells of a set, a byte for eight numbers. -/
def scl (s : Bs) : Array Value := ((List.range 32).map fun k => Value.int .u8 (byteS s 256 k : Nat)).toArray
theorem scl_size (s : Bs) : (scl s).size = 32 := by simp [scl]
theorem scl_get {s : Bs} {k : Nat} (h : k < 32) : (scl s)[k]? = some (.int .u8 (byteS s 256 k : Nat)) := by
  unfold scl
  rw [List.getElem?_toArray, List.getElem?_map, List.getElem?_range h]; rfl
theorem scl_congr {s t : Bs} (h : Same s t) : scl s = scl t := by
  unfold scl
  exact congrArg List.toArray (List.map_congr_left fun k _ => congrArg (fun n : Nat => Value.int .u8 (n : Int)) (byteS_same h k))
theorem scl_ext {s : Bs} {a : Array Value} (hs : a.size = 32) (h : ∀ k, k < 32 → a[k]? = some (.int .u8 (byteS s 256 k : Nat))) : a = scl s := by
  apply Array.ext_getElem?
  intro k
  by_cases hk : k < 32
  · rw [h k hk, scl_get hk]
  · rw [Array.getElem?_eq_none (by omega), Array.getElem?_eq_none (by rw [scl_size]; omega)]
theorem scl_put (s : Bs) (n : Nat) (hn : n < 256) : (scl s).setIfInBounds (n / 8) (.int .u8 (byteS s 256 (n / 8) ||| 2 ^ (n % 8) : Nat)) = scl (put1 s n true) := by
  refine scl_ext (by rw [Array.size_setIfInBounds, scl_size]) fun k hk => ?_
  rw [Array.getElem?_setIfInBounds]
  by_cases e : n / 8 = k
  · subst e; rw [if_pos rfl, if_pos (by rw [scl_size]; omega), byteS_put s n hn]
  · rw [if_neg e, scl_get hk, byteS_put_far s n k (fun h => e h.symm) true hk]
theorem byteS_zero (k : Nat) (hk : k < 32) : byteS (fun _ => false) 256 k = 0 := (byteS_ext hk (by decide) (fun i _ => by simp)).symm
theorem scl_zero : (Array.replicate 32 (Value.int .u8 0)) = scl (fun _ => false) := scl_ext (by simp) fun k hk => by rw [Array.getElem?_replicate, if_pos hk, byteS_zero k hk]; rfl
theorem scl_one (s : Bs) : (scl s).all (·.oneCell') = true := by
  rw [Array.all_eq_true]
  intro i hi
  have h2 : i < 32 := by rw [scl_size] at hi; exact hi
  have := scl_get (s := s) h2
  rw [Array.getElem?_eq_getElem hi] at this
  injection this with this
  rw [this]; rfl
theorem info_set : (Tryd.prog.info? 83).map (fun i => (i.zero, i.size)) = some (some (.agg (Array.replicate 32 (.int .u8 0))), 32) := by kernel_rfl
theorem zero_set (w : World) : (zeroValue 83).run Tryd.prog w = .ok (.agg (scl fun _ => false)) w := by rw [← scl_zero]; exact (zero_of_info info_set).1 w
theorem size_set : (Tryd.prog.info? 83).map (·.size) = some 32 := (zero_of_info info_set).2
/-- A whole set out of its block, and into it. -/
theorem ld_set {w : World} {g : Nat} {s : Bs} (h : Blk w g 83 (scl s)) : (Instr.loadAt 83 (.pointer (some ⟨g, 0, none⟩))).run Tryd.prog w = .ok (.agg (scl s)) w := by
  have := run_loadAt_mid (P := Tryd.prog) w g 0 83 (scl s).toList _ (fun j v hv => by rw [Nat.zero_add, h.cell j]; simpa using hv) Tryd.underlying83 rfl (by rw [size_set]; simp [scl_size])
  simpa using this
theorem ldv_set {w : World} {g : Nat} {s : Bs} (h : Blk w g 83 (scl s)) : (loadVar 83 ⟨g, 0, none⟩).run Tryd.prog w = .ok (.agg (scl s)) w := by
  have := run_loadVar_mid (P := Tryd.prog) w g 0 83 (scl s).toList _ (fun j v hv => by rw [Nat.zero_add, h.cell j]; simpa using hv) Tryd.underlying83 rfl (by rw [size_set]; simp [scl_size])
  simpa using this
theorem st_set {w : World} {g : Nat} {s : Bs} (h : Blk w g 83 (scl s)) (t : Bs) : (Instr.storeAt 83 (.pointer (some ⟨g, 0, none⟩)) (.agg (scl t))).run Tryd.prog w = .ok () (w.setRow g (scl t)) := by
  simp only [Instr.storeAt, Instr.sureAddr, Sem.run_bind, Sem.run_pure, Result.andThen]
  exact run_storeVar_row w g _ 83 (scl s) (scl t) h (by rw [scl_size]; exact size_set) (by rw [scl_size, scl_size]) (scl_one t)
theorem st_cells {w : World} {g : Nat} {s : Bs} (h : Blk w g 83 (scl s)) (t : Bs) : (storeCells ⟨g, 0, none⟩ (scl t).toList).run Tryd.prog w = .ok () (w.setRow g (scl t)) := by
  have := run_storeCells_from (P := Tryd.prog) g 83 (scl t).toList 0 (scl s) w h (by simp [scl_size]) (fun v hv => (Array.all_eq_true_iff_forall_mem.1 (scl_one t)) v (by simpa using hv))
  simpa using this
theorem wp_ld_set {op : Oper} {a : Act} {w : World} {K : Act → World → Prop} {Q : Exit → Act → World → Prop} (x : Operand) (ho : op.op = .load 83 x) (g : Nat) (hx : a.eval x = .pointer (some ⟨g, 0, none⟩)) (s : Bs)
    (hb : Blk w g 83 (scl s)) (h : K (a.put op.dst (.agg (scl s))) w) : op.wp Tryd.prog a w K Q := by
  unfold Oper.wp execOp
  simp only [ho, hx, Sem.run_bind, Sem.run_pure, Result.andThen_ok, ld_set hb]
  exact h
theorem wp_st_set {op : Oper} {a : Act} {w : World} {K : Act → World → Prop} {Q : Exit → Act → World → Prop} (x y : Operand) (ho : op.op = .store 83 x y) (g : Nat) (hx : a.eval x = .pointer (some ⟨g, 0, none⟩)) (s t : Bs) (hy : a.eval y = .agg (scl t))
    (hb : Blk w g 83 (scl s)) (h : K (a.put op.dst undef) (w.setRow g (scl t))) : op.wp Tryd.prog a w K Q := by
  unfold Oper.wp execOp
  simp only [ho, hx, hy, Sem.run_bind, Sem.run_pure, Result.andThen_ok, st_set hb t]
  exact h

theorem wpList_ld_set {ops : Array Oper} {rest : List Oper} {op : Oper} {a : Act} {w : World} {Q : Exit → Act → World → Prop} (hgd : op.guard = none) (x : Operand) (ho : op.op = .load 83 x) (g : Nat) (hx : a.eval x = .pointer (some ⟨g, 0, none⟩)) (s : Bs)
    (hb : Blk w g 83 (scl s)) (h : wpList Tryd.prog ops Q rest (a.put op.dst (.agg (scl s))) w) : wpList Tryd.prog ops Q (op :: rest) a w :=
  wpList_plain hgd fun _ hK => wp_ld_set x ho g hx s hb (hK _ _ h)

theorem wpList_st_set {ops : Array Oper} {rest : List Oper} {op : Oper} {a : Act} {w : World} {Q : Exit → Act → World → Prop} (hgd : op.guard = none) (x y : Operand) (ho : op.op = .store 83 x y) (g : Nat) (hx : a.eval x = .pointer (some ⟨g, 0, none⟩)) (s t : Bs) (hy : a.eval y = .agg (scl t))
    (hb : Blk w g 83 (scl s)) (h : wpList Tryd.prog ops Q rest (a.put op.dst undef) (w.setRow g (scl t))) : wpList Tryd.prog ops Q (op :: rest) a w :=
  wpList_plain hgd fun _ hK => wp_st_set x y ho g hx s t hy hb (hK _ _ h)

/-! ### One block is turned, and nothing else -/
theorem grown_refl (w : World) (r : Option Nat) : w.grownBy w r := ⟨rfl, rfl, rfl, Nat.le_refl _, fun _ _ _ => rfl⟩
theorem grown_trans {a b c : World} {r : Option Nat} (h : a.grownBy b r) (k : b.grownBy c r) : a.grownBy c r :=
  ⟨k.os.trans h.os, k.tape.trans h.tape, k.output.trans h.output, Nat.le_trans h.size k.size, fun i hi hne => (k.block i (Nat.lt_of_lt_of_le hi h.size) hne).trans (h.block i hi hne)⟩
theorem grown_under {a b : World} (h : Below a.heap.size a b) (r : Option Nat) : a.grownBy b r := ⟨h.os, h.tape, h.output, h.size, fun i hi _ => h.block i hi⟩
theorem grown_set {a b : World} {g : Nat} (h : a.grownBy b (some g)) (p : Addr) (hp : p.block = g) (u : Value) : a.grownBy (b.setCell p u) (some g) :=
  grown_trans h ⟨rfl, rfl, rfl, by simp [World.setCell], fun i _ hne => Below.heap_setCell b p u i (fun e => hne (by rw [hp] at e; rw [e]))⟩
theorem grown_drew {a b : World} {r : Option Nat} (h : a.grownBy b r) : a.grownBy b.drew r := ⟨h.os, h.tape, h.output, h.size, h.block⟩
theorem grown_alloc {a b : World} {r : Option Nat} (h : a.grownBy b r) (o : Obj) : a.grownBy (b.alloc o) r := grown_trans h (grown_under ((Below.refl _ b).alloc (Nat.le_refl _) o) r)
theorem grown_below {a b : World} {g B : Nat} (h : a.grownBy b (some g)) (hg : B ≤ g) (hB : B ≤ a.heap.size) : Below B a b := ⟨h.os, h.tape, h.output, h.size, fun k hk => h.block k (by omega) (fun e => by cases e; omega)⟩
theorem Blk.grown {a b : World} {g k : Nat} {t : TypeId} {cs : Array Value} (h : Blk a k t cs) (hg : a.grownBy b (some g)) (hne : k ≠ g) : Blk b k t cs := (hg.block k h.lt (fun e => hne (by cases e; rfl))).trans h

/-- What a call of put leaves. -/
def PutPost (B : Nat) (s : Bs) (zs : List Int) (w : World) (e : Ending) (w' : World) : Prop :=
  w.grownBy w' (some B) ∧ ((∀ z ∈ zs, goodZ z = true) ∧ e = .returned (.bool true) ∧ Blk w' B 83 (scl fun n => s n || ofL zs n) ∨ ¬ (∀ z ∈ zs, goodZ z = true) ∧ e = .returned (.bool false) ∧ ∃ t, Blk w' B 83 (scl fun n => s n || ofL t n) ∧ t <+: zs ∧ ∀ z ∈ t, goodZ z = true)
theorem or8 (a b : Nat) (ha : a < 256) (hb : b < 256) : bits .or .u8 (a : Int) (b : Int) = ((a ||| b : Nat) : Int) := by
  show IntKind.u8.wrap ((BitVec.ofInt 8 a ||| BitVec.ofInt 8 b).toNat : Int) = _
  rw [BitVec.toNat_or, BitVec.toNat_ofInt, BitVec.toNat_ofInt]
  rw [show ((a : Int) % ((2 ^ 8 : Nat) : Int)).toNat = a by omega, show ((b : Int) % ((2 ^ 8 : Nat) : Int)).toNat = b by omega]
  have := Nat.or_lt_two_pow (n := 8) ha hb
  simp [IntKind.wrap, IntKind.bits, IntKind.signed]
  omega
/-- The state of put's walk. -/
def PutSt (B : Nat) (s : Bs) (zs : List Int) (w : World) (k : Nat) (wr : World) : Prop := w.grownBy wr (some B) ∧ Blk wr B 83 (scl fun n => s n || ofL (zs.take k) n) ∧ ∀ j, j < k → goodZ (zs[j]?.getD 0) = true
theorem PutSt.step {B : Nat} {s : Bs} {zs : List Int} {w wr : World} {k z : Nat} (h : PutSt B s zs w k wr) (hk : k < zs.length) (hz : zs[k]?.getD 0 = z) (hz2 : z < 256) :
    PutSt B s zs w (k + 1) (wr.setCell ⟨B, z / 8, none⟩ (.int .u8 (byteS (fun n => s n || ofL (zs.take k) n) 256 (z / 8) ||| 2 ^ (z % 8) : Nat))) := by
  obtain ⟨h1, h2, h3⟩ := h
  refine ⟨grown_set h1 _ rfl _, ?_, fun j hj => ?_⟩
  · have := h2.set_ (z / 8) (.int .u8 (byteS (fun n => s n || ofL (zs.take k) n) 256 (z / 8) ||| 2 ^ (z % 8) : Nat))
    rwa [scl_put _ z hz2, ofL_take zs k hk z hz] at this
  · by_cases e : j = k
    · subst e
      rw [hz]
      unfold goodZ
      simp; omega
    · exact h3 j (by omega)
theorem PutSt.drew {B : Nat} {s : Bs} {zs : List Int} {w wr : World} {k : Nat} (h : PutSt B s zs w k wr) : PutSt B s zs w k wr.drew := ⟨grown_drew h.1, h.2.1, h.2.2⟩
theorem PutSt.good {B : Nat} {s : Bs} {zs : List Int} {w wr : World} (h : PutSt B s zs w zs.length wr) : PutPost B s zs w (.returned (.bool true)) wr := by
  obtain ⟨h1, h2, h3⟩ := h
  rw [List.take_length] at h2
  refine ⟨h1, .inl ⟨fun z hz => ?_, rfl, h2⟩⟩
  obtain ⟨j, hj, rfl⟩ := List.getElem_of_mem hz
  have := h3 j hj
  rwa [List.getElem?_eq_getElem hj] at this
theorem PutSt.bad {B : Nat} {s : Bs} {zs : List Int} {w wr : World} {k : Nat} (h : PutSt B s zs w k wr) (hk : k < zs.length) (hz : zs[k]?.getD 0 < 0 ∨ 256 ≤ zs[k]?.getD 0) : PutPost B s zs w (.returned (.bool false)) wr := by
  obtain ⟨h1, h2, h3⟩ := h
  refine ⟨h1, .inr ⟨fun hg => ?_, rfl, _, h2, List.take_prefix _ _, fun z hz2 => ?_⟩⟩
  · have := hg _ (List.getElem_mem hk)
    rw [List.getElem?_eq_getElem hk] at hz
    unfold goodZ at this
    simp at this hz
    omega
  · obtain ⟨j, hj, rfl⟩ := List.getElem_of_mem hz2
    rw [List.length_take] at hj
    have := h3 j (by omega)
    rw [List.getElem?_eq_getElem (by omega)] at this
    simpa using this

set_option maxRecDepth 100000 in
set_option maxHeartbeats 4000000 in
theorem put_any (B : Nat) (s : Bs) (x : Option Addr) (len cap : Nat) (zs : List Int) (hlen : zs.length = len) (hcm : len ≤ 9223372036854775807) (hz64 : In64 zs) (w : World) (hI : Ints w.heap.size w (.slice x len cap) zs) (hne : ∀ a, x = some a → 0 < len → a.block ≠ B) (bB : Blk w B 83 (scl s)) :
    Calls Tryd.prog 47 #[.pointer (some ⟨B, 0, none⟩), .slice x len cap] w (PutPost B s zs w) := by
  have HS0 : Hid (PutSt B s zs w 0 w) := Lib.hid ⟨grown_refl w _, by simpa [ofL] using bB, fun j hj => by omega⟩
  have hBlt := bB.lt
  have HI := Lib.hid hI
  have HNE := Lib.hid hne
  have HL := Lib.hid hlen
  have HZ := Lib.hid hz64
  clear bB hI hne hlen hz64
  go_enter Tryd.func47, Tryd.ntmps47
  go_wp2
  go_loopw [9] (fun i wr => ∃ k : Nat, k ≤ len ∧ i = .int .i64 k ∧ PutSt B s zs w k wr) (fun i _ => len - (intOf i).toNat)
  case atStart => exact ⟨0, Nat.zero_le _, rfl, HS0.out⟩
  case round =>
    obtain ⟨k, hk, rfl, hS⟩ := hrel
    by_cases hlt : k < len
    · obtain ⟨b1, o1, rfl, hb1, hc1⟩ := HI.out.at_ hlt
      have hneB : b1 ≠ B := HNE.out _ rfl (by omega)
      have hkz : k < zs.length := by rw [HL.out]; exact hlt
      have hd1 : wr.cell? ⟨b1, o1 + k, none⟩ = some (.int .i64 (zs[k]?.getD 0)) := (World.cell?_of_block (hS.1.block b1 hb1 (fun e => hneB (by cases e; rfl)))).trans hc1
      have hlt' : (k : Int) < len := by omega
      have hz1 := HZ.out k
      by_cases hzg : 0 ≤ zs[k]?.getD 0 ∧ zs[k]?.getD 0 < 256
      · obtain ⟨z, hz⟩ : ∃ z : Nat, zs[k]?.getD 0 = z := ⟨(zs[k]?.getD 0).toNat, by omega⟩
        have hz2 : z < 256 := by omega
        have HP := Lib.hid (hS.step hkz hz hz2).drew
        have c0 := hS.2.1.cell (z / 8)
        rw [scl_get (by omega)] at c0
        have f0 := hS.2.1.frozen (z / 8)
        have hbl := byteS_lt (fun n => s n || ofL (zs.take k) n) 256 (z / 8)
        generalize byteS (fun n => s n || ofL (zs.take k) n) 256 (z / 8) = b at *
        rw [hz] at hd1
        clear hc1 hz1 hzg hS hz
        have h1 : ¬ (z : Int) < 0 := by omega
        have h2 : ¬ (256 : Int) ≤ z := by omega
        have e8 : (z : Int).tmod 8 = ((z % 8 : Nat) : Int) := by rw [Int.tmod_eq_emod_of_nonneg (by omega)]; rfl
        have e9 : (z : Int).tdiv 8 = ((z / 8 : Nat) : Int) := by rw [Int.tdiv_eq_ediv_of_nonneg (by omega)]; rfl
        have hq : z / 8 < 32 := by omega
        have hr : z % 8 < 8 := by omega
        generalize z / 8 = q at *
        generalize z % 8 = r at *
        have hp : 2 ^ r < 256 := Nat.lt_of_lt_of_le (Nat.pow_lt_pow_right (by decide) hr) (by decide)
        have hor : bits .or .u8 (b : Int) ((2 : Int) ^ r % 256) = ((b ||| 2 ^ r : Nat) : Int) := by
          have h2 : (2 : Int) ^ r % 256 = ((2 ^ r : Nat) : Int) := by rw [Int.natCast_pow]; exact Int.emod_eq_of_lt (Int.le_of_lt (Int.pow_pos (by decide))) (by exact_mod_cast hp)
          rw [h2]; exact or8 b (2 ^ r) hbl hp
        go_wp2
        go_region
        all_goals
          go_wp2
          go_roundw
          case rel => exact ⟨k + 1, by omega, by simp, HP.out⟩
          case measure => simp [intOf]; omega
      · have HP := Lib.hid (hS.bad hkz (by omega))
        generalize zs[k]?.getD 0 = z at *
        by_cases h1 : z < 0
        · clear hc1 hS
          go_wp2
          go_ret
          exact HP.out
        · have h2 : (256 : Int) ≤ z := by omega
          clear hc1 hS
          go_wp2
          go_ret
          exact HP.out
    · obtain rfl : k = len := by omega
      have hge : ¬ (k : Int) < k := by omega
      have HP := Lib.hid (show PutPost B s zs w (.returned (.bool true)) wr from PutSt.good (by rw [HL.out]; exact hS))
      clear hS
      go_wp2
      go_ret
      exact HP.out
end Go.Proofs.YtbfchlfagdhglaaDoor
/- putSpan, putRuns; alone: what goes into the program's set. -/
namespace Go.Proofs.YtbfchlfagdhglaaDoor
open Go.RowKit

theorem ofL_none (s : Bs) : (fun n => s n || ofL [] n) = s := by funext n; simp [ofL]
theorem ofL_one (s : Bs) (z : Nat) : (fun n => s n || ofL [(z : Int)] n) = put1 s z true := by
  funext n
  unfold put1 ofL
  by_cases h : n = z
  · subst h; simp
  · rw [if_neg h]
    have : ((z : Int) == (n : Int)) = false := by rw [beq_eq_false_iff_ne]; omega
    simp [this]
theorem pre_none {z : Int} {t : List Int} (ht : t <+: [z]) (hg : ∀ y ∈ t, goodZ y = true) (hz : ¬ goodZ z = true) : t = [] := by
  cases t with
  | nil => rfl
  | cons a r =>
    have h3 := (List.cons_prefix_cons.1 ht).1
    subst h3
    exact absurd (hg a (List.mem_cons_self ..)) hz
/-- One number put in. -/
theorem put_one {B : Nat} {s : Bs} {z : Int} {w w' : World} {e : Ending} (h : PutPost B s [z] w e w') : e = .returned (.bool (goodZ z)) ∧ w.grownBy w' (some B) ∧ Blk w' B 83 (scl (if goodZ z then put1 s z.toNat true else s)) := by
  obtain ⟨h1, ⟨hg, rfl, hb⟩ | ⟨hg, rfl, t, hb, ht, hgt⟩⟩ := h
  · have hz : goodZ z = true := hg z (List.mem_singleton.2 rfl)
    have h0 : z = (z.toNat : Int) := by unfold goodZ at hz; simp at hz; omega
    refine ⟨by rw [hz], h1, ?_⟩
    rw [if_pos hz, ← ofL_one, ← h0]; exact hb
  · have hz : ¬ goodZ z = true := fun e => hg fun y hy => by rw [List.mem_singleton.1 hy]; exact e
    rw [pre_none ht hgt hz, ofL_none] at hb
    refine ⟨by rw [Bool.eq_false_iff.2 hz], h1, ?_⟩
    rw [if_neg hz]; exact hb
/-- A call of put with one number that has just been laid in a slice. -/
theorem put_new (B : Nat) (s : Bs) (z : Int) (h1 : -9223372036854775808 ≤ z) (h2 : z ≤ 9223372036854775807) (w : World) (bB : Blk w B 83 (scl s)) :
    Calls Tryd.prog 47 #[.pointer (some ⟨B, 0, none⟩), .slice (some ⟨w.heap.size, 0, none⟩) 1 1] (w.alloc (.cells #[.int .i64 z] 3)) fun e w' => e = .returned (.bool (goodZ z)) ∧ w.grownBy w' (some B) ∧ Blk w' B 83 (scl (if goodZ z then put1 s z.toNat true else s)) := by
  have hb0 := Blk.new w 3 #[.int .i64 z]
  have hI : Ints (w.alloc (.cells #[.int .i64 z] 3)).heap.size (w.alloc (.cells #[.int .i64 z] 3)) (.slice (some ⟨w.heap.size, 0, none⟩) 1 1) [z] := .inr ⟨w.heap.size, 0, 1, rfl, by simp, fun j hj => by
    rw [Nat.zero_add, hb0.cell j]
    match j, hj with
    | 0, _ => rfl⟩
  have h64 : In64 [z] := fun j => by
    match j with
    | 0 => exact ⟨h1, h2⟩
    | j + 1 => simp
  have hlt := bB.lt
  refine (put_any B s _ 1 1 [z] rfl (by decide) h64 _ hI (fun a e _ => by cases e; show w.heap.size ≠ B; omega) (bB.alloc _)).mono ?_
  intro e w' h
  obtain ⟨e1, e2, e3⟩ := put_one h
  exact ⟨e1, grown_trans (grown_alloc (grown_refl w _) _) e2, e3⟩

set_option maxRecDepth 100000 in
set_option maxHeartbeats 2000000 in
theorem putSpan_any (B : Nat) (s : Bs) (a b : Nat) (hb : b ≤ 100000) (ha : a ≤ 100000) (w : World) (bB : Blk w B 83 (scl s)) :
    Calls Tryd.prog 59 #[.pointer (some ⟨B, 0, none⟩), .int .i64 a, .int .i64 b] w fun e w' => (∃ v, e = .returned v) ∧ w.grownBy w' (some B) ∧ Blk w' B 83 (scl (spanS s a b)) := by
  have HB := Lib.hid bB
  clear bB
  go_enter Tryd.func59, Tryd.ntmps59
  go_wp2
  go_loopw [6] (fun i wr => ∃ k : Nat, a ≤ k ∧ k ≤ max a b ∧ i = .int .i64 k ∧ w.grownBy wr (some B) ∧ Blk wr B 83 (scl (spanS s a k))) (fun i _ => b - (intOf i).toNat)
  case atStart => exact ⟨a, Nat.le_refl _, by omega, rfl, grown_refl _ _, by rw [spanS_zero]; exact HB.out⟩
  case round =>
    obtain ⟨k, hk1, hk2, rfl, hG, hS⟩ := hrel
    by_cases hlt : k < b
    · have hlt' : (k : Int) < b := by omega
      have HP := Lib.hid (put_new B (spanS s a k) k (by omega) (by omega) wr hS)
      have HS2 : Hid (∀ w', Blk w' B 83 (scl (if goodZ (k : Int) then put1 (spanS s a k) (k : Int).toNat true else spanS s a k)) → Blk w' B 83 (scl (spanS s a (k + 1)))) := Lib.hid (fun w' h => by
        by_cases h256 : k < 256
        · have : goodZ (k : Int) = true := by unfold goodZ; simp; omega
          rw [if_pos this, Int.toNat_natCast, spanS_put s a k hk1] at h
          exact h
        · have : ¬ goodZ (k : Int) = true := by unfold goodZ; simp; omega
          rw [if_neg this] at h
          rwa [scl_congr (spanS_over s a k (k + 1) (by omega) (by omega))] at h)
      clear hS
      go_wp2_with fail
      refine HP.out.mono ?_
      rintro e w1 ⟨rfl, hG1, hb1⟩
      have hG2 := grown_trans hG hG1
      have hb2 := HS2.out _ hb1
      clear hb1 hG1
      go_wp2
      go_roundw
      case rel => exact ⟨k + 1, by omega, by omega, by simp, hG2, hb2⟩
      case measure => simp [intOf]; omega
    · have hge : ¬ (k : Int) < b := by omega
      have HE : Hid (Blk wr B 83 (scl (spanS s a b))) := Lib.hid (by
        rcases Nat.lt_or_ge a b with h | h
        · obtain rfl : k = b := by omega
          exact hS
        · obtain rfl : k = a := by omega
          have : spanS s k b = spanS s k k := by
            funext n; unfold spanS; congr 1
            have h1 : (decide (k ≤ n) && decide (n < b)) = false := by
              rw [Bool.and_eq_false_iff]; simp; omega
            rw [h1]; simp
          rw [this]; exact hS)
      clear hS
      go_wp2
      go_end0
      exact ⟨⟨_, rfl⟩, hG, HE.out⟩

theorem runs_step (d : List UInt8) (s : Bs) (k : Nat) (hk : k % 2 = 0) (h : k + 1 < d.length) : spanS (fun n => s n || setR (d.take k) n) (byteC d k) (byteC d k + byteC d (k + 1) + 1) = fun n => s n || setR (d.take (k + 2)) n := by
  funext n
  have e : d.take (k + 2) = d.take k ++ [d[k]?.getD 0, d[k + 1]?.getD 0] := by
    rw [show k + 2 = k + 1 + 1 from rfl, List.take_add_one, List.take_add_one, byte_at d k (by omega), byte_at d (k + 1) h]; simp
  unfold spanS
  rw [e, setR_snoc _ (by rw [List.length_take]; omega), Bool.or_assoc]
  congr 2
  show (decide (byteC d k ≤ n) && decide (n < byteC d k + byteC d (k + 1) + 1)) = (decide (byteC d k ≤ n) && decide (n ≤ byteC d k + byteC d (k + 1)))
  congr 1
  rw [decide_eq_decide]; omega
set_option maxRecDepth 100000 in
set_option maxHeartbeats 2000000 in
theorem putRuns_any (B : Nat) (s : Bs) (d : List UInt8) (hd : d.length ≤ 10000) (w : World) (bB : Blk w B 83 (scl s)) :
    Calls Tryd.prog 50 #[.pointer (some ⟨B, 0, none⟩), .string ⟨d.toArray⟩] w fun e w' => (∃ v, e = .returned v) ∧ w.grownBy w' (some B) ∧ Blk w' B 83 (scl fun n => s n || setR d n) := by
  have HB : Hid (Blk w B 83 (scl fun n => s n || setR (d.take 0) n)) := Lib.hid (by simpa [setR] using bB)
  clear bB
  go_enter Tryd.func50, Tryd.ntmps50
  go_wp2
  go_loopw [4] (fun i wr => ∃ k : Nat, 2 * k ≤ d.length + 1 ∧ i = .int .i64 ((2 * k + 1 : Nat) : Int) ∧ w.grownBy wr (some B) ∧ Blk wr B 83 (scl fun n => s n || setR (d.take (2 * k)) n)) (fun i _ => d.length + 2 - (intOf i).toNat)
  case atStart => exact ⟨0, by omega, rfl, grown_refl _ _, HB.out⟩
  case round =>
    obtain ⟨k2, hk, rfl, hG, hS⟩ := hrel
    obtain ⟨k, hkd⟩ : ∃ k, k = 2 * k2 := ⟨_, rfl⟩
    have hkm : k % 2 = 0 := by omega
    have Hk2 : Hid (2 * (k2 + 1) = k + 2) := Lib.hid (by omega)
    rw [← hkd] at hS hk ⊢
    clear hkd
    by_cases hlt : k + 1 < d.length
    · have hlt' : (k : Int) + 1 < d.length := by omega
      have hb := byteC_get d k (by omega)
      have hb1 := byteC_get d (k + 1) hlt
      have hbl := byteC_lt d k
      have hbl1 := byteC_lt d (k + 1)
      have HP := Lib.hid (putSpan_any B (fun n => s n || setR (d.take k) n) (byteC d k) (byteC d k + byteC d (k + 1) + 1) (by omega) (by omega) wr.drew hS.drew)
      rw [runs_step d s k hkm hlt, show ((byteC d k + byteC d (k + 1) + 1 : Nat) : Int) = (byteC d k : Int) + byteC d (k + 1) + 1 by omega] at HP
      clear hS
      generalize byteC d k = b0 at *
      generalize byteC d (k + 1) = b1 at *
      go_wp2
      go_region
      all_goals
        go_wp2_with fail
        refine HP.out.mono ?_
        rintro e w1 ⟨⟨v, rfl⟩, hG1, hb1⟩
        have hG2 := grown_trans (grown_drew hG) hG1
        clear hG1
        go_wp2
        go_roundw
        case rel => exact ⟨k2 + 1, by have := Hk2.out; omega, by have := Hk2.out; simp; omega, hG2, by rw [Hk2.out]; exact hb1⟩
        case measure => simp [intOf]; omega
    · have hge : ¬ (k : Int) + 1 < d.length := by omega
      have HE : Hid (Blk wr B 83 (scl fun n => s n || setR d n)) := Lib.hid (by
        rw [show (fun n => s n || setR d n) = fun n => s n || setR (d.take k) n by funext n; rw [setR_take d k hkm (by omega)]]
        exact hS)
      clear hS
      go_wp2
      go_end0
      exact ⟨⟨_, rfl⟩, hG, HE.out⟩
end Go.Proofs.YtbfchlfagdhglaaDoor
/- cont.alone. -/
namespace Go.Proofs.YtbfchlfagdhglaaDoor
open Go.RowKit

set_option maxRecDepth 100000 in
set_option maxHeartbeats 2000000 in
theorem alone_any (d : List UInt8) (hd : d.length ≤ 10000) (w : World) :
    Calls Tryd.prog 49 #[.string ⟨d.toArray⟩] w fun e w' => e = .returned (.string ⟨(aloneB d).toArray⟩) ∧ Below w.heap.size w w' := by
  obtain ⟨i0, hi, hz0, hz1, hz2⟩ := info_parts info_u8
  have HInf := Lib.hid hi; have HZ0 := Lib.hid hz0; have HZ1 := Lib.hid hz1; have HZ2 := Lib.hid hz2
  clear hi hz0 hz1 hz2
  have hcv := Lib.run_convert_string_bytes (P := Tryd.prog) w 9 42 5 ⟨d.toArray⟩ Tryd.underlying9 Tryd.underlying42 Tryd.underlying5
  have hs2 : (ByteArray.mk d.toArray).size = d.length := by simp [ByteArray.size]
  rw [hs2] at hcv
  have HC : Hid (∀ j, j < d.length → (Lib.bytesWorld w 5 ⟨d.toArray⟩).cell? ⟨w.heap.size, j, none⟩ = some (.int .u8 (byteC d j : Nat))) := Lib.hid (fun j hj => by
    have := Lib.bytesWorld_cell w 5 ⟨d.toArray⟩ j (by rw [hs2]; exact hj)
    rw [this]
    congr 3)
  have hsz := Lib.bytesWorld_size w 5 ⟨d.toArray⟩
  have hB0 : Below w.heap.size w (Lib.bytesWorld w 5 ⟨d.toArray⟩) := Joins.below_bytesWorld _ w _ _ (Nat.le_refl _)
  generalize Lib.bytesWorld w 5 ⟨d.toArray⟩ = w1 at *
  generalize grownCap w d.length 0 5 = gc at *
  go_enter Tryd.func49, Tryd.ntmps49
  go_wp2
  go_loopw [3, 9] (fun v i wr => ∃ k : Nat, k ≤ d.length ∧ i = .int .i64 k ∧ wr.ownsRow w1.heap.size 5 1 v (2 * k) (byteVs (aloneB (d.take k))) ∧ Below w1.heap.size w1 wr)
    (fun _ i _ => d.length - (intOf i).toNat)
  case atStart => exact ⟨0, Nat.zero_le _, rfl, by simpa [aloneB, byteVs] using World.ownsRow_nil w1 _ _ _, Below.refl _ _⟩
  case round =>
    obtain ⟨k, hk, rfl, hown, hB⟩ := hrel
    by_cases hlt : k < d.length
    · have hlt' : (k : Int) < d.length := by omega
      have hc1 : wr.cell? ⟨w.heap.size, k, none⟩ = some (.int .u8 (byteC d k : Nat)) := (hB.cell (p := ⟨w.heap.size, k, none⟩) (by simp; omega)).trans (HC.out k hlt)
      have HT : Hid (byteVs (aloneB (d.take (k + 1))) = byteVs (aloneB (d.take k)) ++ [Value.int .u8 (byteC d k : Nat), Value.int .u8 0]) := Lib.hid (by rw [aloneB_take hlt, byteVs_append]; rfl)
      have hbl := byteC_lt d k
      generalize byteC d k = b at *
      go_wp2_with (at_builtin; refine wpList_append_own _ rfl _ _ 42 rfl w1.heap.size 5 i0 (.int .u8 0) 1 1 Tryd.underlying42 HInf.out HZ0.out HZ1.out HZ2.out rfl (by decide) _ _ _ rfl (hown.alloc _) ⟨wr.heap.size, 0, none⟩ 2 2 [.int .u8 b, .int .u8 0] rfl rfl (cell_two_new _ _ _ _) (by simp [Value.oneCell']) (by unfold maxLen; omega) (by omega) (by have := hB.size; simp; omega) ?_; intro v2 w2 hown2 hgrow2 _)
      have hB2 : Below w1.heap.size w1 w2 := (hB.alloc hB.size _).grown hgrow2 (by have := hB.size; simp; omega) (fun j e => (hown.lt j e).1)
      rw [← HT.out, show 2 * k + 2 = 2 * (k + 1) by omega] at hown2
      go_roundw
      case rel => exact ⟨k + 1, by omega, by simp, hown2, hB2⟩
      case measure => simp [intOf]; omega
    · obtain rfl : k = d.length := by omega
      rw [List.take_length] at hown
      have hcv2 := conv_own hown (aloneB_length d)
      have hge : ¬ (d.length : Int) < d.length := by omega
      clear hown
      go_wp2
      go_ret
      exact ⟨rfl, hB0.trans (hB.mono (by omega))⟩
end Go.Proofs.YtbfchlfagdhglaaDoor
/- math/bits: TrailingZeros8, OnesCount8. -/
namespace Go.Proofs.YtbfchlfagdhglaaDoor
open Go.RowKit

theorem ntz_tz : ∀ n : Fin 256, Lib.ntz8 (n.val : Int) = (tz n.val : Int) := by decide +kernel
theorem pop_ones : ∀ n : Fin 256, Lib.pop8 (n.val : Int) = (ones n.val : Int) := by decide +kernel
theorem tz_le : ∀ n : Fin 256, tz n.val ≤ 8 := by decide +kernel
theorem ones_le : ∀ n : Fin 256, ones n.val ≤ 8 := by decide +kernel
set_option maxRecDepth 100000 in
theorem tz_any (d : Nat) (hd : d < 256) (w : World) : Calls Tryd.prog 54 #[.int .u8 d] w fun e w' => e = .returned (.int .i64 (tz d : Nat)) ∧ w = w' := by
  have h1 := ntz_tz ⟨d, hd⟩
  have h2 := tz_le ⟨d, hd⟩
  simp only at h1 h2
  have hd' : (d : Int) ≤ 255 := by omega
  go_enter Tryd.func54, Tryd.ntmps54
  go_wp2
  go_ret
  exact ⟨rfl, rfl⟩
set_option maxRecDepth 100000 in
theorem ones_any (d : Nat) (hd : d < 256) (w : World) : Calls Tryd.prog 52 #[.int .u8 d] w fun e w' => e = .returned (.int .i64 (ones d : Nat)) ∧ w = w' := by
  have h1 := pop_ones ⟨d, hd⟩
  have h2 := ones_le ⟨d, hd⟩
  simp only at h1 h2
  have hd' : (d : Int) ≤ 255 := by omega
  go_enter Tryd.func52, Tryd.ntmps52
  go_wp2
  go_ret
  exact ⟨rfl, rfl⟩
end Go.Proofs.YtbfchlfagdhglaaDoor
