import Derived.Shelf.SlIterI.Nil
import Derived.Shelf.SlIterI.Sorted
import Derived.Shelf.SortM.Plain
import Derived.Shelf.SortM.SortNone
import Derived.Ground.GgzProg
import Derived.Ground.SlgmProg
import Derived.Test.YtbfchlfagdhglaaProg
import Derived.Test.YtbfchlfagdhglaaChecked
import Derived.Test.YtbfchlfagdhglaaMG11
import Derived.Maps.OwnSet
import Derived.Maps.Keyed
import Derived.Test.YtbfchlfagdhglaaMG12
/- The library's functions that this layer calls, by the shelf's contracts at this program's numbers: slices.Sorted of maps.Keys of a map by whole numbers. -/
namespace Go.Proofs.Ytbfchlfagdhglaa
open Go.RowKit Go.Maps Go.Sort Go.Shelf
def keysA_ren : Go.Shelf.Ren := ⟨fun | 7 => 46 | 10 => 62 | n => n, fun | 23 => 74 | 26 => 3 | 3 => 81 | 28 => 78 | 0 => 0 | 27 => 77 | 33 => 104 | 4 => 4 | n => n, fun | n => n⟩
theorem keysA : Go.Proofs.SlLaysZI.n7 Try.prog keysA_ren := {
  mixed := by kernel_rfl
  f7 := ⟨Try.f46.name, by decide, Try.func46.trans (congrArg some (by kernel_rfl))⟩
  f10 := ⟨Try.f62.name, by decide, Try.func62.trans (congrArg some (by kernel_rfl))⟩
  t0 := Try.underlying0
  a0 := Try.isAgg0
  z0 := Try.sizeOf0
  v0 := Try.zeroValue0
  t4 := Try.underlying4
  a4 := Try.isAgg4
  z4 := Try.sizeOf4
  v4 := Try.zeroValue4
  t23 := Try.underlying74
  a23 := Try.isAgg74
  z23 := Try.sizeOf74
  v23 := Try.zeroValue74
  t26 := Try.underlying3
  a26 := Try.isAgg3
  z26 := Try.sizeOf3
  v26 := Try.zeroValue3
  t27 := Try.underlying77
  a27 := Try.isAgg77
  z27 := Try.sizeOf77
  v27 := Try.zeroValue77
  t28 := Try.underlying78
  a28 := Try.isAgg78
  z28 := Try.sizeOf78
  v28 := Try.zeroValue78
  t33 := Try.underlying104
  a33 := Try.isAgg104
  z33 := Try.sizeOf104
  v33 := Try.zeroValue104 }
def sortedA_ren : Go.Shelf.Ren := ⟨fun | 6 => 45 | 8 => 60 | 9 => 61 | 11 => 77 | 13 => 79 | 12 => 78 | 23 => 94 | 24 => 95 | 14 => 85 | 15 => 86 | 16 => 87 | 17 => 88 | 18 => 89 | 19 => 90 | 20 => 91 | 21 => 92 | 22 => 93 | 25 => 97 | 26 => 98 | 27 => 99 | 28 => 100 | 29 => 101 | 30 => 102 | 31 => 103 | n => n, fun | 26 => 3 | 28 => 78 | 24 => 25 | 0 => 0 | 3 => 3 | 37 => 87 | 48 => 134 | 50 => 86 | 4 => 4 | 40 => 127 | 39 => 126 | 45 => 33 | 5 => 5 | 9 => 9 | 51 => 137 | 55 => 141 | 57 => 143 | 58 => 144 | 33 => 104 | n => n, fun | n => n⟩
theorem sortedA : Go.Proofs.SlLaysZI.n6 Try.prog sortedA_ren := {
  mixed := by kernel_rfl
  f6 := ⟨Try.f45.name, by decide, Try.func45.trans (congrArg some (by kernel_rfl))⟩
  f8 := ⟨Try.f60.name, by decide, Try.func60.trans (congrArg some (by kernel_rfl))⟩
  f11 := ⟨Try.f77.name, by decide, Try.func77.trans (congrArg some (by kernel_rfl))⟩
  t0 := Try.underlying0
  a0 := Try.isAgg0
  z0 := Try.sizeOf0
  v0 := Try.zeroValue0
  t24 := Try.underlying25
  a24 := Try.isAgg25
  z24 := Try.sizeOf25
  v24 := Try.zeroValue25
  t26 := Try.underlying3
  a26 := Try.isAgg3
  z26 := Try.sizeOf3
  v26 := Try.zeroValue3
  t28 := Try.underlying78
  a28 := Try.isAgg78
  z28 := Try.sizeOf78
  v28 := Try.zeroValue78
  i26 := by kernel_rfl }
def sortA_ren : Go.Shelf.Ren := ⟨fun | 5 => 61 | 8 => 79 | 7 => 78 | 19 => 94 | 20 => 95 | 10 => 85 | 11 => 86 | 12 => 87 | 13 => 88 | 14 => 89 | 15 => 90 | 16 => 91 | 17 => 92 | 18 => 93 | 30 => 97 | 31 => 98 | 32 => 99 | 33 => 100 | 34 => 101 | 35 => 102 | 40 => 103 | n => n, fun | 23 => 25 | 25 => 3 | 3 => 3 | 32 => 87 | 22 => 25 | 0 => 0 | 44 => 134 | 46 => 86 | 4 => 4 | 36 => 127 | 35 => 126 | 41 => 33 | 5 => 5 | 9 => 9 | 53 => 137 | 57 => 141 | 63 => 143 | 64 => 144 | n => n, fun | n => n⟩
theorem sortA : Go.Proofs.SlLaysM.n5 Try.prog sortA_ren := {
  mixed := by kernel_rfl
  f5 := ⟨Try.f61.name, by decide, Try.func61.trans (congrArg some (by kernel_rfl))⟩
  f7 := ⟨Try.f78.name, by decide, Try.func78.trans (congrArg some (by kernel_rfl))⟩
  f8 := Try.func79.trans (congrArg some (by kernel_rfl))
  f10 := ⟨Try.f85.name, by decide, Try.func85.trans (congrArg some (by kernel_rfl))⟩
  f11 := ⟨Try.f86.name, by decide, Try.func86.trans (congrArg some (by kernel_rfl))⟩
  f12 := ⟨Try.f87.name, by decide, Try.func87.trans (congrArg some (by kernel_rfl))⟩
  f13 := ⟨Try.f88.name, by decide, Try.func88.trans (congrArg some (by kernel_rfl))⟩
  f14 := ⟨Try.f89.name, by decide, Try.func89.trans (congrArg some (by kernel_rfl))⟩
  f15 := ⟨Try.f90.name, by decide, Try.func90.trans (congrArg some (by kernel_rfl))⟩
  f16 := ⟨Try.f91.name, by decide, Try.func91.trans (congrArg some (by kernel_rfl))⟩
  f17 := ⟨Try.f92.name, by decide, Try.func92.trans (congrArg some (by kernel_rfl))⟩
  f18 := ⟨Try.f93.name, by decide, Try.func93.trans (congrArg some (by kernel_rfl))⟩
  f19 := Try.func94.trans (congrArg some (by kernel_rfl))
  f20 := Try.func95.trans (congrArg some (by kernel_rfl))
  f30 := ⟨Try.f97.name, by decide, Try.func97.trans (congrArg some (by kernel_rfl))⟩
  f31 := Try.func98.trans (congrArg some (by kernel_rfl))
  f32 := Try.func99.trans (congrArg some (by kernel_rfl))
  f33 := ⟨Try.f100.name, by decide, Try.func100.trans (congrArg some (by kernel_rfl))⟩
  f34 := ⟨Try.f101.name, by decide, Try.func101.trans (congrArg some (by kernel_rfl))⟩
  f35 := ⟨Try.f102.name, by decide, Try.func102.trans (congrArg some (by kernel_rfl))⟩
  f40 := ⟨Try.f103.name, by decide, Try.func103.trans (congrArg some (by kernel_rfl))⟩
  t0 := Try.underlying0
  a0 := Try.isAgg0
  z0 := Try.sizeOf0
  v0 := Try.zeroValue0
  t3 := Try.underlying3
  a3 := Try.isAgg3
  z3 := Try.sizeOf3
  v3 := Try.zeroValue3
  t4 := Try.underlying4
  a4 := Try.isAgg4
  z4 := Try.sizeOf4
  v4 := Try.zeroValue4
  t5 := Try.underlying5
  a5 := Try.isAgg5
  z5 := Try.sizeOf5
  v5 := Try.zeroValue5
  t9 := Try.underlying9
  a9 := Try.isAgg9
  z9 := Try.sizeOf9
  v9 := Try.zeroValue9
  t22 := Try.underlying25
  a22 := Try.isAgg25
  z22 := Try.sizeOf25
  v22 := Try.zeroValue25
  t23 := Try.underlying25
  a23 := Try.isAgg25
  z23 := Try.sizeOf25
  v23 := Try.zeroValue25
  t25 := Try.underlying3
  a25 := Try.isAgg3
  z25 := Try.sizeOf3
  v25 := Try.zeroValue3
  t32 := Try.underlying87
  a32 := Try.isAgg87
  z32 := Try.sizeOf87
  v32 := Try.zeroValue87
  t35 := Try.underlying126
  a35 := Try.isAgg126
  z35 := Try.sizeOf126
  v35 := Try.zeroValue126
  t36 := Try.underlying127
  a36 := Try.isAgg127
  z36 := Try.sizeOf127
  v36 := Try.zeroValue127
  t41 := Try.underlying33
  a41 := Try.isAgg33
  z41 := Try.sizeOf33
  v41 := Try.zeroValue33
  t44 := Try.underlying134
  a44 := Try.isAgg134
  z44 := Try.sizeOf134
  v44 := Try.zeroValue134
  t46 := Try.underlying86
  a46 := Try.isAgg86
  z46 := Try.sizeOf86
  v46 := Try.zeroValue86
  t53 := Try.underlying137
  a53 := Try.isAgg137
  z53 := Try.sizeOf137
  v53 := Try.zeroValue137
  t57 := Try.underlying141
  a57 := Try.isAgg141
  z57 := Try.sizeOf141
  v57 := Try.zeroValue141
  t63 := Try.underlying143
  a63 := Try.isAgg143
  z63 := Try.sizeOf143
  v63 := Try.zeroValue143
  t64 := Try.underlying144
  a64 := Try.isAgg144
  z64 := Try.sizeOf144
  v64 := Try.zeroValue144 }

/-- slices.Sort's two contracts at this program. -/
theorem sortsA (m : Nat) : AnyZI.SortsIn Try.prog sortedA_ren Fence.wide m :=
  ⟨fun blk off cap ss W hH hblk hsz => callsIn_wide.2 (AnyM.slices_Sort_int sortA blk off cap ss W hH hblk hsz),
   fun p cap W => callsIn_wide.2 (AnyM.slices_Sort_int_none sortA p cap W)⟩
end Go.Proofs.Ytbfchlfagdhglaa
/- Two bitmaps' containers of one key: a map by whole numbers, as mathematics and in memory. -/
namespace Go.Proofs.Ytbfchlfagdhglaa
open Go.RowKit

abbrev CI := Int × List UInt8
def pairV (p : CI × CI) : Value := .agg #[.int .i64 p.1.1, .string ⟨p.1.2.toArray⟩, .int .i64 p.2.1, .string ⟨p.2.2.toArray⟩]
def zeroP : CI × CI := ((0, []), (0, []))
/-- How a pair in the map is read: as it is. -/
def pairR (v : Value) : Option (DataW Value × List MemPlace) := some (.held v, [])
/-- The map D has the pairs that g says. -/
structure MapIs (D : DataW Value) (g : Int → Option (CI × CI)) : Prop where
  map : Maps.IsMap D
  has : ∀ key : Int, Maps.has D (.int .i64 key) = (g key).isSome
  at_ : ∀ (key : Int) (p : CI × CI), g key = some p → ∀ z, D.atKey (.int .i64 key) z = .held (pairV p)
theorem MapIs.start : MapIs (.map []) fun _ => none := ⟨⟨_, rfl⟩, fun _ => rfl, fun _ _ h => by cases h⟩
theorem key_ne {a b : Int} (h : a ≠ b) : Lit.int .i64 a ≠ Lit.int .i64 b := fun e => h (by injection e)
theorem MapIs.put {D : DataW Value} {g : Int → Option (CI × CI)} (h : MapIs D g) (key : Int) (p : CI × CI) : MapIs (D.put (.int .i64 key) (.held (pairV p))) fun k => if k = key then some p else g k := by
  refine ⟨h.map.put _ _, fun k => ?_, fun k q hq z => ?_⟩
  · by_cases e : k = key
    · subst e
      rw [if_pos rfl]
      exact Maps.has_put_same h.map (show WideAt.IsKeyLit (.int .i64 k) from trivial) _
    · rw [if_neg e, ← h.has k]
      exact Maps.has_put_other (key_ne e) _
  · by_cases e : k = key
    · subst e
      rw [if_pos rfl] at hq
      cases hq
      exact Maps.atKey_put_same h.map (show WideAt.IsKeyLit (.int .i64 k) from trivial) _ _
    · rw [if_neg e] at hq
      rw [Maps.atKey_put_other (key_ne e)]
      exact h.at_ k q hq z
theorem MapIs.congr {D : DataW Value} {g g' : Int → Option (CI × CI)} (h : MapIs D g) (e : ∀ k, g k = g' k) : MapIs D g' := by
  have : g = g' := funext e
  rwa [← this]
theorem in_wf {key : Int} (h1 : -9223372036854775808 ≤ key) (h2 : key ≤ 9223372036854775807) : (Lit.int .i64 key).wf = true := by
  simp [Lit.wf, IntKind.min, IntKind.max, IntKind.bits, IntKind.signed]; omega
theorem key_of {key : Int} (h1 : -9223372036854775808 ≤ key) (h2 : key ≤ 9223372036854775807) : keyOf Try.prog 3 (.int .i64 key) = some (.int .i64 key) := by
  have := in_wf h1 h2
  simp [keyOf, mapKey, Try.underlying3, this]
theorem zero_pair (w : World) : (zeroValue 81).run Try.prog w = .ok (pairV zeroP) w := Try.zeroValue81 w
set_option maxRecDepth 100000 in
theorem look_pair {w : World} {M n : Nat} {D : DataW Value} {g : Int → Option (CI × CI)} (h : w.ownsMap Try.prog 3 pairR M n D) (hm : MapIs D g) {key : Int} (h1 : -9223372036854775808 ≤ key) (h2 : key ≤ 9223372036854775807) :
    (Instr.lookup 74 (.map (some M)) (.int .i64 key) true).run Try.prog w = .ok (.tuple #[pairV ((g key).getD zeroP), .bool (g key).isSome]) w := by
  obtain ⟨v, ps, hrun, hv⟩ := h.look_ok (t := 74) (e := 81) (Maps.int_keyed Try.underlying3) Try.underlying74 (zero_pair w) (zd := .held (pairV zeroP)) (zp := []) rfl (key_of h1 h2)
  have hv' : DataW.held v = D.atKey (.int .i64 key) (.held (pairV zeroP)) := by
    unfold pairR at hv
    injection hv with hv
    injection hv
  rw [hrun, hm.has key]
  cases e : g key with
  | none =>
    rw [Maps.atKey_of_not_has (by rw [hm.has key, e]; rfl)] at hv'
    injection hv' with hv'
    rw [hv']; rfl
  | some p =>
    rw [hm.at_ key p e] at hv'
    injection hv' with hv'
    rw [hv']; rfl
set_option maxRecDepth 100000 in
theorem look_pair1 {w : World} {M n : Nat} {D : DataW Value} {g : Int → Option (CI × CI)} (h : w.ownsMap Try.prog 3 pairR M n D) (hm : MapIs D g) {key : Int} (h1 : -9223372036854775808 ≤ key) (h2 : key ≤ 9223372036854775807) :
    (Instr.lookup 74 (.map (some M)) (.int .i64 key) false).run Try.prog w = .ok (pairV ((g key).getD zeroP)) w := by
  obtain ⟨v, ps, hrun, hv⟩ := h.lookup (t := 74) (e := 81) (Maps.int_keyed Try.underlying3) Try.underlying74 (zero_pair w) (zd := .held (pairV zeroP)) (zp := []) rfl (key_of h1 h2)
  have hv' : DataW.held v = D.atKey (.int .i64 key) (.held (pairV zeroP)) := by
    unfold pairR at hv
    injection hv with hv
    injection hv
  rw [hrun]
  cases e : g key with
  | none =>
    rw [Maps.atKey_of_not_has (by rw [hm.has key, e]; rfl)] at hv'
    injection hv' with hv'
    rw [hv']; rfl
  | some p =>
    rw [hm.at_ key p e] at hv'
    injection hv' with hv'
    rw [hv']; rfl
theorem put_pair {w : World} {M n : Nat} {D : DataW Value} {g : Int → Option (CI × CI)} (h : w.ownsMap Try.prog 3 pairR M n D) (hm : MapIs D g) (hn : n < 1000) {key : Int} (h1 : -9223372036854775808 ≤ key) (h2 : key ≤ 9223372036854775807) (p : CI × CI) :
    ∃ w', (Instr.mapUpdate 74 (.map (some M)) (.int .i64 key) (pairV p)).run Try.prog w = .ok () w' ∧ w'.ownsMap Try.prog 3 pairR M (n + 1) (D.put (.int .i64 key) (.held (pairV p))) ∧ MapIs (D.put (.int .i64 key) (.held (pairV p))) (fun k => if k = key then some p else g k) ∧ w.grownBy w' (some M) := by
  obtain ⟨w', hrun, h3, h4⟩ := h.update (t := 74) (e := 81) (Maps.int_keyed Try.underlying3) Try.underlying74 (by unfold maxLen; omega) (key_of h1 h2) (d := .held (pairV p)) (ps := []) rfl
  exact ⟨w', hrun, h3, hm.put key p, h4⟩

/-! ### What is merged -/
def getC (r : List Ch) (key : Int) : Option CI := (r.find? fun c => decide (c.1 = key)).map (·.2)
theorem getC_snoc (r : List Ch) (c : Ch) (hn : getC r c.1 = none) (key : Int) : getC (r ++ [c]) key = if key = c.1 then some c.2 else getC r key := by
  unfold getC at hn ⊢
  rw [List.find?_append]
  by_cases e : key = c.1
  · subst e
    rw [if_pos rfl]
    cases h : r.find? fun d => decide (d.1 = c.1) with
    | some d => rw [h] at hn; cases hn
    | none => simp
  · rw [if_neg e]
    have : [c].find? (fun d => decide (d.1 = key)) = none := by simp; omega
    rw [this, Option.or_none]
theorem getC_none {r : List Ch} {key : Int} (h : ∀ c ∈ r, c.1 ≠ key) : getC r key = none := by
  unfold getC
  rw [List.find?_eq_none.2 (fun c hc => by simp [h c hc])]; rfl
theorem getC_take {r : List Ch} (h : r.Pairwise fun a b => a.1 < b.1) {k : Nat} (hk : k < r.length) : getC (r.take k) (r.getD k noCh).1 = none := by
  refine getC_none fun c hc => ?_
  obtain ⟨j, hj, rfl⟩ := List.mem_iff_getElem.1 hc
  rw [List.length_take] at hj
  rw [List.getElem_take, getD_get hk]
  have := List.pairwise_iff_getElem.1 h j k (by omega) hk (by omega)
  omega
theorem getC_mem {r : List Ch} (h : r.Pairwise fun a b => a.1 < b.1) {c : Ch} (hc : c ∈ r) : getC r c.1 = some c.2 := by
  induction r with
  | nil => cases hc
  | cons d r ih =>
    have h1 := List.pairwise_cons.1 h
    unfold getC
    rcases List.mem_cons.1 hc with rfl | hc
    · simp
    · have := h1.1 c hc
      rw [List.find?_cons_of_neg (by simp; omega)]
      exact ih h1.2 hc
theorem getC_some {r : List Ch} {key : Int} {p : CI} (h : getC r key = some p) : (key, p) ∈ r := by
  unfold getC at h
  cases e : r.find? fun c => decide (c.1 = key) with
  | none => rw [e] at h; cases h
  | some c =>
    rw [e] at h
    cases h
    have h1 := List.find?_some e
    have h2 := List.mem_of_find?_eq_some e
    simp only [decide_eq_true_eq] at h1
    subst h1
    exact h2
/-- The container of no numbers, in place of one that is lacking. -/
def noneC : CI := (1, [])
def both (x y : Option CI) : Option (CI × CI) := match x, y with | none, none => none | x, y => some (x.getD noneC, y.getD noneC)
theorem both_some_left (p : CI) (y : Option CI) : both (some p) y = some (p, y.getD noneC) := by cases y <;> rfl
theorem both_none_some (p : CI) : both none (some p) = some (noneC, p) := rfl
theorem both_none_right (x : Option CI) : both x none = x.map fun p => (p, noneC) := by cases x <;> rfl
theorem both_isSome (x y : Option CI) : (both x y).isSome = (x.isSome || y.isSome) := by cases x <;> cases y <;> rfl
end Go.Proofs.Ytbfchlfagdhglaa
/- roar.merged. -/
namespace Go.Proofs.Ytbfchlfagdhglaa
open Go.RowKit

theorem map_under {A B : World} {M n : Nat} {D : DataW Value} (h : A.ownsMap Try.prog 3 pairR M n D) (hb : Below A.heap.size A B) : B.ownsMap Try.prog 3 pairR M n D := by
  have hlt := h.lt
  obtain ⟨es, clock, h0, h1⟩ := h
  exact ⟨es, clock, (hb.block M hlt).trans h0, h1⟩
/-- The map, and the two bitmaps' boxes. -/
def MgI (w : World) (sa sb : Value) (M n : Nat) (g : Int → Option (CI × CI)) (W : World) : Prop := (∃ D, MapIs D g ∧ W.ownsMap Try.prog 3 pairR M n D) ∧ (Blk W w.heap.size 24 #[sa] ∧ Blk W (w.heap.size + 1) 24 #[sb]) ∧ Below w.heap.size w W
theorem MgI.under {w A B : World} {sa sb : Value} {M n : Nat} {g : Int → Option (CI × CI)} (h : MgI w sa sb M n g A) (hb : Below A.heap.size A B) : MgI w sa sb M n g B := by
  obtain ⟨⟨D, h1, h2⟩, ⟨h3, h4⟩, h5⟩ := h
  exact ⟨⟨D, h1, map_under h2 hb⟩, ⟨h3.under hb, h4.under hb⟩, h5.trans (hb.mono h5.size)⟩
theorem MgI.congr {w A : World} {sa sb : Value} {M n : Nat} {g g' : Int → Option (CI × CI)} (h : MgI w sa sb M n g A) (e : ∀ k, g k = g' k) : MgI w sa sb M n g' A := by
  have : g = g' := funext e
  rwa [← this]
/-- .. and a chunk's box. -/
def MgS (w : World) (sa sb : Value) (M n gb : Nat) (c : Ch) (g : Int → Option (CI × CI)) (W : World) : Prop := MgI w sa sb M n g W ∧ Blk W gb 54 #[.int .i64 c.1, .int .i64 c.2.1, .string ⟨c.2.2.toArray⟩]
theorem MgS.under {w A B : World} {sa sb : Value} {M n gb : Nat} {c : Ch} {g : Int → Option (CI × CI)} (h : MgS w sa sb M n gb c g A) (hb : Below A.heap.size A B) : MgS w sa sb M n gb c g B := ⟨h.1.under hb, h.2.under hb⟩
theorem MgS.held {w A : World} {sa sb : Value} {M n gb : Nat} {c : Ch} {g : Int → Option (CI × CI)} (h : MgS w sa sb M n gb c g A) : A.cell? ⟨gb, 0, none⟩ = some (.int .i64 c.1) ∧ A.cell? ⟨gb, 1, none⟩ = some (.int .i64 c.2.1) ∧ A.cell? ⟨gb, 2, none⟩ = some (.string ⟨c.2.2.toArray⟩) ∧ MgS w sa sb M n gb c g A := ⟨h.2.cell 0, h.2.cell 1, h.2.cell 2, h⟩
/-- The map turned, nothing else. -/
theorem MgI.turn {w A B : World} {sa sb : Value} {M n : Nat} {g g' : Int → Option (CI × CI)} {D : DataW Value} (h : MgI w sa sb M n g A) (hM : w.heap.size + 1 < M) (hg : A.grownBy B (some M)) (ho : B.ownsMap Try.prog 3 pairR M (n + 1) D) (hm : MapIs D g') : MgI w sa sb M (n + 1) g' B := by
  obtain ⟨_, ⟨h3, h4⟩, h5⟩ := h
  exact ⟨⟨D, hm, ho⟩, ⟨(hg.block _ h3.lt (fun e => by cases e; omega)).trans h3, (hg.block _ h4.lt (fun e => by cases e; omega)).trans h4⟩, h5.grown hg h5.size (fun k e => by cases e; omega)⟩
theorem MgI.far {w A : World} {sa sb : Value} {M n : Nat} {g : Int → Option (CI × CI)} (h : MgI w sa sb M n g A) {a : Addr} (ha : w.heap.size + 1 < a.block) (hM : M ≠ a.block) (u : Value) : MgI w sa sb M n g (A.setCell a u) := by
  obtain ⟨⟨D, h1, h2⟩, ⟨h3, h4⟩, h5⟩ := h
  exact ⟨⟨D, h1, h2.setCell hM u⟩, ⟨h3.far (by omega) u, h4.far (by omega) u⟩, h5.setCell (by omega) u⟩
theorem MgI.size {w A : World} {sa sb : Value} {M n : Nat} {g : Int → Option (CI × CI)} (h : MgI w sa sb M n g A) : w.heap.size + 1 < A.heap.size := h.2.1.2.lt

/-- What merged answers. -/
def MgR (w : World) (g : Int → Option (CI × CI)) (e : Ending) (w' : World) : Prop := ∃ M n D, e = .returned (.map (some M)) ∧ w.heap.size ≤ M ∧ w'.ownsMap Try.prog 3 pairR M n D ∧ n ≤ 512 ∧ MapIs D g ∧ Below w.heap.size w w'

theorem both_take1 {a : List Ch} (ha : Rises a) {k : Nat} (hk : k < a.length) (key : Int) : (if key = (a.getD k noCh).1 then some ((a.getD k noCh).2, noneC) else both (getC (a.take k) key) none) = both (getC (a.take (k + 1)) key) none := by
  rw [take_succ_getD hk, getC_snoc _ _ (getC_take ha.asc hk)]
  split
  · rfl
  · rfl
theorem both_take2 {a b : List Ch} (hb : Rises b) {k : Nat} (hk : k < b.length) (key : Int) : (if key = (b.getD k noCh).1 then some ((getC a (b.getD k noCh).1).getD noneC, (b.getD k noCh).2) else both (getC a key) (getC (b.take k) key)) = both (getC a key) (getC (b.take (k + 1)) key) := by
  rw [take_succ_getD hk, getC_snoc _ _ (getC_take hb.asc hk)]
  split
  · rename_i e
    rw [e]
    cases getC a (b.getD k noCh).1 <;> rfl
  · rfl

set_option maxRecDepth 100000 in
set_option maxHeartbeats 4000000 in
theorem merged_any (x : Option Addr) (len cap : Nat) (a : List Ch) (ha : RightZ a) (y : Option Addr) (len2 cap2 : Nat) (b : List Ch) (hb : RightZ b) (w : World) (hA : Chs w.heap.size w (.slice x len cap) a) (hB : Chs w.heap.size w (.slice y len2 cap2) b) :
    Calls Try.prog 44 #[.agg #[.slice x len cap], .agg #[.slice y len2 cap2]] w (MgR w fun key => both (getC a key) (getC b key)) := by
  have hmm := @run_makeMap Try.prog
  have ra := right_rises ha
  have rb := right_rises hb
  have la := hA.len
  have lb := hB.len
  have hl1 := ha.1
  have hl2 := hb.1
  have HRa := Lib.hid ra; have HRb := Lib.hid rb; have HA := Lib.hid hA; have HB := Lib.hid hB; have HLa := Lib.hid la; have HLb := Lib.hid lb
  have hlen : len ≤ 256 := by omega
  have hlen2 : len2 ≤ 256 := by omega
  obtain ⟨sa, hsa⟩ : ∃ v, v = Value.slice x len cap := ⟨_, rfl⟩
  obtain ⟨sb, hsb⟩ : ∃ v, v = Value.slice y len2 cap2 := ⟨_, rfl⟩
  have HI0 : Hid (MgI w (.slice x len cap) (.slice y len2 cap2) (w.heap.size + 1 + 1) 0 (fun key => both (getC (a.take 0) key) none) (((w.alloc (.cells #[.slice x len cap] 24)).alloc (.cells #[.slice y len2 cap2] 24)).alloc (.map #[] 0))) := Lib.hid (by
    have h1 := Blk.new (w.alloc (.cells #[.slice x len cap] 24)) 24 #[.slice y len2 cap2]
    rw [World.size_alloc] at h1
    have h2 := World.ownsMap_made ((w.alloc (.cells #[.slice x len cap] 24)).alloc (.cells #[.slice y len2 cap2] 24)) Try.prog 3 pairR
    rw [World.size_alloc, World.size_alloc] at h2
    exact ⟨⟨_, MapIs.start, h2⟩, ⟨((Blk.new w _ _).alloc _).alloc _, h1.alloc _⟩, (((Below.refl _ w).alloc (Nat.le_refl _) _).alloc (by simp) _).alloc (by simp; omega) _⟩)
  clear ra rb la lb hl1 hl2 hA hB ha hb hsa hsb
  go_enter Try.func44, Try.ntmps44
  go_wp2
  generalize (((w.alloc (.cells #[.slice x len cap] 24)).alloc (.cells #[.slice y len2 cap2] 24)).alloc (.map #[] 0)) = W0 at *
  go_loopw [16] (fun i wr => ∃ k : Nat, k ≤ len ∧ i = .int .i64 k ∧ MgI w (.slice x len cap) (.slice y len2 cap2) (w.heap.size + 1 + 1) k (fun key => both (getC (a.take k) key) none) wr)
    (fun i _ => len - (intOf i).toNat)
  case atStart => exact ⟨0, Nat.zero_le _, rfl, HI0.out⟩
  case round =>
    obtain ⟨k, hk, rfl, hI⟩ := hrel
    clear HI0
    by_cases hlt : k < len
    · have hlt' : (k : Int) < len := by omega
      obtain ⟨b0, o0, rfl, hb0, hd0⟩ := HA.out.at_ hlt
      obtain ⟨d0, d1, d2⟩ := hd0.below hI.2.2 hb0
      have hkl : k < a.length := by rw [HLa.out]; exact hlt
      have hkey := HRa.out.key (a.getD k noCh) (by rw [getD_get hkl]; exact List.getElem_mem hkl)
      have HEq := Lib.hid (both_take1 HRa.out hkl)
      have HS0 : Hid (MgS w (.slice (some ⟨b0, o0, none⟩) len cap) (.slice y len2 cap2) (w.heap.size + 1 + 1) k wr.heap.size (a.getD k noCh) (fun key => both (getC (a.take k) key) none) (wr.alloc (.cells #[.int .i64 (a.getD k noCh).1, .int .i64 (a.getD k noCh).2.1, .string ⟨(a.getD k noCh).2.2.toArray⟩] 54))) := Lib.hid ⟨hI.under ((Below.refl _ _).alloc (Nat.le_refl _) _), Blk.new _ _ _⟩
      have hk1 : -9223372036854775808 ≤ (a.getD k noCh).1 := by omega
      have hk2 : (a.getD k noCh).1 ≤ 9223372036854775807 := by omega
      clear hI hd0 hkl hkey
      generalize a.getD k noCh = c at *
      obtain ⟨ck, f, d⟩ := c
      dsimp only at *
      go_wp2
      generalize wr.heap.size = g at *
      generalize wr.alloc (.cells #[.int .i64 ck, .int .i64 f, .string ⟨d.toArray⟩] 54) = W1 at *
      refine wp_region_M (m := 7) (S := fun W => W.cell? ⟨g, 0, none⟩ = some (.int .i64 ck) ∧ W.cell? ⟨g, 1, none⟩ = some (.int .i64 f) ∧ W.cell? ⟨g, 2, none⟩ = some (.string ⟨d.toArray⟩) ∧ MgS w (.slice (some ⟨b0, o0, none⟩) len cap) (.slice y len2 cap2) (w.heap.size + 1 + 1) k g (ck, f, d) (fun key => both (getC (a.take k) key) none) W) (by kernel_rfl) ((HS0.out.under ((Below.refl _ _).drew)).held) (fun hH => ?_)
      refine wpAnyM_take (by kernel_rfl) (i := 0) (by decide) (oi := { dst := some 20, op := Go.Op.move (Go.Operand.tmp 5), type := 74, pos := "roar.go:236", after := #[], guard := none }) (v := ?_) rfl (by kernel_rfl) (by kernel_rfl) (by kernel_rfl) (fun _ _ _ h => h) (Or.inl ⟨by rfl, ?_⟩) hH ?_
      rotate_left
      · intro w hSw; (try dsimp only at hSw); go_simp; try with_reducible rfl
      try simp only [Act.put, List.setIfInBounds_toArray, List.set_cons_zero, List.set_cons_succ]
      refine wpAnyM_take (by kernel_rfl) (i := 1) (by decide) (oi := { dst := some 21, op := Go.Op.fieldAddr 54 (Go.Operand.tmp 7) 0, type := 0, pos := "roar.go:236", after := #[], guard := none }) (v := ?_) rfl (by kernel_rfl) (by kernel_rfl) (by kernel_rfl) (fun _ _ _ h => h) (Or.inl ⟨by rfl, ?_⟩) hH ?_
      rotate_left
      · intro w hSw; (try dsimp only at hSw); go_simp; try with_reducible rfl
      try simp only [Act.put, List.setIfInBounds_toArray, List.set_cons_zero, List.set_cons_succ]
      refine wpAnyM_take (by kernel_rfl) (i := 2) (by decide) (oi := { dst := some 22, op := Go.Op.load 3 (Go.Operand.tmp 21), type := 3, pos := "roar.go:236", after := #[{ on := 1, ground := Go.Ground.data }], guard := none }) (v := ?_) rfl (by kernel_rfl) (by kernel_rfl) (by kernel_rfl) (fun _ _ _ h => h) (Or.inl ⟨by rfl, ?_⟩) hH ?_
      rotate_left
      · intro w hSw; (try dsimp only at hSw); go_simp; try with_reducible rfl
      try simp only [Act.put, List.setIfInBounds_toArray, List.set_cons_zero, List.set_cons_succ]
      refine wpAnyM_take (by kernel_rfl) (i := 3) (by decide) (oi := { dst := some 23, op := Go.Op.fieldAddr 54 (Go.Operand.tmp 7) 1, type := 0, pos := "roar.go:236", after := #[], guard := none }) (v := ?_) rfl (by kernel_rfl) (by kernel_rfl) (by kernel_rfl) (fun _ _ _ h => h) (Or.inl ⟨by rfl, ?_⟩) hH ?_
      rotate_left
      · intro w hSw; (try dsimp only at hSw); go_simp; try with_reducible rfl
      try simp only [Act.put, List.setIfInBounds_toArray, List.set_cons_zero, List.set_cons_succ]
      refine wpAnyM_take (by kernel_rfl) (i := 4) (by decide) (oi := { dst := some 24, op := Go.Op.load 52 (Go.Operand.tmp 23), type := 52, pos := "roar.go:236", after := #[{ on := 3, ground := Go.Ground.data }], guard := none }) (v := ?_) rfl (by kernel_rfl) (by kernel_rfl) (by kernel_rfl) (fun _ _ _ h => h) (Or.inl ⟨by rfl, ?_⟩) hH ?_
      rotate_left
      · intro w hSw; (try dsimp only at hSw); go_simp; try with_reducible rfl
      try simp only [Act.put, List.setIfInBounds_toArray, List.set_cons_zero, List.set_cons_succ]
      refine wpAnyM_one (i := 5) (by decide) (o := { dst := some 25, op := Go.Op.call { callee := Go.Callee.value (Go.Operand.func 43), args := #[], argTypes := #[] }, type := 52, pos := "roar.go:236", after := #[], guard := none }) (by kernel_rfl) rfl (fun K hK => ?_)
      go_simp
      go_at_call 43
      refine (nothing_any _).mono ?_
      rintro e w5 ⟨rfl, hb5⟩
      first | refine hK.out _ _ ((hH.2.2.2.under hb5).held) (fun hH5 => ?_) | (go_wp2_with fail; refine hK.out _ _ ((hH.2.2.2.under hb5).held) (fun hH5 => ?_))
      clear hK K hH
      try simp only [Act.put, List.setIfInBounds_toArray, List.set_cons_zero, List.set_cons_succ]
      refine wpAnyM_take (by kernel_rfl) (i := 6) (by decide) (oi := { dst := some 26, op := Go.Op.build 81 #[(0, Go.Operand.tmp 24), (1, Go.Operand.tmp 25)], type := 81, pos := "roar.go:236", after := #[{ on := 4, ground := Go.Ground.data }, { on := 5, ground := Go.Ground.data }], guard := none }) (v := ?_) rfl (by kernel_rfl) (by kernel_rfl) (by kernel_rfl) (fun _ _ _ h => h) (Or.inl ⟨by rfl, ?_⟩) hH5 ?_
      rotate_left
      · intro w hSw; (try dsimp only at hSw); go_simp; try with_reducible rfl
      try simp only [Act.put, List.setIfInBounds_toArray, List.set_cons_zero, List.set_cons_succ]
      obtain ⟨D5, hm5, hown5⟩ := hH5.2.2.2.1.1
      obtain ⟨w6, hrun, hown6, hm6, hgr6⟩ := put_pair hown5 hm5 (by omega) hk1 hk2 ((f, d), ((1 : Int), ([] : List UInt8)))
      unfold pairV at hrun
      dsimp only at hrun
      have HM6 := Lib.hid hm6
      have HO6 := Lib.hid hown6
      clear hm5 hown5 hm6 hown6
      refine wpAnyM_last (by kernel_rfl) (o := { dst := none, op := Go.Op.mapUpdate 74 (Go.Operand.tmp 20) (Go.Operand.tmp 22) (Go.Operand.tmp 26), type := 0, pos := "roar.go:236", after := #[{ on := 0, ground := Go.Ground.data }, { on := 2, ground := Go.Ground.data }, { on := 6, ground := Go.Ground.data }, { on := 5, ground := Go.Ground.chain }, { on := 0, ground := Go.Ground.phase }, { on := 1, ground := Go.Ground.phase }, { on := 2, ground := Go.Ground.phase }, { on := 3, ground := Go.Ground.phase }, { on := 4, ground := Go.Ground.phase }, { on := 5, ground := Go.Ground.phase }, { on := 6, ground := Go.Ground.phase }], guard := none }) rfl (by kernel_rfl) (fun K hK => ?_)
      go_simp
      refine hK.out _ _ ?_
      clear hK K
      try simp only [Act.put, List.setIfInBounds_toArray, List.set_cons_zero, List.set_cons_succ]
      have HI2 := Lib.hid ((MgI.turn hH5.2.2.2.1 (by omega) hgr6 HO6.out HM6.out).congr (g' := fun key => both (getC (a.take (k + 1)) key) none) HEq.out)
      clear hH5 hgr6 d0 d1 d2
      go_wp2
      go_roundw
      case rel => exact ⟨k + 1, by omega, by simp, HI2.out⟩
      case measure => simp [intOf]; omega
    · obtain rfl : k = len := by omega
      have hge : ¬ (k : Int) < k := by omega
      have HI1 : Hid (MgI w (.slice x k cap) (.slice y len2 cap2) (w.heap.size + 1 + 1) k (fun key => both (getC a key) (getC (b.take 0) key)) wr) := Lib.hid (by
        rw [List.take_of_length_le (by rw [HLa.out]; exact Nat.le_refl _)] at hI
        exact hI)
      have c1 := hI.2.1.2.cell 0
      dsimp at c1
      clear hI
      go_wp2
      go_loopw [31] (fun i wr => ∃ j : Nat, j ≤ len2 ∧ i = .int .i64 j ∧ MgI w (.slice x k cap) (.slice y len2 cap2) (w.heap.size + 1 + 1) (k + j) (fun key => both (getC a key) (getC (b.take j) key)) wr)
        (fun i _ => len2 - (intOf i).toNat)
      case atStart => exact ⟨0, Nat.zero_le _, rfl, HI1.out⟩
      case round =>
        obtain ⟨j, hj, rfl, hI⟩ := hrel
        by_cases hlt2 : j < len2
        · have hlt' : (j : Int) < len2 := by omega
          obtain ⟨b0, o0, rfl, hb0, hd0⟩ := HB.out.at_ hlt2
          obtain ⟨d0, d1, d2⟩ := hd0.below hI.2.2 hb0
          have hkl : j < b.length := by rw [HLb.out]; exact hlt2
          have hkey := HRb.out.key (b.getD j noCh) (by rw [getD_get hkl]; exact List.getElem_mem hkl)
          have HEq := Lib.hid (both_take2 (a := a) HRb.out hkl)
          have hgt := getC_take HRb.out.asc hkl
          obtain ⟨⟨D, hm, hown⟩, hbx, hbw⟩ := hI
          have hI : MgI w (.slice x k cap) (.slice (some ⟨b0, o0, none⟩) len2 cap2) (w.heap.size + 1 + 1) (k + j) (fun key => both (getC a key) (getC (b.take j) key)) wr := ⟨⟨D, hm, hown⟩, hbx, hbw⟩
          have HI := Lib.hid hI
          have HM := Lib.hid hm
          have hk1 : -9223372036854775808 ≤ (b.getD j noCh).1 := by omega
          have hk2 : (b.getD j noCh).1 ≤ 9223372036854775807 := by omega
          have hlk := look_pair (hown.alloc (.cells #[.int .i64 (b.getD j noCh).1, .int .i64 (b.getD j noCh).2.1, .string ⟨(b.getD j noCh).2.2.toArray⟩] 54)) hm hk1 hk2
          have HOw := Lib.hid hown
          have hsz := hI.size
          clear hm hbx hbw hI hd0 hkl hkey
          obtain ⟨ga, hga⟩ : ∃ v, v = getC a (b.getD j noCh).1 := ⟨_, rfl⟩
          rw [hgt, ← hga, both_none_right] at hlk
          rw [← hga] at HEq
          clear hgt hga
          generalize b.getD j noCh = c at *
          obtain ⟨ck, f, d⟩ := c
          dsimp only at *
          cases ga with
          | some p =>
            obtain ⟨fa, da⟩ := p
            have hlk2 : (Instr.lookup 74 (.map (some (w.heap.size + 1 + 1))) (.int .i64 ck) true).run Try.prog (wr.alloc (.cells #[.int .i64 ck, .int .i64 f, .string ⟨d.toArray⟩] 54)) = .ok (.tuple #[.agg #[.int .i64 fa, .string ⟨da.toArray⟩, .int .i64 1, .string ⟨#[]⟩], .bool true]) (wr.alloc (.cells #[.int .i64 ck, .int .i64 f, .string ⟨d.toArray⟩] 54)) := hlk
            clear hlk
            have HEq2 : Hid (∀ key, (if key = ck then some ((fa, da), (f, d)) else both (getC a key) (getC (b.take j) key)) = both (getC a key) (getC (b.take (j + 1)) key)) := HEq
            go_wp2_with (at_mapUpdate; refine wpList_mapUpdate_own _ rfl _ _ _ 74 rfl 3 81 (Maps.int_keyed Try.underlying3) Try.underlying74 pairR (w.heap.size + 1 + 1) (k + j) D rfl ((HOw.out.alloc _).alloc _) (by unfold maxLen; omega) _ _ (.int .i64 ck) rfl rfl (key_of hk1 hk2) (.held (pairV ((fa, da), (f, d)))) [] rfl ?_; intro w6 hown6 hgr6)
            have HI2 := Lib.hid ((MgI.turn ((HI.out.under ((Below.refl _ wr).alloc (Nat.le_refl _) (.cells #[.int .i64 ck, .int .i64 f, .string ⟨d.toArray⟩] 54))).under ((Below.refl _ _).alloc (Nat.le_refl _) _)) (by omega) hgr6 hown6 (HM.out.put ck ((fa, da), (f, d)))).congr (g' := fun key => both (getC a key) (getC (b.take (j + 1)) key)) HEq2.out)
            clear hown6 hgr6
            go_wp2
            go_roundw
            case rel => exact ⟨j + 1, by omega, by simp, HI2.out⟩
            case measure => simp [intOf]; omega
          | none =>
            have hlk2 : (Instr.lookup 74 (.map (some (w.heap.size + 1 + 1))) (.int .i64 ck) true).run Try.prog (wr.alloc (.cells #[.int .i64 ck, .int .i64 f, .string ⟨d.toArray⟩] 54)) = .ok (.tuple #[.agg #[.int .i64 0, .string ⟨#[]⟩, .int .i64 0, .string ⟨#[]⟩], .bool false]) (wr.alloc (.cells #[.int .i64 ck, .int .i64 f, .string ⟨d.toArray⟩] 54)) := hlk
            clear hlk
            have HEq2 : Hid (∀ key, (if key = ck then some (noneC, (f, d)) else both (getC a key) (getC (b.take j) key)) = both (getC a key) (getC (b.take (j + 1)) key)) := HEq
            go_wp2_with fail
            refine (nothing_any _).mono ?_
            rintro e w5 ⟨rfl, hb5⟩
            have bC := ((Blk.new wr 54 #[.int .i64 ck, .int .i64 f, .string ⟨d.toArray⟩]).alloc (.cells #[.int .i64 0, .string ⟨#[]⟩, .int .i64 0, .string ⟨#[]⟩] 81)).under hb5
            have bP0 := Blk.new (wr.alloc (.cells #[.int .i64 ck, .int .i64 f, .string ⟨d.toArray⟩] 54)) 81 #[.int .i64 0, .string ⟨#[]⟩, .int .i64 0, .string ⟨#[]⟩]
            rw [World.size_alloc] at bP0
            have bP := bP0.under hb5
            have e0 := bC.cell 0; have e1 := bC.cell 1; have e2 := bC.cell 2
            have p0 := bP.cell 0; have p1 := bP.cell 1; have p2 := bP.cell 2; have p3 := bP.cell 3
            have f0 := bP.frozen 0; have f1 := bP.frozen 1; have f2 := bP.frozen 2; have f3 := bP.frozen 3
            dsimp at e0 e1 e2 p0 p1 p2 p3
            have hI5 := ((HI.out.under ((Below.refl _ wr).alloc (Nat.le_refl _) (.cells #[.int .i64 ck, .int .i64 f, .string ⟨d.toArray⟩] 54))).under ((Below.refl _ _).alloc (Nat.le_refl _) (.cells #[.int .i64 0, .string ⟨#[]⟩, .int .i64 0, .string ⟨#[]⟩] 81))).under hb5
            have HI5 := Lib.hid hI5
            have hO5 := map_under ((HOw.out.alloc (.cells #[.int .i64 ck, .int .i64 f, .string ⟨d.toArray⟩] 54)).alloc (.cells #[.int .i64 0, .string ⟨#[]⟩, .int .i64 0, .string ⟨#[]⟩] 81)) hb5
            have hne : w.heap.size + 1 + 1 ≠ wr.heap.size + 1 := by have := HOw.out.lt; omega
            have HO5 := Lib.hid ((((hO5.setCell (a := ⟨wr.heap.size + 1, 0, none⟩) hne (.int .i64 1)).setCell (a := ⟨wr.heap.size + 1, 1, none⟩) hne (.string ⟨#[]⟩)).setCell (a := ⟨wr.heap.size + 1, 2, none⟩) hne (.int .i64 f)).setCell (a := ⟨wr.heap.size + 1, 3, none⟩) hne (.string ⟨d.toArray⟩))
            have HI6 := Lib.hid ((((hI5.far (a := ⟨wr.heap.size + 1, 0, none⟩) (by simp; omega) hne (.int .i64 1)).far (a := ⟨wr.heap.size + 1, 1, none⟩) (by simp; omega) hne (.string ⟨#[]⟩)).far (a := ⟨wr.heap.size + 1, 2, none⟩) (by simp; omega) hne (.int .i64 f)).far (a := ⟨wr.heap.size + 1, 3, none⟩) (by simp; omega) hne (.string ⟨d.toArray⟩))
            clear bC bP bP0 hI5 hO5 hb5 d0 d1 d2
            go_wp2_with (at_mapUpdate; refine wpList_mapUpdate_own _ rfl _ _ _ 74 rfl 3 81 (Maps.int_keyed Try.underlying3) Try.underlying74 pairR (w.heap.size + 1 + 1) (k + j) D rfl HO5.out (by unfold maxLen; omega) _ _ (.int .i64 ck) rfl rfl (key_of hk1 hk2) (.held (pairV (noneC, (f, d)))) [] rfl ?_; intro w6 hown6 hgr6)
            have HI2 := Lib.hid ((MgI.turn HI6.out (by omega) hgr6 hown6 (HM.out.put ck (noneC, (f, d)))).congr (g' := fun key => both (getC a key) (getC (b.take (j + 1)) key)) HEq2.out)
            clear hown6 hgr6
            go_wp2
            go_roundw
            case rel => exact ⟨j + 1, by omega, by simp, HI2.out⟩
            case measure => simp [intOf]; omega
        · obtain rfl : j = len2 := by omega
          have hge : ¬ (j : Int) < j := by omega
          have HR : Hid (MgR w (fun key => both (getC a key) (getC b key)) (.returned (.map (some (w.heap.size + 1 + 1)))) wr) := Lib.hid (by
            rw [List.take_of_length_le (by rw [HLb.out]; exact Nat.le_refl _)] at hI
            obtain ⟨⟨D, hm, hown⟩, _, hbw⟩ := hI
            exact ⟨_, k + j, D, rfl, by omega, hown, by omega, hm, hbw⟩)
          clear hI
          go_wp2
          go_ret
          exact HR.out
end Go.Proofs.Ytbfchlfagdhglaa
