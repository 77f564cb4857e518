import Derived.Laws.AppendOwn
import Derived.Laws.OwnMore
import Derived.Lib.ConvBytes
import Derived.Laws.CopyRow
import Derived.WalkKit
import Derived.Laws.IdiomStrings
import Derived.Lib.AppendStr
import Derived.Test.YtbfchlfagdhglaaMG11
import Derived.Test.YtbfchlfagdhglaaMG19
import Derived.Test.YtbfchlfagdhglaaMG22
import Derived.Lib.SmallJoins
import Derived.Test.YtbfchlfagdhglaaMG6
import Derived.Test.YtbfchlfagdhglaaRows
import Derived.Test.YtbfchlfagdhglaaMG2
import Derived.ProofKit
import Derived.OpenShut
import Derived.ShutString
/- append onto the bytes of a string: '[]byte(s)' leaves a row that bears a mark behind its cells; nothing within them is frozen. The library's laws of append want a row without a mark. -/
namespace Go.Proofs.Ytbfchlfagdhglaa
open Go Go.RowKit

/-- None of the first n cells is frozen. -/
def Free (fz : Nat × Nat) (n : Nat) : Prop := ∀ i, i < n → (decide (fz.1 ≤ i) && decide (i < fz.2)) = false

theorem store_free (P : Program) (g o : Nat) (t : TypeId) (fz : Nat × Nat) : ∀ (vs : List Value) (i : Nat) (cur : Array Value) (w : World), w.heap[g]? = some (.cells cur t fz) → Free fz cur.size → o + i + vs.length ≤ cur.size → (∀ v ∈ vs, v.oneCell' = true) →
    (storeCells ⟨g, o, none⟩ vs i).run P w = .ok () (w.setRow g (cur.toList.take (o + i) ++ vs ++ cur.toList.drop (o + i + vs.length)).toArray)
  | [], i, cur, w, hg, _, _, _ => by
    rw [storeCells, List.append_nil, List.length_nil, Nat.add_zero, List.take_append_drop, Array.toArray_toList, setRow_self w g cur t fz hg]
    rfl
  | v :: rest, i, cur, w, hg, hf, hl, h1 => by
    rw [List.length_cons] at hl
    have hi : o + i < cur.size := by omega
    have hadd : (⟨g, o, none⟩ : Addr).add i = ⟨g, o + i, none⟩ := by unfold Addr.add; split <;> simp_all
    have hcell : w.cell? ⟨g, o + i, none⟩ = some cur[o + i] := by simp [World.cell?, hg, hi]
    have hfro : w.frozen? ⟨g, o + i, none⟩ = false := by
      have := hf (o + i) hi
      unfold World.frozen?
      rw [hg]
      exact this
    have hst : (store ((⟨g, o, none⟩ : Addr).add i) v).run P w = .ok () (w.setRow g (cur.setIfInBounds (o + i) v)) := by
      rw [hadd, run_store P w _ v _ (h1 v (List.mem_cons_self ..)), hcell]
      simp [hfro, setCell_eq_setRow w g (o + i) cur t fz v hg]
    have ih := store_free P g o t fz rest (i + 1) (cur.setIfInBounds (o + i) v) (w.setRow g (cur.setIfInBounds (o + i) v)) (setRow_heap w g cur _ t _ hg) (by rw [Array.size_setIfInBounds]; exact hf) (by rw [Array.size_setIfInBounds]; omega) (fun x hx => h1 x (List.mem_cons_of_mem _ hx))
    simp only [storeCells, Sem.run_bind, hst, Result.andThen_ok, ih, setRow_setRow]
    congr 3
    have e := list_seg_step cur.toList (o + i) v rest (by rw [Array.length_toList]; omega)
    simpa [Array.toList_setIfInBounds, Nat.add_assoc] using e

/-- The slice owns these cells (one each), in a row of which nothing is frozen. -/
def OwnsM (w : World) (base : Nat) (e : TypeId) (v : Value) (n : Nat) (xs : List Value) : Prop :=
  xs.length = n ∧ ∃ g cap cur fz, v = .slice (some ⟨g, 0, none⟩) n cap ∧ base ≤ g ∧ w.heap[g]? = some (.cells cur e fz) ∧ Free fz cur.size ∧ n ≤ cap ∧ cap ≤ maxLen ∧ cur.size = cap ∧ cur.toList.take n = xs
section
variable {w w' : World} {base n : Nat} {e : TypeId} {v : Value} {xs : List Value}
theorem OwnsM.kept {row : Option Nat} (h : OwnsM w base e v n xs) (hg : w.grownBy w' row) (hne : v.ownBlock ≠ row) : OwnsM w' base e v n xs := by
  obtain ⟨h1, g, cap, cur, fz, rfl, hb, hgg, rest⟩ := h
  refine ⟨h1, g, cap, cur, fz, rfl, hb, ?_, rest⟩
  rw [hg.block g (Array.getElem?_eq_some_iff.1 hgg).1 hne]
  exact hgg
theorem OwnsM.under (h : OwnsM w base e v n xs) (hb : Below w.heap.size w w') : OwnsM w' base e v n xs := by
  obtain ⟨h1, g, cap, cur, fz, rfl, hb2, hgg, rest⟩ := h
  exact ⟨h1, g, cap, cur, fz, rfl, hb2, (hb.block g (Array.getElem?_eq_some_iff.1 hgg).1).trans hgg, rest⟩
theorem OwnsM.lt (h : OwnsM w base e v n xs) : ∀ k, v.ownBlock = some k → base ≤ k ∧ k < w.heap.size := by
  obtain ⟨h1, g, cap, cur, fz, rfl, hb, hgg, _⟩ := h
  intro k hk
  obtain rfl : g = k := by simpa [Value.ownBlock] using hk
  exact ⟨hb, (Array.getElem?_eq_some_iff.1 hgg).1⟩
theorem OwnsM.cells (h : OwnsM w base e v n xs) : ∃ g cap, v = .slice (some ⟨g, 0, none⟩) n cap ∧ base ≤ g ∧ g < w.heap.size ∧ ∀ j u, xs[j]? = some u → w.cell? ⟨g, j, none⟩ = some u := by
  obtain ⟨h1, g, cap, cur, fz, rfl, hb, hgg, _, _, _, _, ht⟩ := h
  refine ⟨g, cap, rfl, hb, (Array.getElem?_eq_some_iff.1 hgg).1, fun j u hu => ?_⟩
  rw [cell_of_row w g j cur e fz hgg]
  rw [← ht, List.getElem?_take] at hu
  split at hu
  · simpa using hu
  · cases hu
end

section
variable {P : Program} (w : World)
/-- The law of append. -/
theorem run_append_ownM (base : Nat) (t ty e : TypeId) (i : TypeInfo) (z : Value) (bytes : Nat) (ht : P.underlying t = some (.slice e)) (hi : P.info? e = some i) (hz : i.zero = some z)
    (hsize : i.size = 1) (hby : i.bytes = bytes) (hzs : z.cells.size = 1) (v : Value) (n : Nat) (xs : List Value) (hown : OwnsM w base e v n xs)
    (a : Addr) (m c : Nat) (news : List Value) (hl : news.length = m) (hnews : ∀ j u, news[j]? = some u → w.cell? (a.add j) = some u) (h1 : ∀ u ∈ news, u.oneCell' = true)
    (h63 : n + m ≤ maxLen) (hbytes : (n + m) * bytes ≤ 140737488355328) (hbase : base ≤ w.heap.size) :
    ∃ v' w', (Builtin.append_ #[t, t] ty #[v, .slice (some a) m c]).run P w = .ok v' w' ∧ OwnsM w' base e v' (n + m) (xs ++ news) ∧ w.grownBy w' v.ownBlock := by
  obtain ⟨hx, g, cap, cur, fz, rfl, hbg, hg, hfr, hnc, hcm, hcs, htake⟩ := hown
  have hlen : (xs ++ news).length = n + m := by rw [List.length_append, hx, hl]
  by_cases hroom : n + m ≤ cap
  · have hf := run_firstCells_some (P := P) w i.size m a m c news (by rw [hl, hsize, Nat.mul_one]) hnews
    have hst := store_free P g n e fz news 0 cur w hg hfr (by omega) h1
    simp only [Nat.add_zero] at hst
    refine ⟨.slice (some ⟨g, 0, none⟩) (n + m) cap, w.setRow g (cur.toList.take n ++ news ++ cur.toList.drop (n + news.length)).toArray, ?_, ⟨hlen, g, cap, _, fz, rfl, hbg, setRow_heap w g cur _ e _ hg, ?_, hroom, hcm, ?_, ?_⟩, ⟨rfl, rfl, rfl, by simp, fun k _ hk => setRow_other w g k _ (fun e => hk (by simp [Value.ownBlock, e]))⟩⟩
    · rw [hsize] at hf
      simp [Builtin.append_, run_underlying ht, sizeOf, typeInfo, hi, hsize, Builtin.lenOf, hroom, hf, Addr.add_lit, hst]
    · have e : (cur.toList.take n ++ news ++ cur.toList.drop (n + news.length)).toArray.size = cur.size := by
        simp only [List.size_toArray, List.length_append, List.length_take, List.length_drop, Array.length_toList]; omega
      rw [e]; exact hfr
    · simp only [List.size_toArray, List.length_append, List.length_take, List.length_drop, Array.length_toList]; omega
    · rw [htake]
      show ((xs ++ news) ++ _).take (n + m) = _
      rw [← hlen]
      exact List.take_left
  · have holds : ∀ j u, xs[j]? = some u → w.cell? ((⟨g, 0, none⟩ : Addr).add j) = some u := fun j u hu => by
      have hadd : (⟨g, 0, none⟩ : Addr).add j = ⟨g, j, none⟩ := by unfold Addr.add; split <;> simp_all
      rw [hadd, cell_of_row w g j cur e fz hg]
      rw [← htake, List.getElem?_take] at hu
      split at hu
      · simpa using hu
      · cases hu
    have hmx : n + m ≤ 9223372036854775807 := by simp only [maxLen] at h63; omega
    have hr := run_append_grow (P := P) w t ty e i z ht hi hz ⟨g, 0, none⟩ n cap xs (by rw [hsize, Nat.mul_one]; exact hx) holds a m c news (by rw [hl, hsize, Nat.mul_one]) hnews (by omega) (by omega) (by rw [hby]; exact growslice_fits (by omega) hbytes)
    have hge := grownCap_ge w (n + m) cap e
    have hcm2 : grownCap w (n + m) cap e ≤ maxLen := grownCap_le_maxLen w (n + m) cap e h63
    refine ⟨_, _, hr, ⟨hlen, w.heap.size, _, _, (0, 0), rfl, hbase, heap_alloc_new w.drew _, (fun k _ => by simp), hge, hcm2, ?_, ?_⟩, ⟨rfl, rfl, rfl, by simp, fun k hk _ => Below.heap_alloc w.drew _ k (by simpa using hk)⟩⟩
    · simp only [Array.size_append, List.size_toArray, size_zeroCells, hzs, hx, hl]; omega
    · simp only [Array.toList_append, List.append_assoc]
      rw [← List.append_assoc, ← hlen]
      exact List.take_left

/-- At the list of a plain region's operations. -/
theorem wpList_append_ownM {ops : Array Oper} {rest : List Oper} {o : Oper} {a : Act} {Q : Exit → Act → World → Prop} (hgd : o.guard = none) (s x : Operand) (t : TypeId)
    (ho : o.op = .call { callee := .builtin .append, args := #[s, x], argTypes := #[t, t] })
    (base : Nat) (e : TypeId) (i : TypeInfo) (z : Value) (bytes : Nat) (ht : P.underlying t = some (.slice e)) (hi : P.info? e = some i) (hz : i.zero = some z)
    (hsize : i.size = 1) (hby : i.bytes = bytes) (hzs : z.cells.size = 1) (v : Value) (n : Nat) (xs : List Value) (hs : a.eval s = v) (hown : OwnsM w base e v n xs)
    (ad : Addr) (m c : Nat) (news : List Value) (hx : a.eval x = .slice (some ad) m c) (hl : news.length = m) (hnews : ∀ j u, news[j]? = some u → w.cell? (ad.add j) = some u) (h1 : ∀ u ∈ news, u.oneCell' = true)
    (h63 : n + m ≤ maxLen) (hbytes : (n + m) * bytes ≤ 140737488355328) (hbase : base ≤ w.heap.size)
    (h : ∀ v' w', OwnsM w' base e v' (n + m) (xs ++ news) → w.grownBy w' v.ownBlock → wpList P ops Q rest (a.put o.dst v') w') : wpList P ops Q (o :: rest) a w := by
  refine wpList_plain hgd fun K hK => ?_
  obtain ⟨v', w', hr, h2, h3⟩ := run_append_ownM (P := P) w base t o.type e i z bytes ht hi hz hsize hby hzs v n xs hown ad m c news hl hnews h1 h63 hbytes hbase
  unfold Oper.wp execOp
  simp only [ho, resolve, invoke, builtin, Sem.run_bind, Sem.run_pure, Result.andThen_ok, List.map_toArray, List.map_cons, List.map_nil, hs, hx, hr]
  exact hK _ _ (h v' w' h2 h3)
end

/-- '[]byte(s)' owns the bytes. -/
theorem owns_bytes (w : World) (e : TypeId) (l : List UInt8) (hl : l.length ≤ maxLen) :
    OwnsM (Lib.bytesWorld w e ⟨l.toArray⟩) w.heap.size e (.slice (some ⟨w.heap.size, 0, none⟩) l.length (grownCap w l.length 0 e)) l.length (l.map fun b => Value.int .u8 (b.toNat : Int)) := by
  have hge := grownCap_ge w l.length 0 e
  refine ⟨by simp, w.heap.size, _, _, _, rfl, Nat.le_refl _, Lib.bytesWorld_at_new w e ⟨l.toArray⟩, fun i hi => by simp; omega, hge, grownCap_le_maxLen w l.length 0 e hl, ?_, ?_⟩
  · unfold Lib.bytesCells
    rw [Array.size_append, Array.size_map, Array.size_replicate]
    show l.toArray.size + (grownCap w l.toArray.size 0 e - l.toArray.size) = _
    rw [List.size_toArray]
    omega
  · unfold Lib.bytesCells
    rw [Array.toList_append, Array.toList_map]
    show ((l.toArray.toList.map _) ++ _).take _ = _
    rw [List.take_append_of_le_length (by simp), List.take_of_length_le (by simp)]
end Go.Proofs.Ytbfchlfagdhglaa
/- append of a string's bytes onto the bytes of a string: the row bears a mark (LMark). -/
namespace Go.Proofs.Ytbfchlfagdhglaa
open Go Go.RowKit

section
variable {P : Program} (w : World)
theorem run_append_ownM_string (base : Nat) (t u ty e : TypeId) (i : TypeInfo) (ht : P.underlying t = some (.slice e)) (hu : P.underlying u = some .string) (hi : P.info? e = some i) (hz : i.zero = some (.int .u8 0))
    (hsize : i.size = 1) (hby : i.bytes = 1) (v : Value) (n : Nat) (xs : List Value) (hown : OwnsM w base e v n xs) (s : ByteArray)
    (h63 : n + s.size ≤ maxLen) (hbytes : n + s.size ≤ 140737488355328) (hbase : base ≤ w.heap.size) :
    ∃ v' w', (Builtin.append_ #[t, u] ty #[v, .string s]).run P w = .ok v' w' ∧ OwnsM w' base e v' (n + s.size) (xs ++ Lib.strCells s) ∧ w.grownBy w' v.ownBlock := by
  obtain ⟨hx, g, cap, cur, fz, rfl, hbg, hg, hfr, hnc, hcm, hcs, htake⟩ := hown
  have hsl := Lib.strCells_length s
  have hlen : (xs ++ Lib.strCells s).length = n + s.size := by rw [List.length_append, hx, hsl]
  by_cases hroom : n + s.size ≤ cap
  · have hf := Lib.run_firstCells_string (P := P) w 1 s
    have hst := store_free P g n e fz (Lib.strCells s) 0 cur w hg hfr (by omega) (Lib.strCells_oneCell s)
    simp only [Nat.add_zero, hsl] at hst
    refine ⟨.slice (some ⟨g, 0, none⟩) (n + s.size) cap, w.setRow g (cur.toList.take n ++ Lib.strCells s ++ cur.toList.drop (n + s.size)).toArray, ?_, ⟨hlen, g, cap, _, fz, rfl, hbg, setRow_heap w g cur _ e _ hg, ?_, hroom, hcm, ?_, ?_⟩, ⟨rfl, rfl, rfl, by simp, fun k _ hk => setRow_other w g k _ (fun e => hk (by simp [Value.ownBlock, e]))⟩⟩
    · simp [Builtin.append_, run_underlying ht, run_underlying hu, sizeOf, typeInfo, hi, hsize, Builtin.lenOf, hroom, hf, Addr.add_lit, hst]
    · have e : (cur.toList.take n ++ Lib.strCells s ++ cur.toList.drop (n + s.size)).toArray.size = cur.size := by
        simp only [List.size_toArray, List.length_append, List.length_take, List.length_drop, Array.length_toList, hsl]; omega
      rw [e]; exact hfr
    · simp only [List.size_toArray, List.length_append, List.length_take, List.length_drop, Array.length_toList, hsl]; omega
    · rw [htake]
      show ((xs ++ Lib.strCells s) ++ _).take (n + s.size) = _
      rw [← hlen]
      exact List.take_left
  · have holds : ∀ j u, xs[j]? = some u → w.cell? ((⟨g, 0, none⟩ : Addr).add j) = some u := fun j u hu => by
      have hadd : (⟨g, 0, none⟩ : Addr).add j = ⟨g, j, none⟩ := by unfold Addr.add; split <;> simp_all
      rw [hadd, cell_of_row w g j cur e fz hg]
      rw [← htake, List.getElem?_take] at hu
      split at hu
      · simpa using hu
      · cases hu
    have hmx : n + s.size ≤ 9223372036854775807 := by simp only [maxLen] at h63; omega
    have hr := Lib.run_append_grow_string (P := P) w t u ty e i (.int .u8 0) ht hu hi hz ⟨g, 0, none⟩ n cap xs (by rw [hsize, Nat.mul_one]; exact hx) holds s (by omega) (by omega) (by rw [hby]; exact growslice_fits (by omega) (by omega))
    have hge := grownCap_ge w (n + s.size) cap e
    have hcm2 : grownCap w (n + s.size) cap e ≤ maxLen := grownCap_le_maxLen w (n + s.size) cap e h63
    have hz1 : (Value.int IntKind.u8 0).cells.size = 1 := rfl
    refine ⟨_, _, hr, ⟨hlen, w.heap.size, _, _, (0, 0), rfl, hbase, heap_alloc_new w.drew _, (fun k _ => by simp), hge, hcm2, ?_, ?_⟩, ⟨rfl, rfl, rfl, by simp, fun k hk _ => Below.heap_alloc w.drew _ k (by simpa using hk)⟩⟩
    · simp only [Array.size_append, List.size_toArray, size_zeroCells, hz1, hx, hsl]; omega
    · simp only [Array.toList_append, List.append_assoc]
      rw [← List.append_assoc, ← hlen]
      exact List.take_left

/-- At the list of a plain region's operations. -/
theorem wpList_append_ownM_string {ops : Array Oper} {rest : List Oper} {o : Oper} {a : Act} {Q : Exit → Act → World → Prop} (hgd : o.guard = none) (s x : Operand) (t u : TypeId)
    (ho : o.op = .call { callee := .builtin .append, args := #[s, x], argTypes := #[t, u] })
    (base : Nat) (e : TypeId) (i : TypeInfo) (ht : P.underlying t = some (.slice e)) (hu : P.underlying u = some .string) (hi : P.info? e = some i) (hz : i.zero = some (.int .u8 0))
    (hsize : i.size = 1) (hby : i.bytes = 1) (v : Value) (n : Nat) (xs : List Value) (hs : a.eval s = v) (hown : OwnsM w base e v n xs)
    (b : ByteArray) (hx : a.eval x = .string b)
    (h63 : n + b.size ≤ maxLen) (hbytes : n + b.size ≤ 140737488355328) (hbase : base ≤ w.heap.size)
    (h : ∀ v' w', OwnsM w' base e v' (n + b.size) (xs ++ Lib.strCells b) → w.grownBy w' v.ownBlock → wpList P ops Q rest (a.put o.dst v') w') : wpList P ops Q (o :: rest) a w := by
  refine wpList_plain hgd fun K hK => ?_
  obtain ⟨v', w', hr, h2, h3⟩ := run_append_ownM_string (P := P) w base t u o.type e i ht hu hi hz hsize hby v n xs hown b h63 hbytes hbase
  unfold Oper.wp execOp
  simp only [ho, resolve, invoke, builtin, Sem.run_bind, Sem.run_pure, Result.andThen_ok, List.map_toArray, List.map_cons, List.map_nil, hs, hx, hr]
  exact hK _ _ (h v' w' h2 h3)
end
end Go.Proofs.Ytbfchlfagdhglaa
/- roar.Encode. -/
namespace Go.Proofs.Ytbfchlfagdhglaa
open Go.RowKit

theorem ok3_right {r : List Ch} (h : RightZ r) : Ok3 r := by
  intro c hc
  rw [h.2] at hc
  obtain ⟨j, _, rfl, _⟩ := mem_ofTo hc
  have := best_32 (part (setZ r) j)
  show (bestD (part (setZ r) j)).length ≤ 300
  omega
theorem u8_val (z : Int) : ((u8 z).toNat : Int) = z % 256 := by
  unfold u8
  rw [UInt8.toNat_ofNat']
  omega
theorem conv_ownM {wr : World} {n₀ n : Nat} {v : Value} {l : List UInt8} (h : OwnsM wr n₀ 5 v n (byteVs l)) : (convert 84 9 v).run Try.prog wr = .ok (.string ⟨l.toArray⟩) wr := by
  have hn : l.length = n := by rw [← h.1]; simp [byteVs]
  obtain ⟨g, cap, rfl, _, _, hc⟩ := h.cells
  subst hn
  refine run_convert_bytes_back wr _ _ _ _ cap l Try.underlying84 Try.underlying5 Try.underlying9 (fun j hj => ?_)
  rw [show (⟨g, 0, none⟩ : Addr).add j = ⟨g, j, none⟩ by unfold Addr.add; split <;> simp_all]
  exact hc j _ (by simp [byteVs, List.getElem?_eq_getElem hj])
/-- What holds at the loop's head: the bytes so far, the bitmap's box. -/
def EnI (w : World) (g : Nat) (sv : Value) (l : List UInt8) (s : Value) (W : World) : Prop := OwnsM W g 5 s l.length (byteVs l) ∧ Blk W w.heap.size 24 #[sv] ∧ Below w.heap.size w W ∧ g ≤ W.heap.size
theorem EnI.under {w A B : World} {g : Nat} {sv s : Value} {l : List UInt8} (h : EnI w g sv l s A) (hb : Below A.heap.size A B) : EnI w g sv l s B := ⟨h.1.under hb, h.2.1.under hb, h.2.2.1.trans (hb.mono h.2.2.1.size), Nat.le_trans h.2.2.2 hb.size⟩
theorem EnI.app {w A B : World} {g n : Nat} {sv s s2 : Value} {l l2 : List UInt8} (hg : w.heap.size < g) (h : EnI w g sv l s A) (hgr : A.grownBy B s.ownBlock) (hn : n = (l ++ l2).length) (ho : OwnsM B g 5 s2 n (byteVs l ++ byteVs l2)) : EnI w g sv (l ++ l2) s2 B := by
  have hr : ∀ k, s.ownBlock = some k → g ≤ k := fun k e => (h.1.lt k e).1
  refine ⟨?_, (hgr.block _ h.2.1.lt (fun e => by have := hr _ e.symm; omega)).trans h.2.1, h.2.2.1.grown hgr h.2.2.1.size (fun k e => by have := hr k e; omega), Nat.le_trans h.2.2.2 hgr.size⟩
  rw [show byteVs (l ++ l2) = byteVs l ++ byteVs l2 by simp [byteVs], ← hn]
  exact ho
theorem EnI.start {w W : World} {sv : Value} {l : List UInt8} (hl : l.length ≤ maxLen) (hB : Blk W w.heap.size 24 #[sv]) (hb : Below w.heap.size w W) : EnI w W.heap.size sv l (.slice (some ⟨W.heap.size, 0, none⟩) l.length (grownCap W l.length 0 5)) (Lib.bytesWorld W 5 ⟨l.toArray⟩) := by
  have h2 : Below W.heap.size W (Lib.bytesWorld W 5 ⟨l.toArray⟩) := Joins.below_bytesWorld _ W _ _ (Nat.le_refl _)
  exact ⟨owns_bytes W _ l hl, hB.under h2, hb.trans (h2.mono hb.size), h2.size⟩
/-- A chunk in its box besides. -/
def EnC (w : World) (g : Nat) (sv : Value) (l : List UInt8) (s : Value) (q : Nat) (k f : Int) (d : List UInt8) (W : World) : Prop := EnI w g sv l s W ∧ Blk W q 54 #[.int .i64 k, .int .i64 f, .string ⟨d.toArray⟩]

set_option maxRecDepth 100000 in
set_option maxHeartbeats 4000000 in
theorem enc_roar (x : Option Addr) (len cap : Nat) (r : List Ch) (hk : OkCs r) (hm : len ≤ 9223372036854775807) (w : World) (h : Chs w.heap.size w (.slice x len cap) r) :
    Calls Try.prog 29 #[.agg #[.slice x len cap]] w fun e w' => e = .returned (.tuple #[.string ⟨(encZ r).1.toArray⟩, .int .i64 (encZ r).2]) ∧ Below w.heap.size w w' := by
  have hl := h.len
  have HRt := Lib.hid (fun W hW => right_roar x len cap r hk hm W hW)
  have HS0 := Lib.hid (RtSt.start h)
  have HC : Hid (∀ W, Below w.heap.size w W → Chs w.heap.size W (.slice x len cap) r) := Lib.hid fun W hb => h.below hb
  clear h hk
  by_cases hr : RightZ r
  · rw [decide_eq_true hr] at HRt
    have hV := encZ_good hr
    rw [hV]
    have HOk := Lib.hid (ok3_right hr)
    have hl256 : len ≤ 256 := by rw [← hl]; exact hr.1
    have HLe := Lib.hid (fun k => accZ_le HOk.out (by rw [hl]; exact hl256) k)
    have hpl := length_put (n := len) (by omega)
    have HPut := Lib.hid (put1_any len (by omega))
    have hac := accZ_zero r
    have hall := accZ_all r
    rw [hl] at hac hall
    rw [← hall]
    have hw0 : IntKind.u64.wrap (len : Int) = (len : Int) := by rw [u64_wrap]; omega
    obtain ⟨i0, hi, hz0, hz1, hz2⟩ := info_parts info_u8
    have HInf := Lib.hid hi; have HZ0 := Lib.hid hz0; have HZ1 := Lib.hid hz1; have HZ2 := Lib.hid hz2
    have HL := Lib.hid hl
    clear hi hz0 hz1 hz2 hV hall hr hl
    generalize vput len = hd at *
    go_enter Try.func29, Try.ntmps29
    have c00 := HS0.out.1.cell 0
    dsimp at c00
    go_wp2_with fail
    refine (HRt.out _ HS0.out.2.1).mono ?_
    rintro e w1 ⟨rfl, hb1⟩
    have hS1 := HS0.out.under hb1
    have c0 := hS1.1.cell 0
    dsimp at c0
    have HS1 := Lib.hid hS1
    clear HS0 HRt c00 hb1 hS1
    go_wp2_with fail
    refine (HPut.out _).mono ?_
    rintro e w2 ⟨rfl, hb2⟩
    have HS2 := Lib.hid (HS1.out.under hb2)
    clear hb2 HPut c0
    have hcv := Lib.run_convert_string_bytes (P := Try.prog) w2 9 84 5 ⟨hd.toArray⟩ Try.underlying9 Try.underlying84 Try.underlying5
    have hs2 : (ByteArray.mk hd.toArray).size = hd.length := by simp [ByteArray.size]
    rw [hs2] at hcv
    have hE0 := EnI.start (w := w) (W := w2) (sv := .slice x len cap) (l := hd) (by unfold maxLen; omega) HS2.out.1 HS2.out.2.2
    have hgw : w.heap.size < w2.heap.size := HS2.out.1.lt
    generalize Lib.bytesWorld w2 5 ⟨hd.toArray⟩ = w3 at *
    generalize w2.heap.size = g at *
    generalize grownCap w2 hd.length 0 5 = gc at *
    have c1 := hE0.2.1.cell 0
    dsimp at c1
    have HE0 := Lib.hid hE0
    clear hE0 HS1 HS2
    go_wp2
    go_loopw [4, 19] (fun s i wr => ∃ k : Nat, i = .int .i64 (k : Nat) ∧ k ≤ len ∧ EnI w g (.slice x len cap) (accZ r k) s wr)
      (fun _ i _ => len - (intOf i).toNat)
    case atStart => exact ⟨0, rfl, Nat.zero_le _, by rw [hac]; exact HE0.out⟩
    case round =>
      obtain ⟨k, rfl, hkl, hE⟩ := hrel
      clear HE0 c1
      by_cases hlt : k < len
      · have hlt' : (k : Int) < len := by omega
        obtain ⟨b, o, rfl, hb, d0, d1, d2⟩ := (HC.out _ hE.2.2.1).at_ hlt
        have hac2 := accZ_succ (r := r) (k := k) (by rw [HL.out]; exact hlt)
        have hl1 := HLe.out k
        have hl2 := HLe.out (k + 1)
        have hdk : (r.getD k noCh).2.2.length ≤ 300 := HOk.out _ (by rw [List.getD_eq_getElem?_getD, List.getElem?_eq_getElem (by rw [HL.out]; exact hlt)]; exact List.getElem_mem _)
        have HE := Lib.hid hE
        clear hE
        generalize hq2 : accZ r (k + 1) = l2 at *
        generalize accZ r k = l1 at *
        generalize r.getD k noCh = c at *
        obtain ⟨ck, f, d⟩ := c
        dsimp only at *
        have HE2 := Lib.hid ((HE.out.under ((Below.refl _ wr).alloc (Nat.le_refl _) (.cells #[.int .i64 ck, .int .i64 f, .string ⟨d.toArray⟩] 54))).under ((Below.refl _ _).alloc (Nat.le_refl _) (.cells #[.int .u8 (ck % 256), .int .u8 (f % 256), .int .u8 (((d.length : Nat) - 1 : Int) % 256)] 5)))
        have HBx := Lib.hid ((Blk.new wr 54 #[.int .i64 ck, .int .i64 f, .string ⟨d.toArray⟩]).alloc (.cells #[.int .u8 (ck % 256), .int .u8 (f % 256), .int .u8 (((d.length : Nat) - 1 : Int) % 256)] 5))
        have HGl : Hid (∀ v : Value, EnI w g (.slice (some ⟨b, o, none⟩) len cap) l1 v wr → ∀ k, v.ownBlock = some k → k < wr.heap.size) := Lib.hid (fun v h k e => (h.1.lt k e).2)
        have HC3 := Lib.hid (cells_three (wr.alloc (.cells #[.int .i64 ck, .int .i64 f, .string ⟨d.toArray⟩] 54)) (.int .u8 (ck % 256)) (.int .u8 (f % 256)) (.int .u8 (((d.length : Nat) - 1 : Int) % 256)) 5)
        rw [World.size_alloc] at HC3
        have HB3 : Hid (byteVs [u8 ck, u8 f, u8 ((d.length : Int) - 1)] = [.int .u8 (ck % 256), .int .u8 (f % 256), .int .u8 (((d.length : Nat) - 1 : Int) % 256)]) := Lib.hid (by unfold byteVs; simp only [List.map_cons, List.map_nil, u8_val])
        have HBd : Hid (Lib.strCells ⟨d.toArray⟩ = byteVs d) := Lib.hid (by unfold Lib.strCells byteVs; rfl)
        have HL2 : Hid (l2 = (l1 ++ [u8 ck, u8 f, u8 ((d.length : Int) - 1)]) ++ d) := Lib.hid (by rw [hac2, List.append_assoc]; rfl)
        have hsd : (ByteArray.mk d.toArray).size = d.length := by simp [ByteArray.size]
        have hlen2 : l2.length = l1.length + 3 + d.length := by rw [HL2.out]; simp; omega
        have HRt : Hid (EnI w g (.slice (some ⟨b, o, none⟩) len cap) l1 _ wr) := HE
        go_wp2_with (first | (at_builtin; refine wpList_append_ownM _ rfl _ _ 84 rfl g 5 i0 (.int .u8 0) 1 Try.underlying84 HInf.out HZ0.out HZ1.out HZ2.out rfl _ _ _ rfl HE2.out.1 ⟨wr.heap.size + 1, 0, none⟩ 3 3 _ rfl rfl HC3.out (by simp [Value.oneCell']) (by unfold maxLen; omega) (by omega) HE2.out.2.2.2 ?_; intro v5 w5 hown5 hgr5; rw [← HB3.out] at hown5; have hE5 := EnI.app hgw HE2.out hgr5 (by simp) hown5; have hB5 := (hgr5.block wr.heap.size HBx.out.lt (fun e => by have := HGl.out _ HRt.out _ e.symm; omega)).trans HBx.out; have x2 := Blk.cell (show Blk w5 wr.heap.size _ _ from hB5) 2; dsimp at x2; have HE5 := Lib.hid hE5; clear hE5 hB5 hown5 hgr5) | (at_builtin; refine wpList_append_ownM_string _ rfl _ _ 84 9 rfl g 5 i0 Try.underlying84 Try.underlying9 HInf.out HZ0.out HZ1.out HZ2.out _ _ _ rfl HE5.out.1 ⟨d.toArray⟩ rfl (by rw [hsd]; unfold maxLen; simp only [List.length_append, List.length_cons, List.length_nil]; omega) (by rw [hsd]; simp only [List.length_append, List.length_cons, List.length_nil]; omega) HE5.out.2.2.2 ?_; intro v7 w7 hown7 hgr7; rw [HBd.out] at hown7; have hE7 := EnI.app hgw HE5.out hgr7 (by rw [hsd]; simp; omega) hown7; rw [← HL2.out] at hE7; have HE7 := Lib.hid hE7; clear hE7 hown7 hgr7))
        go_roundw
        case rel => exact ⟨k + 1, by simp, by omega, by rw [hq2]; exact HE7.out⟩
        case measure => simp [intOf]; omega
      · obtain rfl : k = len := by omega
        have hge : ¬ (k : Int) < k := by omega
        have hcv7 := conv_ownM hE.1
        have HB := Lib.hid hE.2.2.1
        clear hE
        go_wp2
        go_ret2
        exact ⟨rfl, HB.out⟩
  · rw [decide_eq_false hr] at HRt
    rw [encZ_bad hr]
    go_enter Try.func29, Try.ntmps29
    have c00 := HS0.out.1.cell 0
    dsimp at c00
    go_wp2_with fail
    refine (HRt.out _ HS0.out.2.1).mono ?_
    rintro e w1 ⟨rfl, hb1⟩
    have HB := Lib.hid (HS0.out.under hb1).2.2
    clear hb1
    go_wp2
    go_ret2
    exact ⟨rfl, HB.out⟩
end Go.Proofs.Ytbfchlfagdhglaa
/- What the laws call on what comes in: few, Few. -/
namespace Go.Proofs.Ytbfchlfagdhglaa
open Go.RowKit

/-- A chunk of at most 260 bytes. -/
def cutC (c : Ch) : Ch := (c.1, c.2.1, c.2.2.take 260)
/-- A bitmap of at most twenty such chunks. -/
def fewR (r : List Ch) : List Ch := (r.take 20).map cutC
theorem fewR_ok (r : List Ch) : Ok3 (fewR r) := fun c hc => by
  obtain ⟨x, _, rfl⟩ := List.mem_map.1 hc
  show (x.2.2.take 260).length ≤ 300
  rw [List.length_take]; omega
theorem fewR_length (r : List Ch) : (fewR r).length ≤ 20 := by unfold fewR; rw [List.length_map, List.length_take]; omega
theorem take_minC (d : List UInt8) (k : Nat) : d.take (min d.length k) = d.take k := by
  rcases Nat.le_total d.length k with h | h
  · rw [Nat.min_eq_left h, List.take_length, List.take_of_length_le h]
  · rw [Nat.min_eq_right h]
theorem app_row {a w4 : World} {base : Nat} {v v2 : Value} {r : List Ch} {c : Ch} {o : Obj} (h0 : a.ownsRow base 54 3 v r.length (chsCells r)) (hown : w4.ownsRow base 54 3 v2 (r.length + 1) (chsCells r ++ chCells c)) (hg : (a.alloc o).grownBy w4 v.ownBlock) (hb : base ≤ a.heap.size) :
    Below base a w4 ∧ w4.ownsRow base 54 3 v2 (r ++ [c]).length (chsCells (r ++ [c])) := by
  refine ⟨((Below.refl _ a).alloc hb _).grown hg (by rw [World.size_alloc]; omega) (fun k e => (h0.lt k e).1), ?_⟩
  rw [List.length_append, chsCells_append, chsCells_one]
  exact hown
/-- The state of Few's walk: three boxes. -/
def FwSt (w : World) (u v : Value) (q : List Ch) (W : World) : Prop :=
  Blk W w.heap.size 24 #[u] ∧ Blk W (w.heap.size + 1) 24 #[.slice none 0 0] ∧ Blk W (w.heap.size + 2) 24 #[v] ∧ W.ownsRow (w.heap.size + 3) 54 3 v q.length (chsCells q) ∧ Below w.heap.size w W
theorem FwSt.start (w : World) (u : Value) : FwSt w u (.slice none 0 0) [] (((w.alloc (.cells #[u] 24)).alloc (.cells #[.slice none 0 0] 24)).alloc (.cells #[.slice none 0 0] 24)) := by
  refine ⟨((Blk.new w _ _).alloc _).alloc _, ?_, ?_, World.ownsRow_nil _ _ _ _, (((Below.refl _ w).alloc (Nat.le_refl _) _).alloc (by simp) _).alloc (by simp; omega) _⟩
  · have := (Blk.new (w.alloc (.cells #[u] 24)) 24 #[.slice none 0 0]).alloc (.cells #[.slice none 0 0] 24)
    simpa using this
  · have := Blk.new ((w.alloc (.cells #[u] 24)).alloc (.cells #[.slice none 0 0] 24)) 24 #[.slice none 0 0]
    simpa using this
theorem FwSt.lt {w a : World} {u v : Value} {q : List Ch} (h : FwSt w u v q a) : w.heap.size + 3 ≤ a.heap.size := h.2.2.1.lt
theorem FwSt.below {w a b : World} {n : Nat} {u v : Value} {q : List Ch} (h : FwSt w u v q a) (hb : Below n a b) (hn : a.heap.size ≤ n) : FwSt w u v q b :=
  ⟨h.1.below hb (Nat.lt_of_lt_of_le h.1.lt hn), h.2.1.below hb (Nat.lt_of_lt_of_le h.2.1.lt hn), h.2.2.1.below hb (Nat.lt_of_lt_of_le h.2.2.1.lt hn), rows_below h.2.2.2.1 hb hn, h.2.2.2.2.trans (hb.mono (Nat.le_trans h.2.2.2.2.size hn))⟩
theorem FwSt.app {w a w4 : World} {u v v2 : Value} {q : List Ch} {c : Ch} {o : Obj} (h : FwSt w u v q a) (hown : w4.ownsRow (w.heap.size + 3) 54 3 v2 (q.length + 1) (chsCells q ++ chCells c)) (hg : (a.alloc o).grownBy w4 v.ownBlock) :
    w4.cell? ⟨w.heap.size + 2, 0, none⟩ = some v ∧ w4.frozen? ⟨w.heap.size + 2, 0, none⟩ = false ∧ FwSt w u v2 (q ++ [c]) (w4.setCell ⟨w.heap.size + 2, 0, none⟩ v2) := by
  obtain ⟨hb, ho⟩ := app_row h.2.2.2.1 hown hg h.lt
  have b0 := h.1.below hb (by omega)
  have b1 := h.2.1.below hb (by omega)
  have b2 := h.2.2.1.below hb (by omega)
  exact ⟨b2.cell 0, b2.frozen 0, b0.far (by simp) _, b1.far (by simp) _, b2.set_ 0 v2, rows_far ho (by simp) v2, (h.2.2.2.2.trans (hb.mono (by omega))).setCell (by simp) _⟩
/-- The bitmap that is answered. -/
def RoarOne (w : World) (r : List Ch) (e : Ending) (w' : World) : Prop :=
  ∃ y c, e = .returned (.agg #[.slice y r.length c]) ∧ r.length ≤ c ∧ c ≤ maxLen ∧ Chs w'.heap.size w' (.slice y r.length c) r ∧ Below w.heap.size w w' ∧ ∀ b o, y = some ⟨b, o, none⟩ → w.heap.size ≤ b

set_option maxRecDepth 100000 in
set_option maxHeartbeats 4000000 in
theorem fewr_any (x : Option Addr) (len cap : Nat) (r : List Ch) (_hm : len ≤ 9223372036854775807) (hd : ∀ c ∈ r, c.2.2.length ≤ 9223372036854775807) (w : World) (hr : Chs w.heap.size w (.slice x len cap) r) :
    Calls Try.prog 9 #[.agg #[.slice x len cap]] w (RoarOne w (fewR r)) := by
  have hl := hr.len
  have HR := Lib.hid hr
  have HD := Lib.hid hd
  have HS0 := Lib.hid (FwSt.start w (.slice x len cap))
  clear hr hd
  obtain ⟨j0, hj, hy0, hy1, hy2⟩ := info_parts info_chunk
  have HJ := Lib.hid hj; have HY0 := Lib.hid hy0; have HY1 := Lib.hid hy1; have HY2 := Lib.hid hy2
  clear hj hy0 hy1 hy2
  go_enter Try.func9, Try.ntmps9
  go_wp2
  generalize (((w.alloc (.cells #[.slice x len cap] 24)).alloc (.cells #[.slice none 0 0] 24)).alloc (.cells #[.slice none 0 0] 24)) = w1 at *
  go_loopw [4] (fun i wr => ∃ (k : Nat) (v : Value), k ≤ len ∧ k ≤ 20 ∧ i = .int .i64 k ∧ FwSt w (.slice x len cap) v ((r.take k).map cutC) wr) (fun i _ => len - (intOf i).toNat)
  case atStart => exact ⟨0, _, Nat.zero_le _, Nat.zero_le _, rfl, HS0.out⟩
  case round =>
    obtain ⟨k, v, hk, hk2, rfl, hS⟩ := hrel
    have c0 := hS.1.cell 0
    dsimp at c0
    clear HS0
    by_cases hlt : k < len ∧ k < 20
    · obtain ⟨hlt, hlt2⟩ := hlt
      have hlt' : (k : Int) < len := by omega
      have hlt2' : (k : Int) < 20 := by omega
      obtain ⟨b, o, rfl, hb, hc⟩ := HR.out.at_ hlt
      have hc := hc.below hS.2.2.2.2 hb
      obtain ⟨d1, d2, d3⟩ := hc
      have hT : (r.take (k + 1)).map cutC = (r.take k).map cutC ++ [cutC (r.getD k noCh)] := by rw [take_get (by omega), List.map_append]; rfl
      have hlq : ((r.take k).map cutC).length ≤ 20 := by rw [List.length_map, List.length_take]; omega
      have hdk : (r.getD k noCh).2.2.length ≤ 9223372036854775807 := HD.out _ (by rw [List.getD_eq_getElem?_getD, List.getElem?_eq_getElem (by omega)]; exact List.getElem_mem _)
      have HT := Lib.hid hT
      generalize r.getD k noCh = c at *
      generalize (r.take k).map cutC = q at *
      obtain ⟨q0, f, d⟩ := c
      dsimp only at d1 d2 d3 hdk
      obtain ⟨m, hm', hmin⟩ : ∃ m : Nat, m = min d.length 260 ∧ ∀ (ts : Array TypeId) (t : TypeId) (W : World), (Builtin.min_ ts t #[.int .i64 (d.length : Int), .int .i64 260]).run Try.prog W = .ok (.int .i64 (m : Int)) W := ⟨min d.length 260, rfl, fun ts t W => by
        rw [run_min_int2]
        congr 2
        split <;> omega⟩
      have hext := (ext_mk d 0 m).trans (mk_str (b := d.take 260) (by rw [List.drop_zero, hm', take_minC]))
      have hml : (m : Int) ≤ d.length := by omega
      have hS6 := hS.below ((Below.refl _ wr).alloc (Nat.le_refl _) (.cells #[.int .i64 q0, .int .i64 f, .string ⟨(d.take 260).toArray⟩] 54)) (Nat.le_refl _)
      have c1 := hS6.2.2.1.cell 0
      dsimp at c1
      have hC : cutC (q0, f, d) = (q0, f, d.take 260) := rfl
      rw [hC] at HT
      clear hT hm' hl hC HR HD hb hS
      go_wp2_with (at_builtin; refine wpList_append_own _ rfl _ _ 22 rfl (w.heap.size + 3) 54 j0 (.agg #[.int .i64 0, .int .i64 0, .string ⟨#[]⟩]) 3 32 Try.underlying22 HJ.out HY0.out HY1.out HY2.out rfl (by decide) _ _ _ rfl (hS6.2.2.2.1.alloc _) ⟨wr.heap.size + 1, 0, none⟩ 1 1 [.int .i64 q0, .int .i64 f, .string ⟨(d.take 260).toArray⟩] rfl rfl (by have := cells_three (wr.alloc (.cells #[.int .i64 q0, .int .i64 f, .string ⟨(d.take 260).toArray⟩] 54)) (.int .i64 q0) (.int .i64 f) (.string ⟨(d.take 260).toArray⟩) 54; rwa [World.size_alloc] at this) (by simp [Value.oneCell']) (by unfold maxLen; omega) (by omega) (by have := hS6.lt; rw [World.size_alloc]; omega) ?_; intro v2 w4 hown4 hgrow2 _; obtain ⟨x2, k2, rfl⟩ := own_slice hown4; obtain ⟨e1, e2, hS9⟩ := FwSt.app (c := (q0, f, d.take 260)) hS6 hown4 hgrow2; rw [← HT.out] at hS9; clear hS6 hown4 hgrow2 HT)
      go_roundw
      case rel => exact ⟨k + 1, _, by omega, by omega, by simp, hS9⟩
      case measure => simp [intOf]; omega
    · have hcs : ¬ (k : Int) < len ∨ ((k : Int) < len ∧ ¬ (k : Int) < 20) := by omega
      have hE : (r.take k).map cutC = fewR r := by
        unfold fewR
        congr 1
        by_cases h : k < len
        · rw [show k = 20 by omega]
        · rw [List.take_of_length_le (by omega), List.take_of_length_le (by omega)]
      rw [hE] at hS
      obtain ⟨y, c, rfl, h1, h2, h3, h4⟩ := own_chs (g := w.heap.size + 1) (u := v) hS.2.2.2.1 (by omega)
      have c1 := hS.2.2.1.cell 0
      have f1 := hS.2.1.frozen 0
      have g1 := hS.2.1.cell 0
      dsimp at c1 g1
      have hE2 := hS.2.1.set_ 0 (.slice y (fewR r).length c)
      have hD := hS.2.2.2.2.setCell (p := ⟨w.heap.size + 1, 0, none⟩) (by simp) (.slice y (fewR r).length c)
      have H3 := Lib.hid h3
      have H4 : Hid (∀ b o, y = some ⟨b, o, none⟩ → w.heap.size ≤ b) := Lib.hid (fun b o e => by have := h4 b o e; omega)
      clear hS h3 h4 hE HR HD
      rcases hcs with h5 | ⟨h5, h6⟩
      all_goals
        go_wp2
        exact ret_roar rfl rfl hE2 rfl ⟨y, c, rfl, h1, h2, H3.out, hD, H4.out⟩
set_option maxRecDepth 100000 in
theorem fewz_any (x : Option Addr) (len cap : Nat) (hlc : len ≤ cap) (_hcm : cap ≤ 9223372036854775807) (w : World) : Calls Try.prog 11 #[.slice x len cap] w fun e w' => e = .returned (.slice x (min len 300) cap) ∧ w = w' := by
  by_cases h : (len : Int) ≤ 300
  · have hm : min len 300 = len := by omega
    have HM := Lib.hid hm
    clear hm
    go_enter Try.func11, Try.ntmps11
    go_wp2
    go_ret
    exact ⟨by rw [HM.out]; first | rfl | (rw [Int.min_eq_left h]; rfl), rfl⟩
  · have hm : min len 300 = 300 := by omega
    have HM := Lib.hid hm
    clear hm
    go_enter Try.func11, Try.ntmps11
    go_wp2
    go_ret
    exact ⟨by rw [HM.out]; first | rfl | (rw [Int.min_eq_right (by omega)]; rfl), rfl⟩
end Go.Proofs.Ytbfchlfagdhglaa
/- What the rows of this layer's laws share: what an argument reads as. -/
namespace Go.Proofs.Ytbfchlfagdhglaa
open Go.ChangeShapes Go.WideShapes Go.ChangeAt Go.RowKit Go.Joins

theorem own : ownKnob Try.prog.godebug = none := by kernel_rfl
theorem i64_of_wf {n : Int} (h : (Lit.int .i64 n).wf = true) : -9223372036854775808 ≤ n ∧ n ≤ 9223372036854775807 := by
  simp only [Lit.wf, Bool.and_eq_true, decide_eq_true_eq] at h; exact h
section
variable {H : Type} {enc : TypeId × Value → H}
theorem cellsI : Try.prog.cellsOf 3 = 1 := by kernel_rfl
set_option maxRecDepth 100000 in
theorem in64_of {zs : List Int} (h : ∀ n ∈ zs, (Lit.int .i64 n).wf = true) : In64 zs := fun j => by
  by_cases hj : j < zs.length
  · rw [List.getElem?_eq_getElem hj]
    exact i64_of_wf (h _ (List.getElem_mem hj))
  · rw [List.getElem?_eq_none (by omega)]
    decide
set_option maxRecDepth 100000 in
/-- Numbers in a slice: they lie in old memory, and read as before wherever that lies as it lay. -/
theorem open_numbers {W : World} {r : Reach} {b0 : Nat} {v : Value} {d : DataW H} {p : List MemPlace} (hv : Value.okWide Try.prog W r b0 25 v) (h : DataW.Trod enc Try.prog W 0 (fun _ => true) true 25 v d p) (hlt : ∀ q ∈ p, q.block < W.heap.size) :
    ∃ (x : Option Addr) (len cap : Nat) (zs : List Int), v = .slice x len cap ∧ len ≤ cap ∧ cap ≤ 9223372036854775807 ∧ zs.length = len ∧ In64 zs ∧ Ints W.heap.size W v zs ∧
      ∀ W', Below W.heap.size W W' → ∀ sp : Nat → Bool, (∀ q ∈ p, sp q.block = true) → DataW.Trod enc Try.prog W' 0 sp true 25 v d p := by
  obtain ⟨x, len, cap, rfl⟩ := okWide_slice Try.underlying25 hv
  obtain ⟨fuel, hf⟩ := h
  rcases open_ints Try.underlying25 Try.underlying3 cellsI hf with ⟨hcs, hx⟩ | ⟨a, len', cap', zs, hcs, _, hl, hm, hz, hx, hcell, hwz⟩
  · simp [Value.cells] at hcs
    obtain ⟨rfl, rfl, rfl⟩ := hcs
    simp only [Prod.mk.injEq] at hx
    obtain ⟨rfl, rfl⟩ := hx
    exact ⟨none, 0, 0, [], rfl, Nat.le_refl _, by decide, rfl, fun j => by simp, .inl ⟨⟨none, 0, rfl⟩, rfl⟩, fun W' _ sp _ => shut_slice_nil Try.underlying25⟩
  · simp [Value.cells] at hcs
    obtain ⟨rfl, rfl, rfl⟩ := hcs
    simp only [Prod.mk.injEq] at hx
    obtain ⟨rfl, rfl⟩ := hx
    simp only [if_true] at hz
    have hm' : cap ≤ 9223372036854775807 := by unfold maxLen at hm; omega
    have htl : (zs.take len).length = len := by rw [List.length_take]; omega
    have hblk : 0 < zs.length → a.block < W.heap.size := fun h0 => hlt (.cell a.block a.off) (MemPlace.mem_row.2 ⟨0, h0, by simp⟩)
    refine ⟨some a, len, cap, zs.take len, rfl, hl, hm', htl, in64_of (fun n hn => hwz n (List.mem_of_mem_take hn)), ?_, ?_⟩
    · by_cases hl0 : len = 0
      · subst hl0
        exact .inl ⟨⟨some a, cap, rfl⟩, by simp⟩
      · obtain ⟨b, off, spot⟩ := a
        have hspot : spot = none := by simpa [Addr.add] using World.cell?_spot (hcell 0 (by omega))
        subst hspot
        refine .inr ⟨b, off, cap, by rw [htl], hblk (by omega), fun j hj => ?_⟩
        rw [htl] at hj
        have h1 := hcell j (by omega)
        rw [add_plain] at h1
        rw [h1, List.getElem?_take, if_pos hj]
        rfl
    · intro W' hB sp hsp
      by_cases hz0 : zs.length = 0
      · have hc0 : cap = 0 := by omega
        have hl0 : len = 0 := by omega
        subst hc0; subst hl0
        have t0 := shut_ints (enc := enc) (w := W') (base := 0) (spare := sp) (held := true) (a := a) (len := 0) (cap := 0) (zs := zs) 0 Try.underlying25 Try.underlying3 cellsI (Nat.zero_le _) (Nat.le_refl _) hm (by simp [hz0]) (fun i hi => by omega) hwz
        exact ⟨2, by simpa [Value.cells] using t0⟩
      · have hspb : sp a.block = true := hsp (.cell a.block a.off) (MemPlace.mem_row.2 ⟨0, by omega, by simp⟩)
        have hlt' := hblk (by omega)
        have t0 := shut_ints (enc := enc) (w := W') (base := 0) (spare := sp) (held := true) (a := a) (len := len) (cap := cap) (zs := zs) 0 Try.underlying25 Try.underlying3 cellsI (Nat.zero_le _) hl hm (by simp [hspb, hz]) (fun i hi => (hB.cell (by rw [block_add]; exact hlt')).trans (hcell i hi)) hwz
        exact ⟨2, by simpa [Value.cells] using t0⟩
end
end Go.Proofs.Ytbfchlfagdhglaa
