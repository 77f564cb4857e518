/- The program's Build. -/
import Derived.Test.YthoegicchjadaaaDoorDRight
import Derived.Test.YthoegicchjadaaaDoorDShelf
import Derived.Laws.CopyOwn
import Derived.Laws.MakeOwn
import Derived.Sort.OwnSorted
import Derived.OwnWalk
namespace Go.Proofs.YthoegicchjadaaaDoor
open Go.RowKit Go.Sort

/-- Texts in a slice whose capacity is one. -/
def Lst (n₀ : Nat) (W : World) (v : Value) (ls : List (List UInt8)) : Prop := ∃ (x : Option Addr) (cap : Nat), v = .slice x ls.length cap ∧ ls.length ≤ cap ∧ cap ≤ 9223372036854775807 ∧ Strs n₀ W v ls
theorem Lst.below {n₀ : Nat} {W W' : World} {v : Value} {ls : List (List UInt8)} (h : Lst n₀ W v ls) (hb : Below n₀ W W') : Lst n₀ W' v ls := by
  obtain ⟨x, cap, e, h1, h2, hs⟩ := h
  exact ⟨x, cap, e, h1, h2, hs.below hb⟩
theorem Lst.mono {n₀ n₁ : Nat} {W : World} {v : Value} {ls : List (List UInt8)} (h : Lst n₀ W v ls) (hn : n₀ ≤ n₁) : Lst n₁ W v ls := by
  obtain ⟨x, cap, e, h1, h2, hs⟩ := h
  exact ⟨x, cap, e, h1, h2, hs.mono hn⟩
theorem Lst.none {n₀ : Nat} {W : World} : Lst n₀ W (.slice .none 0 0) [] := ⟨.none, 0, rfl, Nat.le_refl _, by decide, Strs.none⟩
theorem lst_own {n₀ : Nat} {W : World} {v : Value} {ls : List (List UInt8)} (h : OwnS n₀ W v ls) : Lst W.heap.size W v ls := by
  obtain ⟨hs, x, cap, e⟩ := strs_own h
  have hc : ls.length ≤ cap ∧ cap ≤ 9223372036854775807 := by
    rcases h.2 with ⟨hv, h0⟩ | ⟨g, cap', cur, hv, _, _, h1, h2, _⟩
    · rw [e] at hv
      simp only [Value.slice.injEq] at hv
      omega
    · rw [e] at hv
      simp only [Value.slice.injEq] at hv
      unfold maxLen at h2
      omega
  exact ⟨x, cap, e, hc.1, hc.2, hs⟩

theorem make_strs (n : Nat) (hn : n ≤ 100000) (W : World) : (Instr.makeSlice 22 (.int .i64 n) (.int .i64 n)).run Tryd.prog W = .ok (.slice (some ⟨W.heap.size, 0, .none⟩) n n) (W.alloc (.cells (List.replicate n (.string ⟨#[]⟩)).toArray 9)) := by
  obtain ⟨i0, hi, hz0, hz1, hz2⟩ := info_parts info_str
  have h := run_make (P := Tryd.prog) W 22 9 i0 (.string ⟨#[]⟩) Tryd.underlying22 hi hz0 .i64 .i64 n n (by omega) (by omega) (by rw [hz2]; omega) (by omega)
  rw [hz1] at h
  have e : madeCells #[Value.string ⟨#[]⟩] n = (List.replicate n (Value.string ⟨#[]⟩)).toArray := by
    apply Array.toList_inj.1
    rw [toList_madeCells_one]
  rw [h]
  simp [Value.cells, e]
/-- What Build answers. -/
def BuildPost (ls : List (List UInt8)) (w : World) (e : Ending) (w' : World) : Prop := Below w.heap.size w w' ∧
  ((RightL (uniq ls) ∧ ∃ v, e = .returned (.tuple #[v, .int .i64 0]) ∧ Lst w'.heap.size w' v (uniq ls)) ∨ (¬ RightL (uniq ls) ∧ e = .returned (.tuple #[.slice .none 0 0, .int .i64 50])))

theorem cell_putRow {w : World} {g n : Nat} {os : Array Obj} {cur : Array Value} {e : TypeId} {d : List (List UInt8)} (hb : w.heap[g]? = some (.cells cur e (0, 0))) (hl : d.length ≤ cur.size) :
    ∃ cur', (grow (putRow encStr (Sort.ahead w n) g 0 d.toArray) os).heap[g]? = some (.cells cur' e (0, 0)) ∧ cur'.size = cur.size ∧ cur'.toList.take d.length = d.map encStr :=
  ⟨_, heap_sorted _ hb, by simp [putCells], take_putCells cur d hl⟩

theorem strs_of_row {W : World} {g cap : Nat} {cur : Array Value} {e : TypeId} {ls : List (List UInt8)} (hb : W.heap[g]? = some (.cells cur e (0, 0))) (ht : cur.toList.take ls.length = ls.map encStr) : Strs W.heap.size W (.slice (some ⟨g, 0, .none⟩) ls.length cap) ls := by
  refine .inr ⟨g, 0, cap, rfl, (Array.getElem?_eq_some_iff.1 hb).1, fun j hj => ?_⟩
  have h := (holds_of_block hb ht j (by simpa using hj)).1
  rw [h, getElem!_pos _ j (by simpa using hj)]
  simp [hj]
theorem map_take {α β : Type} (f : α → β) (l : List α) (r : List β) (n : Nat) (h : l.length = n) : (l.map f ++ r).take n = l.map f := by
  rw [List.take_left' (by simpa using h)]
/-- Behind Compact, over a row that a call owns. -/
theorem compacted {W : World} {g q : Nat} {cur : Array Value} {e : TypeId} {zs : List (List UInt8)} (hb : W.heap[g]? = some (.cells cur e (0, 0))) (hl : zs.length ≤ cur.size) (cap : Nat) :
    Strs (putRow encStr (Sort.ahead W q) g 0 (Lib.compact zs ++ List.replicate (zs.length - (Lib.compact zs).length) []).toArray).heap.size (putRow encStr (Sort.ahead W q) g 0 (Lib.compact zs ++ List.replicate (zs.length - (Lib.compact zs).length) []).toArray) (.slice (some ⟨g, 0, .none⟩) (Lib.compact zs).length cap) (Lib.compact zs) := by
  have hc := compact_length_le zs
  obtain ⟨cur', h1, h2, h3⟩ := cell_putRow (n := q) (os := #[]) (d := Lib.compact zs ++ List.replicate (zs.length - (Lib.compact zs).length) []) hb (by simp; omega)
  rw [grow_empty] at h1
  refine strs_of_row h1 ?_
  have h4 := congrArg (List.take (Lib.compact zs).length) h3
  rw [List.take_take, List.length_append, List.map_append, map_take _ _ _ _ rfl, Nat.min_eq_left (by omega)] at h4
  exact h4
theorem below_putRow {n₀ g q : Nat} {W0 W : World} {d : List (List UInt8)} (os : Array Obj) (hB : Below n₀ W0 W) (hn : n₀ ≤ W.heap.size) (hg : n₀ ≤ g) : Below n₀ W0 (grow (putRow encStr (Sort.ahead W q) g 0 d.toArray) os) :=
  hB.grown (grownBy_sorted _) hn (fun k e => by cases e; exact hg)

theorem sort_row (g n c n₀ : Nat) (ls : List (List UInt8)) (hn : ls.length = n) (hl : n ≤ 100000) (W W0 : World) (cur : List Value) (t : TypeId) (hb : W.heap[g]? = some (.cells cur.toArray t (0, 0))) (hcur : cur = strVs ls) (hB : Below n₀ W0 W) (hn0 : n₀ ≤ W.heap.size) (hg : n₀ ≤ g) :
    Calls Tryd.prog 29 #[.slice (some ⟨g, 0, .none⟩) n c] W fun e w' => e = .returned (.tuple #[]) ∧ Below n₀ W0 w' ∧ n₀ ≤ w'.heap.size ∧ ∃ cur' : Array Value, w'.heap[g]? = some (.cells cur' t (0, 0)) ∧ cur'.size = n ∧ cur'.toList.take n = (sortW ls).map encStr := by
  subst hn; subst hcur
  have hH := holds_of_block (ss := ls) hb (by rw [show (strVs ls).toArray.toList = strVs ls by simp, List.take_of_length_le (by simp [strVs])]; rfl)
  refine (sort_strs g 0 c ls W hH (Array.getElem?_eq_some_iff.1 hb).1 (by omega)).mono ?_
  rintro e w' ⟨rfl, k, os, rfl⟩
  obtain ⟨cur', h1, h2, h3⟩ := cell_putRow (n := k) (os := os) (d := sortW ls) hb (by rw [sort_length]; simp [strVs])
  rw [sort_length] at h3
  exact ⟨rfl, below_putRow os hB hn0 hg, Nat.le_trans hn0 (by simp), cur', h1, by rw [h2]; simp [strVs], h3⟩
theorem compact_row (g n c n₀ : Nat) (zs : List (List UInt8)) (hn : zs.length = n) (hl : n ≤ 100000) (hc : n ≤ c) (W W0 : World) (cur : Array Value) (t : TypeId) (hb : W.heap[g]? = some (.cells cur t (0, 0))) (hsz : cur.size = n) (hcur : cur.toList.take n = zs.map encStr) (hB : Below n₀ W0 W) (hn0 : n₀ ≤ W.heap.size) (hg : n₀ ≤ g) :
    Calls Tryd.prog 30 #[.slice (some ⟨g, 0, .none⟩) n c] W fun e w' => e = .returned (.slice (some ⟨g, 0, .none⟩) (Lib.compact zs).length c) ∧ Below n₀ W0 w' ∧ n₀ ≤ w'.heap.size ∧ Strs w'.heap.size w' (.slice (some ⟨g, 0, .none⟩) (Lib.compact zs).length c) (Lib.compact zs) := by
  subst hn
  refine (compact_strs g 0 c zs W (holds_of_block hb hcur) (by omega) hc).mono ?_
  rintro e w' ⟨rfl, k, rfl⟩
  have h := below_putRow (n₀ := n₀) (g := g) (q := k) (d := Lib.compact zs ++ List.replicate (zs.length - (Lib.compact zs).length) []) #[] hB hn0 hg
  rw [grow_empty] at h
  exact ⟨rfl, h, Nat.le_trans hn0 (by simp), compacted hb (by omega) c⟩

set_option maxRecDepth 100000 in
set_option maxHeartbeats 8000000 in
theorem build_any (x : Option Addr) (len cap : Nat) (ls : List (List UInt8)) (hlen : ls.length = len) (hl : len ≤ 100000) (w : World) (hI : Strs w.heap.size w (.slice x len cap) ls) :
    Calls Tryd.prog 12 #[.slice x len cap] w (BuildPost ls w) := by
  have hmk := make_strs len hl w
  have hbk : (w.alloc (.cells (List.replicate len (.string ⟨#[]⟩)).toArray 9)).heap[w.heap.size]? = some (.cells (List.replicate len (Value.string ⟨#[]⟩)).toArray 9 (0, 0)) := World.alloc_heap_new w _
  have hb0 : Below w.heap.size w (w.alloc (.cells (List.replicate len (.string ⟨#[]⟩)).toArray 9)) := (Below.refl _ w).alloc (Nat.le_refl _) _
  have hsr : Hid (0 < (strVs ls).length → (some ⟨w.heap.size, 0, .none⟩ : Option Addr) = some ⟨w.heap.size, 0, .none⟩ ∧ ∃ ad, x = some ad ∧ ∀ j v, (strVs ls)[j]? = some v → (w.alloc (.cells (List.replicate len (.string ⟨#[]⟩)).toArray 9)).cell? (ad.add j) = some v) := Lib.hid (fun h0 => by
    rw [strVs_length] at h0
    obtain ⟨b, off, rfl, hb, _⟩ := hI.at_ (j := 0) (by omega)
    refine ⟨rfl, _, rfl, fun j v hj => ?_⟩
    have hjl : j < ls.length := by
      have := (List.getElem?_eq_some_iff.1 hj).1
      rwa [strVs_length] at this
    obtain ⟨b', off', e, _, hc⟩ := hI.at_ (j := j) (by omega)
    cases e
    rw [show (⟨b, off, .none⟩ : Addr).add j = ⟨b, off + j, .none⟩ by simp [Addr.add]]
    rw [(hb0.cell (p := ⟨b, off + j, .none⟩) hb).trans hc]
    simp only [strVs, List.getElem?_map, List.getElem?_eq_getElem hjl, Option.map_some, Option.some.injEq] at hj
    rw [← hj, List.getElem?_eq_getElem hjl]; rfl)
  have HL := Lib.hid hlen
  have hvl : (strVs ls).length = len := by rw [strVs_length, hlen]
  have HSP : Hid (splice (List.replicate len (Value.string ⟨#[]⟩)) 0 (strVs ls) = strVs ls) := Lib.hid (by unfold splice; rw [hvl]; simp)
  obtain ⟨i0, hi, hz0, hz1, hz2⟩ := info_parts info_str
  have HU := Lib.hid (uniq_length ls)
  clear hI hlen
  go_enter Tryd.func12, Tryd.ntmps12
  go_wp2_with ((with_reducible show wpList _ _ _ _ _ _); refine wpList_copy_splice (o := ⟨some 10, _, _, _, _, _⟩) rfl (.tmp 8) (.tmp 9) 22 22 rfl 9 Tryd.underlying22 ?c1 (some ⟨w.heap.size, 0, .none⟩) x len len len cap rfl rfl w.heap.size 0 (List.replicate len (.string ⟨#[]⟩)) 9 hbk (strVs ls) ?c2 hsr.out ?c3 ?c4 w.heap.size w hb0 (Nat.le_refl _) ?_)
  case c4 => intro v hv; obtain ⟨l, _, rfl⟩ := List.mem_map.1 hv; simp [Value.oneCell']
  intro w2 HG2 hB2
  have hG2 := HG2.out
  rw [HSP.out] at hG2
  have HS := Lib.hid (sort_row w.heap.size len len w.heap.size ls HL.out hl w2 w _ _ hG2 rfl hB2 hB2.size (Nat.le_refl _))
  clear hG2 HG2 hsr hbk hb0 HSP hmk hi hz0 hz1 hz2
  go_wp2_with fail
  refine HS.out.mono ?_
  rintro e w3 ⟨rfl, hB3, hs3, cur3, hG3, hz3, ht3⟩
  have HC := Lib.hid (compact_row w.heap.size len len w.heap.size (sortW ls) (by rw [sort_length]; exact HL.out) hl (Nat.le_refl _) w3 w cur3 _ hG3 hz3 ht3 hB3 hs3 (Nat.le_refl _))
  clear hG3 hz3 ht3 hs3 HS hB2
  go_wp2_with fail
  refine HC.out.mono ?_
  rintro e w4 ⟨rfl, hB4, hs4, hI4⟩
  have hul := HU.out
  rw [HL.out] at hul
  have HR := Lib.hid (right_any (some ⟨w.heap.size, 0, .none⟩) (uniq ls).length len (uniq ls) rfl (by omega) w4 hI4)
  have HI4 := Lib.hid hI4
  clear hI4 HC hB3
  by_cases hr : RightL (uniq ls)
  · have HP : Hid (∀ w', w' = w4 → BuildPost ls w (.returned (.tuple #[.slice (some ⟨w.heap.size, 0, .none⟩) (uniq ls).length len, .int .i64 0])) w') := Lib.hid (fun w' e => by
      subst e
      exact ⟨hB4, .inl ⟨hr, _, rfl, _, _, rfl, hul, by omega, HI4.out⟩⟩)
    rw [decide_eq_true hr] at HR
    unfold uniq at HR HP
    clear hr hul HU HI4
    go_wp2_with fail
    refine HR.out.mono ?_
    rintro e w5 ⟨rfl, rfl⟩
    go_wp2
    go_ret2
    exact HP.out _ rfl
  · have HP : Hid (∀ w', w' = w4 → BuildPost ls w (.returned (.tuple #[.slice .none 0 0, .int .i64 50])) w') := Lib.hid (fun w' e => by
      subst e
      exact ⟨hB4, .inr ⟨hr, rfl⟩⟩)
    rw [decide_eq_false hr] at HR
    unfold uniq at HR
    clear hr hul HU HI4
    go_wp2_with fail
    refine HR.out.mono ?_
    rintro e w5 ⟨rfl, rfl⟩
    go_wp2
    go_ret2
    exact HP.out _ rfl
end Go.Proofs.YthoegicchjadaaaDoor
