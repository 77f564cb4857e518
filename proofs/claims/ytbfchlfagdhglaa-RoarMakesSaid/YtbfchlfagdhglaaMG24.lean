import Derived.Test.YtbfchlfagdhglaaMG23
import Derived.Deep.Onto
import Derived.DataShut
import Derived.Test.YtbfchlfagdhglaaMG12
import Derived.Test.YtbfchlfagdhglaaMG13
import Derived.Test.YtbfchlfagdhglaaMG14
import Derived.Test.YtbfchlfagdhglaaMG15
import Derived.Test.YtbfchlfagdhglaaMG16
import Derived.Test.YtbfchlfagdhglaaMG21
import Derived.Test.YtbfchlfagdhglaaMG22
import Derived.Test.YtbfchlfagdhglaaMG2
import Derived.LoopTactic
import Derived.RegionTactic
/- A bitmap as a law's argument: a slice of chunks. -/
namespace Go.Proofs.Ytbfchlfagdhglaa
open Go.ChangeShapes Go.WideShapes Go.ChangeAt Go.RowKit Go.Joins
open Go.ChangeMaps (open_string shut_string)

theorem cellsCn : Try.prog.cellsOf 52 = 2 := by kernel_rfl
theorem cellsCh : Try.prog.cellsOf 54 = 3 := by kernel_rfl
theorem cellsSt : Try.prog.cellsOf 9 = 1 := by kernel_rfl
theorem cellsIn : Try.prog.cellsOf 3 = 1 := by kernel_rfl
theorem cellsSl : Try.prog.cellsOf 22 = 1 := by kernel_rfl
theorem cellsRo : Try.prog.cellsOf 24 = 1 := by kernel_rfl
section
variable {H : Type} {enc : TypeId × Value → H} {w : World} {base : Nat} {spare : Nat → Bool} {held : Bool}
set_option maxRecDepth 100000 in
theorem trod_chunk {n : Nat} {cs : List Value} {x : DataW H × List MemPlace} (h : DataW.trod enc Try.prog w base spare held n 54 cs = some x) :
    ∃ c : Ch, cs = chCells c ∧ OkCh c ∧ x.2 = [] ∧ ∀ (w' : World) (base' : Nat) (sp : Nat → Bool) (hd : Bool), DataW.trod enc Try.prog w' base' sp hd 3 54 cs = some x := by
  obtain ⟨y0, y1, n0, rfl, hl, h0, h1⟩ := trod_struct2 Try.underlying54 h
  obtain ⟨z0, z1, n1, rfl, hl1, g0, g1⟩ := trod_struct2 Try.underlying52 h1
  obtain ⟨q, e0, rfl, wq⟩ := DataW.trod_int Try.underlying3 h0
  obtain ⟨f, e1, rfl, wf⟩ := DataW.trod_int Try.underlying3 g0
  obtain ⟨s, e2, rfl, hs⟩ := DataW.trod_string Try.underlying9 g1
  rw [cellsCh] at hl
  match cs, hl with
  | [a, b, c], _ =>
    simp [cellsCn, cellsIn, cellsSt] at e0 e1 e2
    subst e0 e1 e2
    have e : (⟨s.data.toList.toArray⟩ : ByteArray) = s := by cases s; simp
    have hl : s.data.toList.length ≤ 9223372036854775807 := by
      unfold maxLen at hs
      rw [Array.length_toList]
      exact hs
    refine ⟨(q, f, s.data.toList), by unfold chCells; rw [e], ⟨i64_of_wf wq, i64_of_wf wf, hl⟩, rfl, fun w' base' sp hd => ?_⟩
    refine trod_struct2_mk (n := 2) (y0 := (.lit (.int .i64 q), [])) (y1 := (.agg [.lit (.int .i64 f), .lit (.string s.data.toList)], [] ++ [])) Try.underlying54 (by rw [cellsCh]; rfl) ?_ ?_
    · simpa [cellsIn] using trod_int_mk (enc := enc) (w := w') (base := base') (spare := sp) (held := hd) 1 Try.underlying3 wq
    · have := trod_struct2_mk (enc := enc) (w := w') (base := base') (spare := sp) (held := hd) (n := 1) (cs := [.int .i64 f, .string s]) (y0 := (.lit (.int .i64 f), [])) (y1 := (.lit (.string s.data.toList), [])) Try.underlying52 (by rw [cellsCn]; rfl)
        (by simpa [cellsIn] using trod_int_mk (enc := enc) (w := w') (base := base') (spare := sp) (held := hd) 0 Try.underlying3 wf)
        (by simp [cellsSt, DataW.trod, Try.underlying9, hs])
      simpa [cellsCn] using this
theorem cells_get {W : World} {a : Addr} {n : Nat} {cs : List Value} (h : W.cells? 0 a n = some cs) {j : Nat} {u : Value} (hj : cs[j]? = some u) : W.cell? (a.add j) = some u := by
  obtain ⟨_, hlen, hc⟩ := World.cells?_some h
  have hjn : j < n := by
    have := (List.getElem?_eq_some_iff.1 hj).1
    omega
  have := hc j hjn
  rw [hj] at this
  exact this
set_option maxRecDepth 100000 in
/-- A bitmap that comes in: it lies in old memory, and reads as before wherever that lies as it lay. -/
theorem open_roar {W : World} {r : Reach} {b0 : Nat} {v : Value} {d : DataW H} {p : List MemPlace} (hv : Value.okWide Try.prog W r b0 24 v) (h : DataW.Trod enc Try.prog W 0 (fun _ => true) true 24 v d p) (hlt : ∀ q ∈ p, q.block < W.heap.size) :
    ∃ (x : Option Addr) (len cap : Nat) (rl : List Ch), v = .agg #[.slice x len cap] ∧ len ≤ cap ∧ cap ≤ 9223372036854775807 ∧ rl.length = len ∧ (∀ c ∈ rl, OkCh c) ∧ Chs W.heap.size W (.slice x len cap) rl ∧
      ∀ W', Below W.heap.size W W' → ∀ sp : Nat → Bool, (∀ q ∈ p, sp q.block = true) → DataW.Trod enc Try.prog W' 0 sp true 24 v d p := by
  obtain ⟨cs, rfl, hsz⟩ := okWide_struct Try.underlying24 hv
  rw [cellsRo] at hsz
  obtain ⟨fuel, hf⟩ := h
  obtain ⟨y0, n0, hx0, hl0, h0⟩ := trod_struct1 Try.underlying24 hf
  obtain ⟨cl⟩ := cs
  match cl, hsz with
  | [u], _ =>
  simp only [Prod.mk.injEq] at hx0
  obtain ⟨rfl, rfl⟩ := hx0
  obtain ⟨d1, p1⟩ := y0
  simp [cellsSl, Value.cells] at h0
  -- shut again
  have up : ∀ (W' : World) (sp : Nat → Bool), (∃ n, DataW.trod enc Try.prog W' 0 sp true n 22 [u] = some (d1, p1)) → DataW.Trod enc Try.prog W' 0 sp true 24 (.agg #[u]) (.agg [d1]) p1 := fun W' sp ⟨n, hn⟩ => by
    refine ⟨n + 1, ?_⟩
    have := trod_struct1_mk (enc := enc) (w := W') (base := 0) (spare := sp) (held := true) (n := n) (cs := [u]) (y0 := (d1, p1)) Try.underlying24 (by rw [cellsRo]; rfl) (by simpa [cellsSl] using hn)
    simpa [Value.cells] using this
  rcases Deep.open_slice Try.underlying22 h0 with ⟨hcs, hx⟩ | ⟨a, len, cap, m, n, D, Pl, hcs, _, hl, hm, hmm, hx, hcell⟩
  · simp only [List.cons.injEq, and_true] at hcs
    subst hcs
    refine ⟨none, 0, 0, [], rfl, Nat.le_refl _, by decide, rfl, (fun c hc => by cases hc), .inl ⟨⟨none, 0, rfl⟩, rfl⟩, fun W' _ sp _ => up W' sp ?_⟩
    rw [hx]
    exact ⟨1, by simp [DataW.trod, Try.underlying22]⟩
  · simp only [List.cons.injEq, and_true] at hcs
    subst hcs
    simp only [if_true] at hmm
    subst hmm
    have hm' : m ≤ 9223372036854775807 := by unfold maxLen at hm; omega
    obtain ⟨C, hC⟩ := Deep.choose_lt (α := Ch) (p := fun i c => W.cells? 0 (a.add (i * 3)) 3 = some (chCells c) ∧ OkCh c ∧ Pl i = [] ∧ ∀ (w' : World) (base' : Nat) (sp : Nat → Bool) (hd : Bool), DataW.trod enc Try.prog w' base' sp hd 3 54 (chCells c) = some (D i, [])) (fun i hi => by
      obtain ⟨cs', h1, h2⟩ := hcell i hi
      rw [cellsCh] at h1
      obtain ⟨c, rfl, hok, hp, hall⟩ := trod_chunk h2
      have hp' : Pl i = [] := hp
      rw [hp'] at hall
      exact ⟨c, h1, hok, hp', hall⟩)
    have hrow : 0 < m → a.block < W.heap.size := fun h0 => hlt (.cell a.block a.off) (by
      simp only [Prod.mk.injEq] at hx
      rw [hx.2, cellsCh]
      exact List.mem_append_left _ (MemPlace.mem_row.2 ⟨0, by omega, by simp⟩))
    have hnone : 0 < m → a.spot = none := fun h0 => by
      have := cells_get (hC 0 h0).1 (j := 0) rfl
      simpa [Addr.add] using World.cell?_spot this
    have hget : ∀ j, j < len → ((List.range len).map C).getD j noCh = C j := fun j hj => by simp [List.getD_eq_getElem?_getD, hj]
    refine ⟨some a, len, m, (List.range len).map C, rfl, hl, hm', by simp, ?_, ?_, ?_⟩
    · intro c hc
      obtain ⟨i, hi, rfl⟩ := List.mem_map.1 hc
      exact (hC i (by have := List.mem_range.1 hi; omega)).2.1
    · by_cases hl0 : len = 0
      · subst hl0
        exact .inl ⟨⟨some a, m, rfl⟩, by simp⟩
      · obtain ⟨b, off, spot⟩ := a
        have hs := hnone (by omega)
        dsimp only at hs
        subst hs
        refine .inr ⟨b, off, m, by simp, hrow (by omega), fun j hj => ?_⟩
        have hj' : j < len := by simpa using hj
        rw [hget j hj']
        have h1 := (hC j (by omega)).1
        have key : ∀ i, i < 3 → ∀ u, (chCells (C j))[i]? = some u → W.cell? ⟨b, off + j * 3 + i, none⟩ = some u := fun i _ u hu => by
          have := cells_get h1 hu
          rwa [add_plain, add_plain] at this
        exact ⟨key 0 (by decide) _ rfl, key 1 (by decide) _ rfl, key 2 (by decide) _ rfl⟩
    · intro W' hB sp hsp
      refine up W' sp ?_
      rw [hx]
      by_cases hm0 : m = 0
      · subst hm0
        obtain rfl : len = 0 := by omega
        have t0 := Deep.shut_slice_whole_cells (enc := enc) (P := Try.prog) (w := W') (base := 0) (spare := fun _ => true) (held := true) (a := a) (len := 0) (cap := 0) Try.underlying22 (Nat.zero_le _) (Nat.le_refl _) hm rfl D Pl (fun i hi => by omega)
        obtain ⟨n, hn⟩ := t0
        have e : DataW.trod enc Try.prog W' 0 sp true n 22 [.slice (some a) 0 0] = DataW.trod enc Try.prog W' 0 (fun _ => true) true n 22 [.slice (some a) 0 0] := by
          cases n with
          | zero => rfl
          | succ n => simp [DataW.trod, Try.underlying22]
        exact ⟨n, by rw [e]; simpa using hn⟩
      · have hlt' := hrow (by omega)
        have hspb : sp a.block = true := hsp (.cell a.block a.off) (by
          simp only [Prod.mk.injEq] at hx
          rw [hx.2, cellsCh]
          exact List.mem_append_left _ (MemPlace.mem_row.2 ⟨0, by omega, by simp⟩))
        obtain ⟨n, hn⟩ := Deep.shut_slice_whole_cells (enc := enc) (P := Try.prog) (w := W') (base := 0) (spare := sp) (held := true) (a := a) (len := len) (cap := m) Try.underlying22 (Nat.zero_le _) hl hm hspb D Pl (fun i hi => by
          obtain ⟨h1, _, h2, h3⟩ := hC i hi
          obtain ⟨_, hlen, hc⟩ := World.cells?_some h1
          refine ⟨chCells (C i), 3, ?_, by rw [h2]; exact h3 _ _ _ _⟩
          rw [cellsCh]
          exact World.cells?_of_each (Nat.zero_le _) hlen fun j hj => (hB.cell (by rw [block_add, block_add]; exact hlt')).trans (hc j hj))
        exact ⟨n, hn⟩
end
end Go.Proofs.Ytbfchlfagdhglaa
/- What the program's calls answer, in one form. -/
namespace Go.Proofs.Ytbfchlfagdhglaa
open Go.RowKit
/-- A bitmap's length and place, as a call wants them. -/
def OkR (len cap : Nat) (r : List Ch) : Prop := len ≤ cap ∧ cap ≤ 9223372036854775807 ∧ ∀ c ∈ r, OkCh c
theorem OkR.len {len cap : Nat} {r : List Ch} (h : OkR len cap r) : len ≤ 9223372036854775807 := Nat.le_trans h.1 h.2.1
section
variable (x : Option Addr) (len cap : Nat) (r : List Ch) (hk : OkR len cap r) (W : World) (h : Chs W.heap.size W (.slice x len cap) r)
include hk h
theorem right_prog : Calls Try.prog 16 #[.agg #[.slice x len cap]] W fun e w' => e = .returned (.bool (decide (RightZ r))) ∧ Below W.heap.size W w' := right_roar x len cap r hk.2.2 hk.len W h
theorem values_prog : Calls Try.prog 19 #[.agg #[.slice x len cap]] W (ValsRes W (valsZ r)) := values_roar x len cap r hk.2.2 hk.len W h
theorem has_prog (n : Int) (_l : -9223372036854775808 ≤ n) (_u : n ≤ 9223372036854775807) : Calls Try.prog 21 #[.agg #[.slice x len cap], .int .i64 n] W fun e w' => e = .returned (.bool (hasZ r n)) ∧ Below W.heap.size W w' := has_roar x len cap r hk.2.2 hk.len W h n
theorem count_prog : Calls Try.prog 20 #[.agg #[.slice x len cap]] W fun e w' => e = .returned (.int .i64 ((valsZ r).length : Nat)) ∧ Below W.heap.size W w' := count_roar x len cap r hk.2.2 hk.len W h
theorem rank_prog (n : Int) (l : -9223372036854775808 ≤ n) (u : n ≤ 9223372036854775807) : Calls Try.prog 22 #[.agg #[.slice x len cap], .int .i64 n] W fun e w' => e = .returned (.int .i64 (rankN (readZ r) 65536 n : Nat)) ∧ Below W.heap.size W w' := rank_roar x len cap r hk.2.2 hk.len W h n l u
theorem flip_prog (a b : Int) (la : -9223372036854775808 ≤ a) (ua : a ≤ 9223372036854775807) (lb : -9223372036854775808 ≤ b) (ub : b ≤ 9223372036854775807) : Calls Try.prog 25 #[.agg #[.slice x len cap], .int .i64 a, .int .i64 b] W (RoarRes W (flipZ r a b)) := flip_roar a b la ua lb ub x len cap r hk.2.2 hk.len W h
theorem select_prog (p : Int) (l : -9223372036854775808 ≤ p) (u : p ≤ 9223372036854775807) : Calls Try.prog 14 #[.agg #[.slice x len cap], .int .i64 p] W fun e w' => e = .returned (selZ r p) ∧ Below W.heap.size W w' := select_roar x len cap r hk.2.2 hk.len W h p l u
theorem enc_prog : Calls Try.prog 29 #[.agg #[.slice x len cap]] W fun e w' => e = .returned (.tuple #[.string ⟨(encZ r).1.toArray⟩, .int .i64 (encZ r).2]) ∧ Below W.heap.size W w' := enc_roar x len cap r hk.2.2 hk.len W h
end
theorem make_prog (x : Option Addr) (len cap : Nat) (zs : List Int) (hlen : zs.length = len) (hlc : len ≤ 1000000) (_hcm : cap ≤ 9223372036854775807) (_hz : In64 zs) (W : World) (hI : Ints W.heap.size W (.slice x len cap) zs) : Calls Try.prog 10 #[.slice x len cap] W (RoarRes W (makeZ zs)) := make_roar x len cap zs hlen hlc W hI
theorem op_prog (op : Int) (x : Option Addr) (len cap : Nat) (r : List Ch) (hk : OkR len cap r) (y : Option Addr) (len2 cap2 : Nat) (q : List Ch) (hk2 : OkR len2 cap2 q) (W : World) (h : Chs W.heap.size W (.slice x len cap) r) (k : Chs W.heap.size W (.slice y len2 cap2) q) : Calls Try.prog 23 #[.int .i64 op, .agg #[.slice x len cap], .agg #[.slice y len2 cap2]] W (RoarRes W (opZ op r q)) := op_roar op x len cap r hk.2.2 hk.len y len2 cap2 q hk2.2.2 hk2.len W h k
theorem span_prog (a b : Int) (la : -9223372036854775808 ≤ a) (ua : a ≤ 9223372036854775807) (lb : -9223372036854775808 ≤ b) (ub : b ≤ 9223372036854775807) (W : World) : Calls Try.prog 27 #[.int .i64 a, .int .i64 b] W (RoarRes W (flipZ [] a b)) := span_roar a b la ua lb ub W
end Go.Proofs.Ytbfchlfagdhglaa
/- What the laws on bitmaps share: shown. -/
namespace Go.Proofs.Ytbfchlfagdhglaa
open Go.RowKit

theorem ints_cut {n₀ : Nat} {W : World} {x : Option Addr} {len cap : Nat} {zs : List Int} (h : Ints n₀ W (.slice x len cap) zs) (k : Nat) (hl : zs.length = len) : Ints n₀ W (.slice x (min len k) cap) (zs.take k) := by
  rcases h with ⟨⟨x', cap', e⟩, rfl⟩ | ⟨b, off, cap', e, hb, hc⟩
  · cases e
    exact .inl ⟨⟨x, cap, by simp⟩, by simp⟩
  · cases e
    refine .inr ⟨b, off, cap, by rw [List.length_take, Nat.min_comm], hb, fun j hj => ?_⟩
    rw [List.length_take] at hj
    rw [hc j (by omega), List.getElem?_take, if_pos (by omega)]
theorem in64_take {zs : List Int} (h : In64 zs) (k : Nat) : In64 (zs.take k) := fun j => by
  rw [List.getElem?_take]
  split
  · exact h j
  · decide
def n7 : List Nat := [1, 9, 256, 257, 258, 259, 260, 261, 262, 263, 264, 265, 266, 267, 268, 269, 270]
theorem n7_take (k : Nat) (hk : k < 15) : intVs (n7.take (2 + (k + 1))) = intVs (n7.take (2 + k)) ++ [Value.int .i64 ((256 + k : Nat) : Int)] := by
  have : ∀ k : Fin 15, n7.take (2 + (k.val + 1)) = n7.take (2 + k.val) ++ [256 + k.val] := by decide +kernel
  rw [this ⟨k, hk⟩]
  simp [intVs]
theorem zs_n7 : zsOf n7 = l7 := by decide
theorem own_two (w : World) (a b : Value) : (w.alloc (.cells #[a, b] 3)).ownsRow w.heap.size 3 1 (.slice (some ⟨w.heap.size, 0, none⟩) 2 2) 2 [a, b] :=
  ⟨rfl, .inr ⟨w.heap.size, 2, #[a, b], rfl, Nat.le_refl _, heap_alloc_new w _, Nat.le_refl _, by decide, rfl, rfl⟩⟩
theorem ints_one (w : World) (z : Int) : Ints (w.alloc (.cells #[.int .i64 z] 3)).heap.size (w.alloc (.cells #[.int .i64 z] 3)) (.slice (some ⟨w.heap.size, 0, none⟩) 1 1) [z] :=
  .inr ⟨w.heap.size, 0, 1, rfl, by simp, fun j hj => by
    obtain rfl : j = 0 := by simpa using hj
    rw [Nat.zero_add, (Blk.new w 3 #[.int .i64 z]).cell 0]; rfl⟩
theorem own_cap {w : World} {base : Nat} {e : TypeId} {v : Value} {n : Nat} {xs : List Value} (h : w.ownsRow base e 1 v n xs) : ∃ x c, v = .slice x n c ∧ n ≤ c ∧ c ≤ maxLen := by
  rcases h.2 with ⟨rfl, rfl⟩ | ⟨g, cap, cur, rfl, _, _, h1, h2, _⟩
  · exact ⟨_, _, rfl, Nat.le_refl _, by decide⟩
  · exact ⟨_, _, rfl, h1, h2⟩
theorem r7_ok : ∀ c ∈ r7, OkCh c := by
  intro c hc
  unfold r7 at hc
  rcases List.mem_cons.1 hc with rfl | hc
  · exact ⟨⟨by decide, by decide⟩, ⟨by decide, by decide⟩, by decide⟩
  · rw [List.mem_singleton.1 hc]
    exact ⟨⟨by decide, by decide⟩, ⟨by decide, by decide⟩, by decide⟩
theorem in64_l7 : In64 l7 := fun j => by
  rcases Nat.lt_or_ge j 17 with h | h
  · have : ∀ j : Fin 17, -9223372036854775808 ≤ l7[j.val]?.getD 0 ∧ l7[j.val]?.getD 0 ≤ 9223372036854775807 := by decide +kernel
    exact this ⟨j, h⟩
  · rw [List.getElem?_eq_none (by simpa [l7] using h)]; decide
set_option maxRecDepth 100000 in
set_option maxHeartbeats 4000000 in
theorem shownz_any (w : World) : Calls Try.prog 8 #[] w fun e w' => e = .returned (.bool true) ∧ Below w.heap.size w w' := by
  have hB0 : Below w.heap.size w (w.alloc (.cells #[.int .i64 1, .int .i64 9] 3)) := (Below.refl _ w).alloc (Nat.le_refl _) _
  have hO0 := own_two w (.int .i64 1) (.int .i64 9)
  have HM := Lib.hid (fun (x : Option Addr) (c : Nat) (h2 : c ≤ 9223372036854775807) W (h : Ints W.heap.size W (.slice x 17 c) l7) => make_prog x 17 c l7 rfl (by decide) h2 in64_l7 W h)
  rw [make_l7] at HM
  have HM3 := Lib.hid (fun W => make_prog (some ⟨W.heap.size, 0, none⟩) 1 1 [65536] rfl (by decide) (by decide) (fun j => by
    match j with
    | 0 => decide
    | j + 1 => simp) _ (ints_one W 65536))
  rw [make_65536] at HM3
  have HEn := Lib.hid (fun (x : Option Addr) (c : Nat) (h1 : 2 ≤ c) (h2 : c ≤ 9223372036854775807) W h => enc_prog x 2 c r7 ⟨h1, h2, r7_ok⟩ W h)
  rw [enc_r7] at HEn
  obtain ⟨i0, hi, hz0, hz1, hz2⟩ := info_parts info_int
  have HInf := Lib.hid hi; have HZ0 := Lib.hid hz0; have HZ1 := Lib.hid hz1; have HZ2 := Lib.hid hz2
  clear hi hz0 hz1 hz2
  go_enter Try.func8, Try.ntmps8
  go_wp2
  have HB0 := Lib.hid hB0
  have HO0 := Lib.hid hO0
  clear hB0 hO0
  generalize w.alloc (.cells #[.int .i64 1, .int .i64 9] 3) = W0 at *
  go_loopw [1, 2] (fun v i wr => ∃ k : Nat, k ≤ 15 ∧ i = .int .i64 ((256 + k : Nat) : Int) ∧ wr.ownsRow w.heap.size 3 1 v (2 + k) (intVs (n7.take (2 + k))) ∧ Below w.heap.size w wr)
    (fun _ i _ => 271 - (intOf i).toNat)
  case atStart => exact ⟨0, Nat.zero_le _, rfl, HO0.out, HB0.out⟩
  case round =>
    obtain ⟨k, hk, rfl, hown, hB⟩ := hrel
    clear HB0 HO0
    by_cases hlt : k < 15
    · have HT := Lib.hid (n7_take k hlt)
      obtain ⟨j, hj⟩ : ∃ j : Nat, j = 256 + k := ⟨_, rfl⟩
      have HJ : Hid (256 + (k + 1) = j + 1) := Lib.hid (by omega)
      rw [← hj] at HT ⊢
      have hlt' : (j : Int) ≤ 270 := by omega
      clear hj
      go_wp2_with (at_builtin; refine wpList_append_own _ rfl _ _ 25 rfl w.heap.size 3 i0 (.int .i64 0) 1 8 Try.underlying25 HInf.out HZ0.out HZ1.out HZ2.out rfl (by decide) _ _ _ rfl (hown.alloc _) ⟨wr.heap.size, 0, none⟩ 1 1 [.int .i64 j] rfl rfl (cell_one_new _ _ _) (by simp [Value.oneCell']) (by unfold maxLen; omega) (by omega) (by have := hB.size; simp; omega) ?_; intro v2 w2 hown2 hgrow2 _)
      have hB2 : Below w.heap.size w w2 := (hB.alloc hB.size _).grown hgrow2 (by have := hB.size; simp; omega) (fun j e => (hown.lt j e).1)
      rw [← HT.out] at hown2
      go_roundw
      case rel => exact ⟨k + 1, by omega, by rw [HJ.out]; simp, hown2, hB2⟩
      case measure => simp [intOf]; omega
    · obtain rfl : k = 15 := by omega
      have hge : ¬ ((256 + 15 : Nat) : Int) ≤ 270 := by omega
      have e17 : intVs (n7.take (2 + 15)) = intVs n7 := rfl
      rw [e17] at hown
      obtain ⟨xv, cv, rfl, k1, k2⟩ := own_cap hown
      have hI2 := row_zs (l := n7) rfl hown
      rw [zs_n7] at hI2
      have HM2 := Lib.hid (HM.out xv cv (by unfold maxLen at k2; omega) wr hI2)
      clear hown hI2 e17 HM
      go_wp2_with fail
      refine HM2.out.mono ?_
      rintro e w3 ⟨y, c, rfl, m1, m2, m3, hb3, -⟩
      have hl7 : r7.length = 2 := rfl
      simp only [hl7] at m1 m3 ⊢
      clear hl7
      have hB3 := hB.trans (hb3.mono hB.size)
      have hB4 := hB3.alloc hB3.size (.cells #[.slice y 2 c] 24)
      have b3 := Blk.new w3 24 #[.slice y 2 c]
      have m4 := m3.under ((Below.refl _ w3).alloc (Nat.le_refl _) (.cells #[.slice y 2 c] 24))
      have HE2 := Lib.hid (HEn.out y c m1 (by unfold maxLen at m2; omega) _ m4)
      have c0 := b3.cell 0
      dsimp at c0
      clear HM2 hB hB3 hb3 m3 m4 HEn b3
      go_wp2_with fail
      refine HE2.out.mono ?_
      rintro e w4 ⟨rfl, hb4⟩
      have hB5 := hB4.trans (hb4.mono hB4.size)
      have hB6 := hB5.alloc hB5.size (.cells #[.int .i64 65536] 3)
      have HM4 := Lib.hid (HM3.out w4)
      clear HE2 hB4 hB5 hb4 c0 HM3
      go_wp2_with fail
      refine HM4.out.mono ?_
      rintro e w5 ⟨y5, c5, rfl, -, -, -, hb5, -⟩
      have hB7 := hB6.trans (hb5.mono hB6.size)
      have hB8 := hB7.alloc hB7.size (.cells #[.slice y5 0 c5] 24)
      have HB8 := Lib.hid hB8
      clear hB6 hB7 hb5 hB8 HM4
      go_wp2
      go_ret
      exact ⟨rfl, HB8.out⟩
/-- A bitmap in a box, held over calls. -/
def BoxR (g : Nat) (v : Value) (r : List Ch) (W : World) : Prop := Blk W g 24 #[v] ∧ Chs W.heap.size W v r
theorem BoxR.new {W : World} {v : Value} {r : List Ch} (h : Chs W.heap.size W v r) : BoxR W.heap.size v r (W.alloc (.cells #[v] 24)) := ⟨Blk.new W _ _, h.under ((Below.refl _ W).alloc (Nat.le_refl _) _)⟩
theorem BoxR.under {A B : World} {g : Nat} {v : Value} {r : List Ch} (h : BoxR g v r A) (hb : Below A.heap.size A B) : BoxR g v r B := ⟨h.1.under hb, h.2.under hb⟩
theorem BoxR.alloc {A : World} {g : Nat} {v : Value} {r : List Ch} (h : BoxR g v r A) (o : Obj) : BoxR g v r (A.alloc o) := h.under ((Below.refl _ A).alloc (Nat.le_refl _) o)
theorem okCh_of (s : Bs) : ∀ c ∈ ofS s, OkCh c := fun c hc => by
  obtain ⟨j, hj, rfl, _⟩ := mem_ofTo hc
  have h1 := bestF_form (part s j)
  have h2 := best_32 (part s j)
  refine ⟨⟨?_, ?_⟩, ⟨?_, ?_⟩, ?_⟩
  · show (-9223372036854775808 : Int) ≤ (j : Int); omega
  · show (j : Int) ≤ 9223372036854775807; omega
  · show (-9223372036854775808 : Int) ≤ ((bestF (part s j) : Nat) : Int); omega
  · show ((bestF (part s j) : Nat) : Int) ≤ 9223372036854775807; omega
  · show (bestD (part s j)).length ≤ 9223372036854775807; omega
/-- What a call answers that makes a bitmap is a bitmap. -/
theorem okCh_made {r : List Ch} (h : RightZ r) : ∀ c ∈ r, OkCh c := by rw [h.2]; exact okCh_of _
theorem okCh_make (zs : List Int) : ∀ c ∈ (makeZ zs).1, OkCh c := by
  by_cases h : AllQ zs
  · rw [makeZ_good h]; exact okCh_of _
  · rw [makeZ_bad h]; intro c hc; cases hc
theorem okCh_flip (r : List Ch) (a b : Int) : ∀ c ∈ (flipZ r a b).1, OkCh c := by
  by_cases h : RightZ r ∧ okQ a b
  · rw [flipZ_good h.1 h.2]; exact okCh_of _
  · rw [flipZ_bad h]; intro c hc; cases hc
end Go.Proofs.Ytbfchlfagdhglaa
/- The document's Ints: two lists that are the same. -/
namespace Go.Proofs.Ytbfchlfagdhglaa
open Go.RowKit

set_option maxRecDepth 100000 in
set_option maxHeartbeats 2000000 in
theorem same_any (x1 x2 : Option Addr) (len c1 c2 : Nat) (zs : List Int) (hlen : len ≤ 9223372036854775807) (w : World) (h1 : Ints w.heap.size w (.slice x1 len c1) zs) (h2 : Ints w.heap.size w (.slice x2 len c2) zs) :
    Calls Try.prog 18 #[.slice x1 len c1, .slice x2 len c2] w fun e w' => e = .returned (.bool true) ∧ Below w.heap.size w w' := by
  go_enter Try.func18, Try.ntmps18
  go_wp2
  go_loopw [5] (fun i wr => ∃ k : Nat, k ≤ len ∧ i = .int .i64 k ∧ Below w.heap.size w wr) (fun i _ => len - (intOf i).toNat)
  case atStart => exact ⟨0, Nat.zero_le _, rfl, Below.refl _ _⟩
  case round =>
    obtain ⟨k, hk, rfl, hB⟩ := hrel
    by_cases hlt : k < len
    · obtain ⟨b1, o1, rfl, hb1, hc1⟩ := h1.at_ hlt
      obtain ⟨b2, o2, rfl, hb2, hc2⟩ := h2.at_ hlt
      have hd1 : wr.cell? ⟨b1, o1 + k, none⟩ = some (.int .i64 (zs[k]?.getD 0)) := (hB.cell (p := ⟨b1, o1 + k, none⟩) hb1).trans hc1
      have hd2 : wr.cell? ⟨b2, o2 + k, none⟩ = some (.int .i64 (zs[k]?.getD 0)) := (hB.cell (p := ⟨b2, o2 + k, none⟩) hb2).trans hc2
      generalize zs[k]?.getD 0 = z at *
      have hlt' : (k : Int) < len := by omega
      clear hc1 hc2
      go_wp2
      go_region
      all_goals
        go_wp2
        go_roundw
        case rel => exact ⟨k + 1, by omega, by simp, hB.drew⟩
        case measure => simp [intOf]; omega
    · obtain rfl : k = len := by omega
      have hge : ¬ (k : Int) < k := by omega
      go_wp2
      go_ret
      exact ⟨rfl, hB⟩
end Go.Proofs.Ytbfchlfagdhglaa
