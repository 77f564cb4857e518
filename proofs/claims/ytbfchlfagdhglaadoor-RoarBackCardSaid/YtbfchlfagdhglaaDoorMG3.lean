import Derived.Test.YtbfchlfagdhglaaDoorMG2
import Derived.BigQuiet
import Derived.StillTailTactics
import Derived.Laws.MakeOwn
import Derived.Laws.IdiomStrings
import Derived.Lib.BufferRead
import Derived.Lib.ConvBytes
import Derived.Maps.AppendAt
import Derived.LoopTactic
import Derived.OwnWalk
import Derived.Lib.SmallJoins
/- Chunks in memory. -/
namespace Go.Proofs.YtbfchlfagdhglaaDoor
open Go.RowKit

/-- No chunk (what stands behind the last one). -/
def noCh : Ch := (0, 0, [])
def chCells (c : Ch) : List Value := [.int .i64 c.1, .int .i64 c.2.1, .string ⟨c.2.2.toArray⟩]
def chsCells (r : List Ch) : List Value := r.flatMap chCells
theorem chsCells_length (r : List Ch) : (chsCells r).length = r.length * 3 := by
  induction r with
  | nil => rfl
  | cons c r ih =>
    unfold chsCells at ih ⊢
    rw [List.flatMap_cons, List.length_append, ih, List.length_cons]
    show 3 + r.length * 3 = _
    omega
theorem chsCells_append (r q : List Ch) : chsCells (r ++ q) = chsCells r ++ chsCells q := by unfold chsCells; rw [List.flatMap_append]
theorem chsCells_one (c : Ch) : chsCells [c] = chCells c := by simp [chsCells]
theorem chsCells_get : ∀ (r : List Ch) (j i : Nat), j < r.length → i < 3 → (chsCells r)[j * 3 + i]? = (chCells (r.getD j noCh))[i]?
  | c :: r, 0, i, _, hi => by
    show ((chCells c) ++ chsCells r)[0 * 3 + i]? = _
    rw [List.getElem?_append_left (by show 0 * 3 + i < 3; omega), Nat.zero_mul, Nat.zero_add]; rfl
  | c :: r, j + 1, i, hj, hi => by
    show ((chCells c) ++ chsCells r)[(j + 1) * 3 + i]? = _
    rw [List.getElem?_append_right (by show 3 ≤ (j + 1) * 3 + i; omega), show (j + 1) * 3 + i - (chCells c).length = j * 3 + i by show (j + 1) * 3 + i - 3 = _; omega, chsCells_get r j i (by simpa using hj) hi]
    rfl
/-- Chunk j's cells. -/
def ChAt (W : World) (b p : Nat) (c : Ch) : Prop := W.cell? ⟨b, p, none⟩ = some (.int .i64 c.1) ∧ W.cell? ⟨b, p + 1, none⟩ = some (.int .i64 c.2.1) ∧ W.cell? ⟨b, p + 2, none⟩ = some (.string ⟨c.2.2.toArray⟩)
theorem ChAt.below {n : Nat} {A B : World} (h : Below n A B) {b p : Nat} {c : Ch} (hb : b < n) (hc : ChAt A b p c) : ChAt B b p c :=
  ⟨(h.cell (p := ⟨b, p, none⟩) hb).trans hc.1, (h.cell (p := ⟨b, p + 1, none⟩) hb).trans hc.2.1, (h.cell (p := ⟨b, p + 2, none⟩) hb).trans hc.2.2⟩
/-- The slice value sv holds the chunks r, in a block below n₀; or there are none. -/
def Chs (n₀ : Nat) (W : World) (sv : Value) (r : List Ch) : Prop :=
  ((∃ x cap, sv = .slice x 0 cap) ∧ r = []) ∨ ∃ b off cap, sv = .slice (some ⟨b, off, none⟩) r.length cap ∧ b < n₀ ∧ ∀ j, j < r.length → ChAt W b (off + j * 3) (r.getD j noCh)
theorem Chs.below {n₀ : Nat} {A B : World} (h : Below n₀ A B) {sv : Value} {r : List Ch} : Chs n₀ A sv r → Chs n₀ B sv r
  | .inl e => .inl e
  | .inr ⟨b, off, cap, e, hb, hc⟩ => .inr ⟨b, off, cap, e, hb, fun j hj => (hc j hj).below h hb⟩
theorem Chs.more {n₀ n₁ : Nat} {A : World} (h : n₀ ≤ n₁) {sv : Value} {r : List Ch} : Chs n₀ A sv r → Chs n₁ A sv r
  | .inl e => .inl e
  | .inr ⟨b, off, cap, e, hb, hc⟩ => .inr ⟨b, off, cap, e, Nat.lt_of_lt_of_le hb h, hc⟩
theorem Chs.under {A B : World} (h : Below A.heap.size A B) {sv : Value} {r : List Ch} (hc : Chs A.heap.size A sv r) : Chs B.heap.size B sv r := (hc.below h).more h.size
theorem Chs.len {n₀ : Nat} {W : World} {x : Option Addr} {len cap : Nat} {r : List Ch} (h : Chs n₀ W (.slice x len cap) r) : r.length = len := by
  rcases h with ⟨⟨x', cap', e⟩, rfl⟩ | ⟨b, off, cap', e, _⟩
  · cases e; rfl
  · cases e; rfl
/-- Chunk j, where there is one. -/
theorem Chs.at_ {n₀ : Nat} {W : World} {x : Option Addr} {len cap : Nat} {r : List Ch} (h : Chs n₀ W (.slice x len cap) r) {j : Nat} (hj : j < len) : ∃ b off, x = some ⟨b, off, none⟩ ∧ b < n₀ ∧ ChAt W b (off + j * 3) (r.getD j noCh) := by
  rcases h with ⟨⟨x', cap', e⟩, _⟩ | ⟨b, off, cap', e, hb, hc⟩
  · cases e; omega
  · cases e
    exact ⟨b, off, rfl, hb, hc j hj⟩
/-- A row of chunks that is owned is a list of chunks. -/
theorem chs_row {w : World} {base : Nat} {v : Value} {n : Nat} {r : List Ch} (hn : r.length = n) (h : w.ownsRow base 48 3 v n (chsCells r)) : ∃ x cap, v = .slice x n cap ∧ n ≤ cap ∧ cap ≤ maxLen ∧ Chs w.heap.size w (.slice x n cap) r ∧ ∀ b o, x = some ⟨b, o, none⟩ → base ≤ b := by
  rcases h.2 with ⟨e, h0⟩ | ⟨g, c2, cur, e, hbg, hg, h1, h2, _⟩
  · subst h0
    exact ⟨none, 0, e, Nat.le_refl _, by decide, .inl ⟨⟨none, 0, rfl⟩, List.eq_nil_of_length_eq_zero hn⟩, fun _ _ e => by cases e⟩
  · subst e
    refine ⟨_, c2, rfl, h1, h2, .inr ⟨g, 0, c2, by rw [hn], (Array.getElem?_eq_some_iff.1 hg).1, fun j hj => ?_⟩, fun b o e => by cases e; exact hbg⟩
    have key : ∀ i, i < 3 → ∀ u, (chCells (r.getD j noCh))[i]? = some u → w.cell? ⟨g, 0 + j * 3 + i, none⟩ = some u := fun i hi u hu => by
      have := h.cells (g := g) rfl (j * 3 + i) u (by rw [chsCells_get r j i hj hi]; exact hu)
      rw [Nat.zero_add]
      rwa [show (⟨g, 0, none⟩ : Addr).add (j * 3 + i) = ⟨g, j * 3 + i, none⟩ by unfold Addr.add; split <;> simp_all] at this
    exact ⟨key 0 (by decide) _ rfl, key 1 (by decide) _ rfl, key 2 (by decide) _ rfl⟩
theorem info_chunk : (Tryd.prog.info? 48).map (fun i => (i.zero, i.size, i.bytes)) = some (some (.agg #[.int .i64 0, .int .i64 0, .string ⟨#[]⟩]), 3, 32) := by kernel_rfl
theorem info_roar : (Tryd.prog.info? 24).map (fun i => (i.zero, i.size, i.bytes)) = some (some (.agg #[.slice none 0 0]), 1, 24) := by kernel_rfl
end Go.Proofs.YtbfchlfagdhglaaDoor
/- The document's answer: are two bitmaps the same (tesseraeref07.Same)? -/
namespace Go.Proofs.YtbfchlfagdhglaaDoor
open Go.RowKit

theorem ch_cases (c e : Ch) : ¬ c.1 = e.1 ∨ (c.1 = e.1 ∧ ¬ c.2.1 = e.2.1) ∨ (c.1 = e.1 ∧ c.2.1 = e.2.1 ∧ ¬ c.2.2 = e.2.2) ∨ (c.1 = e.1 ∧ c.2.1 = e.2.1 ∧ c.2.2 = e.2.2) := by
  by_cases h1 : c.1 = e.1
  · by_cases h2 : c.2.1 = e.2.1
    · by_cases h3 : c.2.2 = e.2.2
      · exact .inr (.inr (.inr ⟨h1, h2, h3⟩))
      · exact .inr (.inr (.inl ⟨h1, h2, h3⟩))
    · exact .inr (.inl ⟨h1, h2⟩)
  · exact .inl h1
theorem ch_ext {c e : Ch} (h : c.1 = e.1 ∧ c.2.1 = e.2.1 ∧ c.2.2 = e.2.2) : c = e := Prod.ext h.1 (Prod.ext h.2.1 h.2.2)
theorem take_eq {r q : List Ch} {k : Nat} (hr : k < r.length) (hq : k < q.length) (hp : r.take k = q.take k) (h : r.getD k noCh = q.getD k noCh) : r.take (k + 1) = q.take (k + 1) := by
  rw [List.getD_eq_getElem?_getD, List.getElem?_eq_getElem hr, List.getD_eq_getElem?_getD, List.getElem?_eq_getElem hq] at h
  rw [List.take_add_one, List.take_add_one, hp, List.getElem?_eq_getElem hr, List.getElem?_eq_getElem hq]
  simp only [Option.getD_some] at h
  rw [h]
theorem get_ne {r q : List Ch} {k : Nat} (h : r.getD k noCh ≠ q.getD k noCh) : decide (r = q) = false := decide_eq_false fun e => h (by rw [e])
/-- The two boxes. -/
def SmSt (w : World) (u v : Value) (W : World) : Prop := Blk W w.heap.size 24 #[u] ∧ Blk W (w.heap.size + 1) 24 #[v] ∧ Below w.heap.size w W
theorem SmSt.start (w : World) (u v : Value) : SmSt w u v ((w.alloc (.cells #[u] 24)).alloc (.cells #[v] 24)) :=
  ⟨(Blk.new w _ _).alloc _, by simpa using Blk.new (w.alloc (.cells #[u] 24)) 24 #[v], ((Below.refl _ w).alloc (Nat.le_refl _) _).alloc (by simp) _⟩
theorem SmSt.drewN {w wr : World} {u v : Value} (h : SmSt w u v wr) (n : Nat) : SmSt w u v (wr.drewN n) := ⟨h.1.drewN n, h.2.1.drewN n, ⟨h.2.2.os, h.2.2.tape, h.2.2.output, h.2.2.size, h.2.2.block⟩⟩
theorem SmSt.drew {w wr : World} {u v : Value} (h : SmSt w u v wr) : SmSt w u v wr.drew := ⟨h.1.drew, h.2.1.drew, h.2.2.drew⟩

set_option maxRecDepth 100000 in
set_option maxHeartbeats 4000000 in
theorem ref_same_any (x : Option Addr) (len cap : Nat) (r : List Ch) (y : Option Addr) (len2 cap2 : Nat) (q : List Ch) (hm : len ≤ 9223372036854775807) (hm2 : len2 ≤ 9223372036854775807) (w : World)
    (hr : Chs w.heap.size w (.slice x len cap) r) (hq : Chs w.heap.size w (.slice y len2 cap2) q) :
    Calls Tryd.prog 12 #[.agg #[.slice x len cap], .agg #[.slice y len2 cap2]] w fun e w' => e = .returned (.bool (decide (r = q))) ∧ Below w.heap.size w w' := by
  have hl := hr.len
  have hl2 := hq.len
  have HS0 := Lib.hid (SmSt.start w (.slice x len cap) (.slice y len2 cap2))
  have HR := Lib.hid hr; have HQ := Lib.hid hq
  clear hr hq
  go_enter Tryd.func12, Tryd.ntmps12
  by_cases hll : len = len2
  · subst hll
    have hll2 : ¬ ((len : Int) ≠ (len : Int)) := by omega
    go_wp2
    generalize ((w.alloc (.cells #[.slice x len cap] 24)).alloc (.cells #[.slice y len cap2] 24)) = w1 at *
    go_loopw [5] (fun i wr => ∃ k : Nat, k ≤ len ∧ i = .int .i64 k ∧ r.take k = q.take k ∧ SmSt w (.slice x len cap) (.slice y len cap2) wr) (fun i _ => len - (intOf i).toNat)
    case atStart => exact ⟨0, Nat.zero_le _, rfl, rfl, HS0.out⟩
    case round =>
      obtain ⟨k, hk, rfl, hp, hS⟩ := hrel
      have c0 := hS.1.cell 0; have c1 := hS.2.1.cell 0
      dsimp at c0 c1
      by_cases hlt : k < len
      · have hlt' : (k : Int) < len := by omega
        obtain ⟨b, o, rfl, hb, hc⟩ := HR.out.at_ hlt
        obtain ⟨b', o', rfl, hb', hc'⟩ := HQ.out.at_ hlt
        have hc := hc.below hS.2.2 hb
        have hc' := hc'.below hS.2.2 hb'
        obtain ⟨d1, d2, d3⟩ := hc
        obtain ⟨e1, e2, e3⟩ := hc'
        have hcs := ch_cases (r.getD k noCh) (q.getD k noCh)
        have HY := Lib.hid (fun h => take_eq (r := r) (q := q) (k := k) (by omega) (by omega) hp (ch_ext h))
        have HN := Lib.hid (fun h => get_ne (r := r) (q := q) (k := k) h)
        have HS := Lib.hid hS
        clear hp HR HQ HS0 hS hl hl2 hb hb'
        generalize r.getD k noCh = c at *
        generalize q.getD k noCh = e at *
        rcases hcs with h1 | ⟨h1, h2⟩ | ⟨h1, h2, h3⟩ | ⟨h1, h2, h3⟩
        rotate_right
        · have HY2 := Lib.hid (HY.out ⟨h1, h2, h3⟩)
          obtain ⟨a1, a2, a3⟩ := c
          obtain ⟨b1, b2, b3⟩ := e
          dsimp only at d1 d2 d3 e1 e2 e3 h1 h2 h3
          subst h1 h2 h3
          clear HY HN
          go_wp2
          go_quiet (fail)
          go_wp2
          go_roundw
          case rel => exact ⟨k + 1, by omega, by simp, HY2.out, HS.out.drewN _⟩
          case measure => simp [intOf]; omega
        all_goals
          have HV := Lib.hid (HN.out (fun x => by first | exact h1 (by rw [x]) | exact h2 (by rw [x]) | exact h3 (by rw [x])))
          obtain ⟨a1, a2, a3⟩ := c
          obtain ⟨b1, b2, b3⟩ := e
          dsimp only at d1 d2 d3 e1 e2 e3 h1
          try dsimp only at h2
          try dsimp only at h3
          clear HY HN
          go_wp2
          go_quiet (fail)
          go_wp2
          go_ret
          exact ⟨by rw [HV.out]; rfl, (HS.out.drewN _).2.2⟩
      · obtain rfl : k = len := by omega
        have hge : ¬ (k : Int) < k := by omega
        rw [List.take_of_length_le (by omega), List.take_of_length_le (by omega)] at hp
        have HV := Lib.hid (decide_eq_true hp)
        clear hp hl hl2 HR HQ
        go_wp2
        go_ret
        exact ⟨by rw [HV.out]; rfl, hS.2.2⟩
  · have hne : ¬ (len : Int) = (len2 : Int) := by omega
    have hV : Hid (decide (r = q) = false) := Lib.hid (decide_eq_false (fun e => hll (by rw [← hl, ← hl2, e])))
    clear hl hl2
    go_wp2
    go_ret
    exact ⟨by rw [hV.out]; rfl, HS0.out.2.2⟩
end Go.Proofs.YtbfchlfagdhglaaDoor
/- The document's answer: which numbers a container's bytes have: mathematics. -/
namespace Go.Proofs.YtbfchlfagdhglaaDoor
open Go.RowKit

theorem setA_take (d : List UInt8) (i : Nat) (b : UInt8) (h : d[i]? = some b) : bcl (put1 (setA (d.take i)) b.toNat true) = bcl (setA (d.take (i + 1))) := by
  apply bcl_congr
  intro n _
  unfold put1 setA
  rw [List.take_add_one, h, List.any_append]
  simp only [Option.toList, List.any_cons, List.any_nil, Bool.or_false]
  by_cases e : n = b.toNat
  · subst e; simp
  · rw [if_neg e]
    have : (b.toNat == n) = false := by rw [beq_eq_false_iff_ne]; exact fun h => e h.symm
    rw [this, Bool.or_false]
theorem byte_at (d : List UInt8) (i : Nat) (h : i < d.length) : d[i]? = some (d[i]?.getD 0) := by rw [List.getElem?_eq_getElem h]; rfl
/-- The first numbers of a set. -/
def upS (s : Bs) (m : Nat) : Bs := fun n => decide (n < m) && s n
theorem upS_put (s : Bs) (m : Nat) : bcl (put1 (upS s m) m (s m)) = bcl (upS s (m + 1)) := by
  apply bcl_congr
  intro n _
  unfold put1 upS
  by_cases e : n = m
  · subst e; rw [if_pos rfl]; simp
  · rw [if_neg e]
    congr 1
    rw [decide_eq_decide]; omega
theorem upS_zero (s : Bs) : upS s 0 = fun _ => false := by funext n; unfold upS; simp
theorem upS_all (s : Bs) (m : Nat) (h : ∀ n, n < 256 → m ≤ n → s n = false) : bcl (upS s m) = bcl s := by
  apply bcl_congr
  intro n hn
  unfold upS
  by_cases e : n < m
  · simp [e]
  · rw [h n hn (by omega)]; simp
/-- The numbers of the runs ahead of place i, and the first k of that one. -/
def partR (d : List UInt8) (i k : Nat) : Bs := fun n => setR (d.take i) n || (decide ((d[i]?.getD 0).toNat ≤ n) && decide (n < (d[i]?.getD 0).toNat + k))
theorem partR_zero (d : List UInt8) (i : Nat) : partR d i 0 = setR (d.take i) := by
  funext n; unfold partR
  have : (decide ((d[i]?.getD 0).toNat ≤ n) && decide (n < (d[i]?.getD 0).toNat + 0)) = false := by simp
  rw [this, Bool.or_false]
theorem partR_put (d : List UInt8) (i k : Nat) : bcl (put1 (partR d i k) ((d[i]?.getD 0).toNat + k) true) = bcl (partR d i (k + 1)) := by
  apply bcl_congr
  intro n _
  unfold put1 partR
  by_cases e : n = (d[i]?.getD 0).toNat + k
  · subst e; simp
  · rw [if_neg e]
    congr 2
    rw [decide_eq_decide]; omega
theorem partR_all (d : List UInt8) (i k : Nat) (hi : i % 2 = 0) (hl : i + 1 < d.length) (hk : k = (d[i + 1]?.getD 0).toNat + 1 ∨ 256 ≤ (d[i]?.getD 0).toNat + k ∧ k ≤ (d[i + 1]?.getD 0).toNat) : bcl (partR d i k) = bcl (setR (d.take (i + 2))) := by
  apply bcl_congr
  intro n hn
  have e : d.take (i + 2) = d.take i ++ [d[i]?.getD 0, d[i + 1]?.getD 0] := by
    rw [show i + 2 = i + 1 + 1 from rfl, List.take_add_one, List.take_add_one, byte_at d i (by omega), byte_at d (i + 1) hl]; simp
  unfold partR
  rw [e, setR_snoc _ (by rw [List.length_take]; omega)]
  congr 2
  rw [decide_eq_decide]; omega
theorem setR_take (d : List UInt8) (i : Nat) (hi : i % 2 = 0) (h : d.length ≤ i + 1) (n : Nat) : setR (d.take i) n = setR d n := by
  match d, i, hi, h with
  | [], _, _, _ => rw [List.take_nil]
  | [x], 0, _, _ => rfl
  | [x], i + 1, _, _ => simp
  | x :: y :: r, 0, _, h => simp at h
  | x :: y :: r, 1, h, _ => simp at h
  | x :: y :: r, i + 2, h1, h => 
    simp only [List.take_succ_cons, setR]
    rw [setR_take r i (by omega) (by simp at h; omega)]

/-- The bits ahead of place m, read. -/
theorem bit_at (d : List UInt8) (i k : Nat) (hk : k < 8) : setB d (8 * i + k) = (byteC d i / 2 ^ k % 2 == 1) := by
  unfold setB byteC
  rw [show (8 * i + k) / 8 = i by omega, show (8 * i + k) % 8 = k by omega]
theorem setB_over (d : List UInt8) (n : Nat) (h : 8 * d.length ≤ n) : setB d n = false := by
  unfold setB
  rw [List.getElem?_eq_none (by omega)]
  have : (0 : UInt8).toNat = 0 := rfl
  simp [this]

theorem bit_int (b x : Nat) : ((b : Int) / 2 ^ x).tmod 2 = ((b / 2 ^ x % 2 : Nat) : Int) := by
  have h : (b : Int) / 2 ^ x = ((b / 2 ^ x : Nat) : Int) := by rw [Int.natCast_ediv, Int.natCast_pow]; rfl
  rw [h, Int.tmod_eq_emod_of_nonneg (Int.natCast_nonneg _)]; rfl
theorem bit_bool (b x : Nat) : (((b : Int) / 2 ^ x).tmod 2 == 1) = (b / 2 ^ x % 2 == 1) := by
  rw [bit_int, Bool.eq_iff_iff, beq_iff_eq, beq_iff_eq]; omega
end Go.Proofs.YtbfchlfagdhglaaDoor
/- The document's answer: which numbers a container's bytes have (Set). -/
namespace Go.Proofs.YtbfchlfagdhglaaDoor
open Go.RowKit

/-- The state of the walk: the set's block, and the others. -/
def SetSt (w : World) (f : Int) (d : List UInt8) (s : Bs) (wr : World) : Prop := Blk wr w.heap.size 46 #[.int .i64 f, .string ⟨d.toArray⟩] ∧ Blk wr (w.heap.size + 1) 94 (bcl fun _ => false) ∧ Blk wr (w.heap.size + 1 + 1) 94 (bcl s) ∧ Below w.heap.size w wr
theorem SetSt.put {w wr : World} {f : Int} {d : List UInt8} {s : Bs} (h : SetSt w f d s wr) (n : Nat) (b : Bool) {t : Bs} (e : bcl (put1 s n b) = bcl t) : SetSt w f d t (wr.setCell ⟨w.heap.size + 1 + 1, n, none⟩ (.bool b)) := by
  obtain ⟨h0, h1, h2, h3⟩ := h
  refine ⟨h0.far (by simp; omega) _, h1.far (by simp) _, ?_, h3.setCell (by show w.heap.size ≤ w.heap.size + 1 + 1; omega) _⟩
  have := h2.set_ n (.bool b)
  rwa [bcl_set, e] at this

set_option maxRecDepth 100000 in
set_option maxHeartbeats 2000000 in
theorem ref_set_any (f : Int) (d : List UInt8) (hd : d.length ≤ 300) (w : World) :
    Calls Tryd.prog 42 #[contV f d] w fun e w' => e = .returned (.agg (bcl (setOf f.toNat d))) ∧ Below w.heap.size w w' := by
  have hz := zero_b256
  have hs0 : ∀ n, (bcl n).size = 256 := bcl_size
  unfold contV
  have hS0 : SetSt w f d (fun _ => false) (((w.alloc (.cells #[.int .i64 f, .string ⟨d.toArray⟩] 46)).alloc (.cells (bcl fun _ => false) 94)).alloc (.cells (bcl fun _ => false) 94)) := by
    refine ⟨((Blk.new w _ _).alloc _).alloc _, ?_, ?_, ?_⟩
    · have := (Blk.new (w.alloc (.cells #[.int .i64 f, .string ⟨d.toArray⟩] 46)) 94 (bcl fun _ => false)).alloc (.cells (bcl fun _ => false) 94)
      simpa using this
    · have := Blk.new ((w.alloc (.cells #[.int .i64 f, .string ⟨d.toArray⟩] 46)).alloc (.cells (bcl fun _ => false) 94)) 94 (bcl fun _ => false)
      simpa using this
    · exact (((Below.refl _ _).alloc (Nat.le_refl _) _).alloc (by simp) _).alloc (by simp; omega) _
  have HS0 := Lib.hid hS0
  clear hS0
  go_enter Tryd.func42, Tryd.ntmps42
  by_cases h1 : f = 1
  · subst h1
    go_wp2
    generalize (((w.alloc (.cells #[.int .i64 1, .string ⟨d.toArray⟩] 46)).alloc (.cells (bcl fun _ => false) 94)).alloc (.cells (bcl fun _ => false) 94)) = w1 at *
    go_loopw [4] (fun i wr => ∃ k : Nat, k ≤ d.length ∧ i = .int .i64 k ∧ SetSt w 1 d (setA (d.take k)) wr)
      (fun i _ => d.length - (intOf i).toNat)
    case atStart => exact ⟨0, Nat.zero_le _, rfl, HS0.out⟩
    case round =>
      obtain ⟨k, hk, rfl, hS⟩ := hrel
      have c0 := hS.1.cell 0
      have c1 := hS.1.cell 1
      by_cases hlt : k < d.length
      · have hb := byteC_get d k hlt
        have hbl := byteC_lt d k
        have HP : Hid (SetSt w 1 d (setA (d.take (k + 1))) (wr.setCell ⟨w.heap.size + 1 + 1, byteC d k, none⟩ (.bool true))) := Lib.hid (hS.put _ _ (setA_take d k _ (byte_at d k hlt)))
        have c2 := hS.2.2.1.cell (byteC d k)
        rw [bcl_get hbl] at c2
        have c3 := hS.2.2.1.frozen (byteC d k)
        generalize byteC d k = b at *
        have hlt' : (k : Int) < d.length := by omega
        clear hS
        go_wp2
        go_roundw
        case rel => exact ⟨k + 1, by omega, by simp, HP.out⟩
        case measure => simp [intOf]; omega
      · obtain rfl : k = d.length := by omega
        rw [List.take_length] at hS
        have HE : Hid (setOf (1 : Int).toNat d = setA d) := Lib.hid rfl
        have hsc := store_cells hS.2.1 (setA d)
        have bE := hS.2.1.setRow (bcl (setA d))
        have hBE := below_setRow hS.2.2.2 (g := w.heap.size + 1) (by omega) (bcl (setA d))
        have hld2 := load_var bE
        go_wp2
        refine wp_load_set _ rfl _ rfl _ hS.2.2.1 ?_
        go_wp2
        refine bodyPost_ret (v := .agg (bcl (setA d))) ?_ rfl ⟨by rw [← HE.out], hBE⟩
        simp [results, Tryd.results42, asAddr, hld2]
  by_cases h2 : f = 2
  · subst h2
    clear h1
    go_wp2
    generalize (((w.alloc (.cells #[.int .i64 2, .string ⟨d.toArray⟩] 46)).alloc (.cells (bcl fun _ => false) 94)).alloc (.cells (bcl fun _ => false) 94)) = w1 at *
    go_loopw [5] (fun i wr => ∃ k : Nat, k ≤ d.length ∧ k ≤ 32 ∧ i = .int .i64 k ∧ SetSt w 2 d (upS (setB d) (8 * k)) wr)
      (fun i _ => 32 - (intOf i).toNat)
    case atStart => exact ⟨0, Nat.zero_le _, Nat.zero_le _, rfl, by rw [Nat.mul_zero, upS_zero]; exact HS0.out⟩
    case round =>
      obtain ⟨k, hk, hk32, rfl, hS⟩ := hrel
      have c0 := hS.1.cell 0
      have c1 := hS.1.cell 1
      by_cases hlt : k < d.length ∧ k < 32
      · have hlt' : (k : Int) < d.length := by omega
        have hlt2 : (k : Int) < 32 := by omega
        go_wp2
        go_loopw [6] (fun j wi => ∃ x : Nat, x ≤ 8 ∧ j = .int .i64 x ∧ SetSt w 2 d (upS (setB d) (8 * k + x)) wi)
          (fun j _ => 8 - (intOf j).toNat)
        case atStart => exact ⟨0, Nat.zero_le _, rfl, hS⟩
        case round =>
          obtain ⟨x, hx, rfl, hSi⟩ := hrel
          by_cases hx8 : x < 8
          · have hx8' : (x : Int) < 8 := by omega
            have c0 := hSi.1.cell 0
            have c1 := hSi.1.cell 1
            have hb := byteC_get d k hlt.1
            have hbl := byteC_lt d k
            have HP : Hid (SetSt w 2 d (upS (setB d) (8 * k + x + 1)) (wr.setCell ⟨w.heap.size + 1 + 1, 8 * k + x, none⟩ (.bool (byteC d k / 2 ^ x % 2 == 1)))) := Lib.hid (hSi.put _ _ (by rw [← bit_at d k x hx8]; exact upS_put (setB d) (8 * k + x)))
            have c2 := hSi.2.2.1.cell (8 * k + x)
            rw [bcl_get (by omega)] at c2
            have c3 := hSi.2.2.1.frozen (8 * k + x)
            have hM : 8 * k + x < 256 := by omega
            have hMi : (8 : Int) * k + x = ((8 * k + x : Nat) : Int) := by omega
            have hMl : 8 * (k + 1) = 8 * k + 8 := by omega
            obtain ⟨M, hMn⟩ : ∃ M, M = 8 * k + x := ⟨_, rfl⟩
            rw [← hMn] at HP c2 c3 hM hMi
            have HMn := Lib.hid hMn
            generalize byteC d k = b at *
            clear hS hSi hMn
            go_wp2
            refine ⟨⟨x + 1, by omega, by simp, ?_⟩, by simp [intOf]; omega⟩
            rw [bit_bool, ← Nat.add_assoc, ← HMn.out]; exact HP.out
          · obtain rfl : x = 8 := by omega
            go_wp2
            refine ⟨⟨k + 1, by omega, by omega, by simp, ?_⟩, by simp [intOf]; omega⟩
            exact hSi
      · have hE : bcl (upS (setB d) (8 * k)) = bcl (setB d) := upS_all _ _ (fun n hn h => setB_over d n (by omega))
        have HE : Hid (setOf (2 : Int).toNat d = setB d) := Lib.hid rfl
        have hS2 := hS.2.2.1
        rw [hE] at hS2
        have hsc := store_cells hS.2.1 (setB d)
        have bE := hS.2.1.setRow (bcl (setB d))
        have hBE := below_setRow hS.2.2.2 (g := w.heap.size + 1) (by omega) (bcl (setB d))
        have hld2 := load_var bE
        by_cases hlt3 : k < d.length
        · have hlt' : (k : Int) < d.length := by omega
          have hlt2 : ¬ (k : Int) < 32 := by omega
          clear hS hE hlt
          go_wp2
          refine wp_load_set _ rfl _ rfl _ hS2 ?_
          go_wp2
          refine bodyPost_ret (v := .agg (bcl (setB d))) ?_ rfl ⟨by rw [← HE.out]; rfl, hBE⟩
          simp [results, Tryd.results42, asAddr, hld2]
        · have hlt' : ¬ (k : Int) < d.length := by omega
          clear hS hE hlt
          go_wp2
          refine wp_load_set _ rfl _ rfl _ hS2 ?_
          go_wp2
          refine bodyPost_ret (v := .agg (bcl (setB d))) ?_ rfl ⟨by rw [← HE.out]; rfl, hBE⟩
          simp [results, Tryd.results42, asAddr, hld2]
  by_cases h3 : f = 3
  · subst h3
    clear h1 h2
    go_wp2
    generalize (((w.alloc (.cells #[.int .i64 3, .string ⟨d.toArray⟩] 46)).alloc (.cells (bcl fun _ => false) 94)).alloc (.cells (bcl fun _ => false) 94)) = w1 at *
    go_loopw [7] (fun i wr => ∃ k : Nat, 2 * k ≤ d.length + 1 ∧ i = .int .i64 (2 * k : Nat) ∧ SetSt w 3 d (setR (d.take (2 * k))) wr)
      (fun i _ => d.length + 2 - (intOf i).toNat)
    case atStart => exact ⟨0, by omega, rfl, HS0.out⟩
    case round =>
      obtain ⟨k2, hk, rfl, hS⟩ := hrel
      obtain ⟨k, hkd⟩ : ∃ k, k = 2 * k2 := ⟨_, rfl⟩
      have hkm : k % 2 = 0 := by omega
      have Hk2 : Hid (2 * (k2 + 1) = k + 2) := Lib.hid (by omega)
      have Hkd := Lib.hid hkd
      rw [← hkd] at hS hk ⊢
      clear hkd
      have c0 := hS.1.cell 0
      have c1 := hS.1.cell 1
      by_cases hlt : k + 1 < d.length
      · have hlt' : (k : Int) + 1 < d.length := by omega
        go_wp2
        go_loopw [8] (fun j wi => ∃ x : Nat, x ≤ byteC d (k + 1) + 1 ∧ j = .int .i64 x ∧ SetSt w 3 d (partR d k x) wi)
          (fun j _ => 257 - (intOf j).toNat)
        case atStart => exact ⟨0, Nat.zero_le _, rfl, by rw [partR_zero]; exact hS⟩
        case round =>
          obtain ⟨x, hx, rfl, hSi⟩ := hrel
          have c0 := hSi.1.cell 0
          have c1 := hSi.1.cell 1
          have hb := byteC_get d k (by omega)
          have hb1 := byteC_get d (k + 1) hlt
          have hbl := byteC_lt d k
          have hbl1 := byteC_lt d (k + 1)
          have HP : Hid (SetSt w 3 d (partR d k (x + 1)) (wr.setCell ⟨w.heap.size + 1 + 1, byteC d k + x, none⟩ (.bool true))) := Lib.hid (hSi.put _ _ (partR_put d k x))
          have HA : Hid (x = byteC d (k + 1) + 1 ∨ 256 ≤ byteC d k + x ∧ x ≤ byteC d (k + 1) → SetSt w 3 d (setR (d.take (k + 2))) wr) := Lib.hid (fun h => by
            have e := partR_all d k x hkm hlt h
            unfold SetSt at hSi ⊢
            rwa [e] at hSi)
          by_cases hx1 : x ≤ byteC d (k + 1)
          · have hx1' : (x : Int) ≤ byteC d (k + 1) := by omega
            by_cases hx2 : byteC d k + x < 256
            · have c2 := hSi.2.2.1.cell (byteC d k + x)
              rw [bcl_get hx2] at c2
              have c3 := hSi.2.2.1.frozen (byteC d k + x)
              have hx2' : (byteC d k : Int) + x < 256 := by omega
              have hMi : (byteC d k : Int) + x = ((byteC d k + x : Nat) : Int) := by omega
              generalize byteC d k + x = M at *
              generalize byteC d k = b at *
              generalize byteC d (k + 1) = b1 at *
              clear hS hSi HA
              go_wp2
              refine ⟨⟨x + 1, by omega, by simp, HP.out⟩, by simp [intOf]; omega⟩
            · have hx2' : ¬ (byteC d k : Int) + x < 256 := by omega
              have HQ := Lib.hid (HA.out (.inr ⟨by omega, hx1⟩))
              generalize byteC d k = b at *
              generalize byteC d (k + 1) = b1 at *
              clear hS hSi HA HP
              go_wp2
              refine ⟨⟨k2 + 1, by have := Hk2.out; omega, by rw [Hk2.out]; simp, by rw [Hk2.out]; exact HQ.out⟩, by simp [intOf]; omega⟩
          · have hx1' : ¬ (x : Int) ≤ byteC d (k + 1) := by omega
            have HQ := Lib.hid (HA.out (.inl (by omega)))
            generalize byteC d k = b at *
            generalize byteC d (k + 1) = b1 at *
            clear hS hSi HA HP
            go_wp2
            refine ⟨⟨k2 + 1, by have := Hk2.out; omega, by rw [Hk2.out]; simp, by rw [Hk2.out]; exact HQ.out⟩, by simp [intOf]; omega⟩
      · have hE : bcl (setR (d.take k)) = bcl (setR d) := bcl_congr fun n _ => setR_take d k hkm (by omega) n
        have HE : Hid (setOf (3 : Int).toNat d = setR d) := Lib.hid rfl
        have hS2 := hS.2.2.1
        rw [hE] at hS2
        have hsc := store_cells hS.2.1 (setR d)
        have bE := hS.2.1.setRow (bcl (setR d))
        have hBE := below_setRow hS.2.2.2 (g := w.heap.size + 1) (by omega) (bcl (setR d))
        have hld2 := load_var bE
        have hlt' : ¬ (k : Int) + 1 < d.length := by omega
        clear hS hE hlt
        go_wp2
        refine wp_load_set _ rfl _ rfl _ hS2 ?_
        go_wp2
        refine bodyPost_ret (v := .agg (bcl (setR d))) ?_ rfl ⟨by rw [← HE.out]; rfl, hBE⟩
        simp [results, Tryd.results42, asAddr, hld2]
  have h1' : (f == 1) = false := by simpa using h1
  have h2' : (f == 2) = false := by simpa using h2
  have h3' : (f == 3) = false := by simpa using h3
  have HE : Hid (setOf f.toNat d = fun _ => false) := Lib.hid (by unfold setOf; rw [if_neg (by omega), if_neg (by omega), if_neg (by omega)])
  have hS := HS0.out
  have hsc := store_cells hS.2.1 (fun _ => false)
  have bE := hS.2.1.setRow (bcl fun _ => false)
  have hBE := below_setRow hS.2.2.2 (g := w.heap.size + 1) (by omega) (bcl fun _ => false)
  have hld2 := load_var bE
  have hS2 := hS.2.2.1
  clear HS0 hS h1 h2 h3
  go_wp2
  refine wp_load_set _ rfl _ rfl _ hS2 ?_
  go_wp2
  refine bodyPost_ret (v := .agg (bcl fun _ => false)) ?_ rfl ⟨by rw [← HE.out], hBE⟩
  simp [results, Tryd.results42, asAddr, hld2]
end Go.Proofs.YtbfchlfagdhglaaDoor
/- Bytes in slices (no function of the program). -/
namespace Go.Proofs.YtbfchlfagdhglaaDoor
open Go.RowKit

def byteVs (l : List UInt8) : List Value := l.map fun b => Value.int .u8 (b.toNat : Int)
theorem byteVs_append (a b : List UInt8) : byteVs (a ++ b) = byteVs a ++ byteVs b := by simp [byteVs]
theorem byteVs_length (a : List UInt8) : (byteVs a).length = a.length := by simp [byteVs]
theorem info_u8 : (Tryd.prog.info? 5).map (fun i => (i.zero, i.size, i.bytes)) = some (some (.int .u8 0), 1, 1) := by kernel_rfl
theorem conv_own {wr : World} {n₀ n : Nat} {v : Value} {l : List UInt8} (h : wr.ownsRow n₀ 5 1 v n (byteVs l)) (hn : l.length = n) : (convert 42 9 v).run Tryd.prog wr = .ok (.string ⟨l.toArray⟩) wr := by
  subst hn
  rcases h.2 with ⟨rfl, h0⟩ | ⟨g, cap, cur, rfl, _⟩
  · obtain rfl : l = [] := List.eq_nil_of_length_eq_zero h0
    exact Lib.run_convert_nil_bytes wr _ _ _ 0 Tryd.underlying42 Tryd.underlying5 Tryd.underlying9
  · refine run_convert_bytes_back wr _ _ _ _ cap l Tryd.underlying42 Tryd.underlying5 Tryd.underlying9 (fun j hj => ?_)
    exact h.cells (g := g) rfl j _ (by simp [byteVs, List.getElem?_eq_getElem hj])
theorem cell_two_new (w : World) (x y : Value) (t : TypeId) : ∀ j u, [x, y][j]? = some u → (w.alloc (.cells #[x, y] t)).cell? ((⟨w.heap.size, 0, none⟩ : Addr).add j) = some u := by
  intro j u hu
  rw [show (⟨w.heap.size, 0, none⟩ : Addr).add j = ⟨w.heap.size, j, none⟩ by unfold Addr.add; split <;> simp_all, (Blk.new w t #[x, y]).cell j]
  match j, hu with
  | 0, hu => exact hu
  | 1, hu => exact hu
theorem own_form {w : World} {base : Nat} {e : TypeId} {v : Value} {n : Nat} {xs : List Value} (h : w.ownsRow base e 1 v n xs) : ∃ x cap, v = .slice x n cap := by
  rcases h.2 with ⟨rfl, rfl⟩ | ⟨g, cap, cur, rfl, _⟩
  · exact ⟨_, _, rfl⟩
  · exact ⟨_, _, rfl⟩

/-- Each byte as a run of one number. -/
def aloneB (d : List UInt8) : List UInt8 := d.flatMap fun b => [b, 0]
theorem aloneB_length (d : List UInt8) : (aloneB d).length = 2 * d.length := by
  induction d with
  | nil => rfl
  | cons x r ih => simp only [aloneB, List.flatMap_cons, List.length_append, List.length_cons, List.length_nil] at ih ⊢; omega
theorem aloneB_take {d : List UInt8} {k : Nat} (h : k < d.length) : aloneB (d.take (k + 1)) = aloneB (d.take k) ++ [d[k]?.getD 0, 0] := by
  rw [List.take_add_one, byte_at d k h]
  simp [aloneB]
theorem setR_alone (d : List UInt8) : setR (aloneB d) = setA d := by
  funext n
  unfold setA
  induction d with
  | nil => rfl
  | cons x r ih =>
    show ((decide (x.toNat ≤ n) && decide (n ≤ x.toNat + (0 : UInt8).toNat)) || setR (aloneB r) n) = _
    rw [ih, List.any_cons]
    congr 1
    rw [Bool.eq_iff_iff]
    simp
    omega
end Go.Proofs.YtbfchlfagdhglaaDoor
/- The three forms, made number by number: mathematics. -/
namespace Go.Proofs.YtbfchlfagdhglaaDoor
open Go.RowKit

theorem byteS_bitm (s : Bs) (m k i : Nat) : (byteS s m k).testBit i = (decide (i < 8) && decide (8 * k + i < m) && s (8 * k + i)) := by
  by_cases hi : i < 8
  · have h := byteS_digit s m k i hi
    rw [Nat.testBit_eq_decide_div_mod_eq, h]
    unfold dg
    by_cases hm : 8 * k + i < m
    · rw [if_pos hm]; cases s (8 * k + i) <;> simp [hi, hm]
    · rw [if_neg hm]; simp [hm]
  · have hlt := byteS_lt s m k
    have : byteS s m k < 2 ^ i := Nat.lt_of_lt_of_le hlt (by
      have := Nat.pow_le_pow_right (n := 2) (by decide) (show 8 ≤ i by omega)
      simpa using this)
    rw [Nat.testBit_lt_two_pow this]
    simp [hi]
theorem byteS_eqm {s : Bs} {m m' k : Nat} (h : ∀ i, i < 8 → (decide (8 * k + i < m) && s (8 * k + i)) = (decide (8 * k + i < m') && s (8 * k + i))) : byteS s m k = byteS s m' k := by
  apply Nat.eq_of_testBit_eq
  intro i
  rw [byteS_bitm, byteS_bitm]
  by_cases hi : i < 8
  · rw [Bool.and_assoc, Bool.and_assoc, h i hi]
  · simp [hi]
theorem byteS_up (s : Bs) (m : Nat) (hs : s m = true) : byteS s (m + 1) (m / 8) = byteS s m (m / 8) + 2 ^ (m % 8) := by
  have hlt : byteS s m (m / 8) < 2 ^ (m % 8) := by
    apply Nat.lt_pow_two_of_testBit
    intro i hi
    rw [byteS_bitm]
    have : ¬ 8 * (m / 8) + i < m := by omega
    simp [this]
  have e : byteS s m (m / 8) + 2 ^ (m % 8) = 2 ^ (m % 8) ||| byteS s m (m / 8) := by
    have := Nat.two_pow_add_eq_or_of_lt hlt 1
    rw [Nat.mul_one] at this
    omega
  rw [e]
  apply Nat.eq_of_testBit_eq
  intro i
  rw [Nat.testBit_or, Nat.testBit_two_pow, byteS_bitm, byteS_bitm]
  by_cases hi : i < 8
  · by_cases e2 : m % 8 = i
    · have e3 : 8 * (m / 8) + i = m := by omega
      simp [e2, hi, e3, hs]
    · have e3 : (8 * (m / 8) + i < m + 1) = (8 * (m / 8) + i < m) := by rw [eq_iff_iff]; omega
      simp [e2, hi, e3]
  · have : ¬ m % 8 = i := by omega
    simp [hi, this]
theorem byteS_up_far (s : Bs) (m k : Nat) (h : s m = false ∨ k ≠ m / 8) : byteS s (m + 1) k = byteS s m k := by
  refine byteS_eqm fun i hi => ?_
  by_cases e : 8 * k + i = m
  · rcases h with h | h
    · rw [e, h, Bool.and_false, Bool.and_false]
    · omega
  · congr 1
    rw [decide_eq_decide]; omega
/-- The bits' values, of the numbers ahead of m. -/
def bitVs (s : Bs) (m : Nat) : List Value := (List.range 32).map fun k => Value.int .u8 (byteS s m k : Nat)
theorem bitVs_length (s : Bs) (m : Nat) : (bitVs s m).length = 32 := by simp [bitVs]
theorem bitVs_get {s : Bs} {m k : Nat} (h : k < 32) : (bitVs s m)[k]? = some (.int .u8 (byteS s m k : Nat)) := by
  unfold bitVs
  rw [List.getElem?_map, List.getElem?_range h]; rfl
theorem bitVs_set (s : Bs) (m : Nat) (hm : m < 256) (hs : s m = true) : (bitVs s m).set (m / 8) (.int .u8 (byteS s m (m / 8) + 2 ^ (m % 8) : Nat)) = bitVs s (m + 1) := by
  apply List.ext_getElem?
  intro k
  rw [List.getElem?_set]
  by_cases hk : k < 32
  · by_cases e : m / 8 = k
    · subst e
      rw [if_pos rfl, if_pos (by rw [bitVs_length]; omega), bitVs_get hk, byteS_up s m hs]
    · rw [if_neg e, bitVs_get hk, bitVs_get hk, byteS_up_far s m k (.inr (fun h => e h.symm))]
  · rw [List.getElem?_eq_none (l := bitVs s m) (by rw [bitVs_length]; omega), List.getElem?_eq_none (l := bitVs s (m + 1)) (by rw [bitVs_length]; omega), if_neg (by omega)]
theorem bitVs_skip (s : Bs) (m : Nat) (hs : s m = false) : bitVs s (m + 1) = bitVs s m := by
  unfold bitVs
  exact List.map_congr_left fun k _ => congrArg (fun n : Nat => Value.int .u8 (n : Int)) (byteS_up_far s m k (.inl hs))
theorem bitVs_zero (s : Bs) : bitVs s 0 = List.replicate 32 (.int .u8 0) := by
  apply List.ext_getElem?
  intro k
  by_cases hk : k < 32
  · have : byteS s 0 k = 0 := by
      apply Nat.eq_of_testBit_eq
      intro i
      rw [byteS_bitm]; simp
    rw [bitVs_get hk, this, List.getElem?_replicate, if_pos hk]; rfl
  · rw [List.getElem?_eq_none (by rw [bitVs_length]; omega), List.getElem?_eq_none (by simp; omega)]
theorem bitVs_bytes (s : Bs) (m : Nat) : bitVs s m = byteVs (bitsTo s m) := by
  unfold bitVs byteVs bitsTo
  rw [List.map_map]
  refine List.map_congr_left fun k _ => ?_
  show _ = Value.int .u8 ((UInt8.ofNat (byteS s m k)).toNat : Int)
  rw [ofNat_toNat _ (byteS_lt s m k)]

/-! ### Runs -/
theorem runs_join {s : Bs} {k : Nat} (hk : k < 256) (hs : s k = true) (h0 : 0 < k) (hp : s (k - 1) = true) :
    ∃ fr m, m < 255 ∧ flat (runTo s k) = fr ++ [UInt8.ofNat m] ∧ flat (runTo s (k + 1)) = fr ++ [UInt8.ofNat (m + 1)] := by
  obtain ⟨h1, h2, h3, h4⟩ := runTo_spec s k
  cases e : runTo s k with
  | nil => have := h4 e (k - 1) (by omega); rw [hp] at this; cases this
  | cons x r =>
    obtain ⟨a, m⟩ := x
    have hj : a + m + 1 = k := by
      rcases Nat.decEq (a + m + 1) k with h | h
      · have := (h3 a m r e).2 h
        rw [hp] at this; cases this
      · exact h
    have e2 : runTo s (k + 1) = (a, m + 1) :: r := by simp [runTo, hs, e, hj]
    refine ⟨flat r ++ [UInt8.ofNat a], m, by omega, ?_, ?_⟩
    · rw [flat]; simp
    · rw [e2, flat]; simp
theorem runs_new {s : Bs} {k : Nat} (hs : s k = true) (hp : k = 0 ∨ s (k - 1) = false) : flat (runTo s (k + 1)) = flat (runTo s k) ++ [UInt8.ofNat k, 0] := by
  obtain ⟨h1, h2, h3, h4⟩ := runTo_spec s k
  cases e : runTo s k with
  | nil => 
    have e2 : runTo s (k + 1) = [(k, 0)] := by simp [runTo, hs, e]
    rw [e2]; rfl
  | cons x r =>
    obtain ⟨a, m⟩ := x
    have hlt := h2 (a, m) (by rw [e]; exact List.mem_cons_self ..)
    simp only at hlt
    have hj : a + m + 1 ≠ k := by
      intro hj
      rcases hp with rfl | hp
      · omega
      · have := (h1 (k - 1)).1 ⟨(a, m), by rw [e]; exact List.mem_cons_self .., by simp; omega, by simp; omega⟩
        rw [this.2] at hp; cases hp
    have e2 : runTo s (k + 1) = (k, 0) :: (a, m) :: r := by simp [runTo, hs, e, hj]
    rw [e2]; rfl
theorem runs_skip {s : Bs} {k : Nat} (hs : s k = false) : runTo s (k + 1) = runTo s k := by simp [runTo, hs]
theorem runs_some {s : Bs} {k : Nat} : (flat (runTo s k)).length = 0 ↔ ∀ n, n < k → s n = false := by
  obtain ⟨h1, h2, h3, h4⟩ := runTo_spec s k
  rw [flat_length]
  constructor
  · intro h
    exact h4 (List.eq_nil_of_length_eq_zero (by omega))
  · intro h
    cases e : runTo s k with
    | nil => rfl
    | cons x r =>
      have hx := (h1 x.1).1 ⟨x, by rw [e]; exact List.mem_cons_self .., Nat.le_refl _, by omega⟩
      rw [h x.1 hx.1] at hx
      cases hx.2
theorem byteVs_set (fr : List UInt8) (a b : UInt8) : (byteVs (fr ++ [a])).set fr.length (.int .u8 (b.toNat : Int)) = byteVs (fr ++ [b]) := by
  rw [byteVs_append, byteVs_append]
  have : (byteVs fr).length = fr.length := byteVs_length fr
  rw [List.set_append_right _ _ (by omega), this, Nat.sub_self]; rfl
theorem arrTo_vals (s : Bs) (k : Nat) : (arrTo s k).length ≤ k := by rw [arrTo_length]; exact valsTo_le s k
theorem flat_le (s : Bs) (k : Nat) : (flat (runTo s k)).length ≤ k + 1 := by rw [flat_length]; exact runTo_length s k
end Go.Proofs.YtbfchlfagdhglaaDoor
