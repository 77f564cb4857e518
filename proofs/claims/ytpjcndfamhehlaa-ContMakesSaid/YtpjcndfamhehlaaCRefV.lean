/- The document's answers: Values and Rank. -/
import Derived.Test.YtpjcndfamhehlaaCRefR
import Derived.Test.YtpjcndfamhehlaaCLawB
namespace Go.Proofs.Ytpjcndfamhehlaa
open Go.RowKit

theorem rows_under {w w' : World} {base : Nat} {e : TypeId} {v : Value} {n : Nat} {xs : List Value} (h : w.ownsRow base e 1 v n xs) (hb : Below w.heap.size w w') : w'.ownsRow base e 1 v n xs := by
  refine ⟨h.1, ?_⟩
  rcases h.2 with h0 | ⟨g, c, cur, e1, e2, e3, e4⟩
  · exact .inl h0
  · exact .inr ⟨g, c, cur, e1, e2, (hb.block g (Array.getElem?_eq_some_iff.1 e3).1).trans e3, e4⟩
/-- The state of Values' walk: the container's box, the set in block g. -/
def VaSt (w : World) (x y : Value) (g : Nat) (s : Bs) (W : World) : Prop := Blk W w.heap.size 23 #[x, y] ∧ Blk W g 51 (bcl s) ∧ w.heap.size < g ∧ Below w.heap.size w W
theorem VaSt.below {w wr w2 : World} {x y : Value} {g n : Nat} {s : Bs} (h : VaSt w x y g s wr) (hn : g < n) (hb : Below n wr w2) : VaSt w x y g s w2 :=
  ⟨h.1.below hb (by have := h.2.2.1; omega), h.2.1.below hb hn, h.2.2.1, h.2.2.2.trans (hb.mono (by have := h.2.2.1; omega))⟩
theorem VaSt.lt {w wr : World} {x y : Value} {g : Nat} {s : Bs} (h : VaSt w x y g s wr) : g + 1 ≤ wr.heap.size := h.2.1.lt
theorem VaSt.start {w w2 : World} {x y : Value} {s : Bs} (hb : Below (w.alloc (.cells #[x, y] 23)).heap.size (w.alloc (.cells #[x, y] 23)) w2) : VaSt w x y w2.heap.size s (w2.alloc (.cells (bcl s) 51)) :=
  ⟨((Blk.new w _ _).under hb).alloc _, Blk.new w2 _ _, by have := hb.size; rw [World.size_alloc] at this; omega, by
    have h1 := (Below.refl _ w).alloc (Nat.le_refl _) (.cells #[x, y] 23)
    have h2 := h1.trans (hb.mono h1.size)
    exact h2.alloc h2.size _⟩
theorem valsTo_yes {s : Bs} {k : Nat} (h : s k = true) : intVs (valsTo s (k + 1)) = intVs (valsTo s k) ++ [Value.int .i64 (k : Nat)] ∧ (valsTo s (k + 1)).length = (valsTo s k).length + 1 := by
  rw [valsTo_succ, if_pos h]
  exact ⟨by simp [intVs], by simp⟩
theorem valsTo_no {s : Bs} {k : Nat} (h : s k = false) : valsTo s (k + 1) = valsTo s k := by
  rw [valsTo_succ, if_neg (by rw [h]; decide)]

set_option maxRecDepth 100000 in
set_option maxHeartbeats 4000000 in
theorem ref_values_any (f : Int) (d : List UInt8) (hd : d.length ≤ 300) (w : World) : Calls Try.prog 16 #[.agg #[.int .i64 f, .string ⟨d.toArray⟩]] w fun e w' => ∃ x c, e = .returned (.slice x (vals (readS f d)).length c) ∧ Ints w'.heap.size w' (.slice x (vals (readS f d)).length c) (zsOf (vals (readS f d))) ∧ Below w.heap.size w w' := by
  obtain ⟨i0, hi, hz0, hz1, hz2⟩ := info_parts info_int
  have HInf := Lib.hid hi; have HZ0 := Lib.hid hz0; have HZ1 := Lib.hid hz1; have HZ2 := Lib.hid hz2
  clear hi hz0 hz1 hz2
  have HR := Lib.hid (fun W => ref_right_any f d hd W)
  have HS := Lib.hid (fun W => ref_set_any f d hd W)
  unfold contV at HS
  have hst := st_newb
  have hsz := bcl_size
  have hz := zero_b256
  have hrs : ∀ k, readS f d k = (decide (RightC f d) && setOf f.toNat d k) := fun k => by
    unfold readS
    by_cases h : RightC f d
    · rw [if_pos h, decide_eq_true h, Bool.true_and]
    · rw [if_neg h, decide_eq_false h, Bool.false_and]
  generalize decide (RightC f d) = b at *
  generalize setOf f.toNat d = s at *
  generalize readS f d = rs at *
  have HRs := Lib.hid hrs
  clear hrs
  go_enter Try.func16, Try.ntmps16
  go_wp2_with fail
  refine (HS.out _).mono ?_
  rintro e w2 ⟨rfl, hb2⟩
  have hS0 := VaSt.start (s := s) hb2
  clear hb2 HS
  go_wp2
  generalize hW : w2.alloc (.cells (bcl s) 51) = W0 at *
  generalize w2.heap.size = g at *
  clear hW
  go_loopw [3, 5] (fun v i wr => ∃ k : Nat, k ≤ 256 ∧ i = .int .i64 k ∧ wr.ownsRow (g + 1) 3 1 v (valsTo rs k).length (intVs (valsTo rs k)) ∧ VaSt w (.int .i64 f) (.string ⟨d.toArray⟩) g s wr)
    (fun _ i _ => 256 - (intOf i).toNat)
  case atStart => exact ⟨0, Nat.zero_le _, rfl, World.ownsRow_nil W0 _ _ _, hS0⟩
  case round =>
    obtain ⟨k, hk, rfl, hown, hS⟩ := hrel
    have hl := valsTo_le rs k
    clear hS0
    by_cases hlt : k < 256
    · have hlt' : (k : Int) < 256 := by omega
      have c0 := hS.1.cell 0; have c1 := hS.1.cell 1
      dsimp at c0 c1
      go_wp2_with fail
      refine (HR.out _).mono ?_
      rintro e w3 ⟨rfl, hb3⟩
      have hown2 := rows_under hown hb3
      have hS2 := hS.below (n := wr.heap.size) hS.lt hb3
      have c2 := hS2.2.1.cell k
      rw [bcl_get hlt] at c2
      have hS1 := hS2.lt
      have hr := HRs.out k
      have HS := Lib.hid hS2
      have HY := Lib.hid (@valsTo_yes rs k)
      have HN := Lib.hid (@valsTo_no rs k)
      clear hS hown hb3 c0 c1 hS2
      generalize s k = sk at *
      by_cases hy : rs k = true
      · obtain ⟨h1, h2⟩ : b = true ∧ sk = true := by rw [hy] at hr; simpa using hr.symm
        subst h1; subst h2
        have hT := HY.out hy
        clear HY HN hr hy
        generalize intVs (valsTo rs k) = bv at *
        generalize (valsTo rs k).length = n at *
        go_wp2_with (at_builtin; refine wpList_append_own _ rfl _ _ 24 rfl (g + 1) 3 i0 (.int .i64 0) 1 8 Try.underlying24 HInf.out HZ0.out HZ1.out HZ2.out rfl (by decide) _ _ _ rfl (hown2.alloc _) ⟨w3.heap.size, 0, none⟩ 1 1 [.int .i64 k] rfl rfl (cell_one_new _ _ _) (by simp [Value.oneCell']) (by unfold maxLen; omega) (by omega) (by simp; omega) ?_; intro v2 w4 hown4 hgrow2 _)
        have hB2 : Below (g + 1) w3 w4 := ((Below.refl _ w3).alloc hS1 _).grown hgrow2 (by simp; omega) (fun j e => (hown2.lt j e).1)
        rw [← hT.1, ← hT.2] at hown4
        go_roundw
        case rel => exact ⟨k + 1, by omega, by simp, hown4, HS.out.below (Nat.lt_succ_self _) hB2⟩
        case measure => simp [intOf]; omega
      · have hy' := Bool.eq_false_iff.2 hy
        have hT := HN.out hy'
        rw [← hT] at hown2
        rw [hy'] at hr
        clear HY HN hy hy'
        have hc : (b = true ∧ sk = false) ∨ b = false := by
          cases b
          · exact .inr rfl
          · exact .inl ⟨rfl, by simpa using hr.symm⟩
        clear hr
        rcases hc with ⟨rfl, rfl⟩ | rfl
        all_goals
          go_wp2
          go_roundw
          case rel => exact ⟨k + 1, by omega, by simp, hown2, HS.out⟩
          case measure => simp [intOf]; omega
    · obtain rfl : k = 256 := by omega
      obtain ⟨x, c, rfl, hI⟩ := row_ints rfl hown
      have hB := hS.2.2.2
      have HI : Hid (Ints wr.heap.size wr (.slice x (vals rs).length c) (zsOf (vals rs))) := Lib.hid hI
      clear hown hS hI HR HRs
      go_wp2
      go_ret
      exact ⟨x, c, rfl, HI.out, hB⟩

/-- Where the numbers up to n end. -/
theorem rank_at (s : Bs) (n : Int) (k : Nat) (hk : k < (vals s).length) : ((zsOf (vals s))[k]?.getD 0 ≤ n ↔ k < rankS s n) := by
  rw [zsOf_get, List.getD_eq_getElem?_getD, List.getElem?_eq_getElem hk, Option.getD_some]
  have hm : (vals s)[k] < 256 := (mem_valsTo.1 (List.getElem_mem hk)).1
  obtain ⟨r, e, hr⟩ := valsTo_take s (min 256 (n + 1).toNat) 256 (Nat.min_le_left _ _)
  have e' : vals s = valsTo s (min 256 (n + 1).toNat) ++ r := e
  unfold rankS
  by_cases h : k < (valsTo s (min 256 (n + 1).toNat)).length
  · have h1 : (vals s)[k] = (valsTo s (min 256 (n + 1).toNat))[k] := by
      simp only [e']; exact List.getElem_append_left h
    have h2 := (mem_valsTo.1 (List.getElem_mem h)).1
    rw [h1]
    refine ⟨fun _ => h, fun _ => by omega⟩
  · have h1 : (vals s)[k] ∈ r := by
      have hk' : k < (valsTo s (min 256 (n + 1).toNat) ++ r).length := by rw [← e']; exact hk
      have : (vals s)[k] = (valsTo s (min 256 (n + 1).toNat) ++ r)[k] := by simp only [e']
      rw [this, List.getElem_append_right (by omega)]
      exact List.getElem_mem _
    have h2 := hr _ h1
    refine ⟨fun h3 => by omega, fun h3 => absurd h3 h⟩
theorem rank_len (s : Bs) (n : Int) : rankS s n ≤ (vals s).length := by
  obtain ⟨r, e, _⟩ := valsTo_take s (min 256 (n + 1).toNat) 256 (Nat.min_le_left _ _)
  unfold rankS vals
  rw [e, List.length_append]; omega

set_option maxRecDepth 100000 in
set_option maxHeartbeats 4000000 in
theorem ref_rank_any (f : Int) (d : List UInt8) (hd : d.length ≤ 300) (n : Int) (w : World) : Calls Try.prog 17 #[.agg #[.int .i64 f, .string ⟨d.toArray⟩], .int .i64 n] w fun e w' => e = .returned (.int .i64 (rankS (readS f d) n : Nat)) ∧ Below w.heap.size w w' := by
  have HV := Lib.hid (fun W => ref_values_any f d hd W)
  have HA := Lib.hid (rank_at (readS f d) n)
  have hrl := rank_len (readS f d) n
  have hml : (vals (readS f d)).length ≤ 256 := valsTo_le _ 256
  generalize zsOf (vals (readS f d)) = zv at *
  generalize (vals (readS f d)).length = m at *
  obtain ⟨r, hr⟩ : ∃ r, rankS (readS f d) n = r := ⟨_, rfl⟩
  rw [hr] at HA hrl
  rw [hr]
  clear hr
  have b0 := Blk.new w 23 #[.int .i64 f, .string ⟨d.toArray⟩]
  have hB0 := (Below.refl _ w).alloc (Nat.le_refl _) (.cells #[.int .i64 f, .string ⟨d.toArray⟩] 23)
  go_enter Try.func17, Try.ntmps17
  go_wp2_with fail
  refine (HV.out _).mono ?_
  rintro e w2 ⟨x, c, rfl, hI, hb2⟩
  have hB := hB0.trans (hb2.mono hB0.size)
  have HI := Lib.hid hI
  clear b0 hB0 hb2 hI HV
  go_wp2
  go_loopw [6] (fun i wr => ∃ k : Nat, k ≤ r ∧ i = .int .i64 k ∧ wr = w2) (fun i _ => r - (intOf i).toNat)
  case atStart => exact ⟨0, Nat.zero_le _, rfl, rfl⟩
  case round =>
    obtain ⟨k, hk, rfl, rfl⟩ := hrel
    by_cases hlt : k < m
    · have hlt' : (k : Int) < m := by omega
      obtain ⟨bb, o, rfl, hb1, hc1⟩ := HI.out.at_ hlt
      have ha := HA.out k hlt
      generalize zv[k]?.getD 0 = z at *
      by_cases hz : z ≤ n
      · have hkr := ha.1 hz
        clear ha
        go_wp2
        go_roundw
        case rel => exact ⟨k + 1, by omega, by simp, trivial⟩
        case measure => simp [intOf]; omega
      · have hkr : r = k := by have : ¬ k < r := fun h => hz (ha.2 h); omega
        subst hkr
        clear ha
        go_wp2
        go_ret
        exact ⟨rfl, hB⟩
    · obtain rfl : k = r := by omega
      have hge : ¬ (k : Int) < m := by omega
      go_wp2
      go_ret
      exact ⟨rfl, hB⟩
end Go.Proofs.Ytpjcndfamhehlaa
