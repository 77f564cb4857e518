/- cont.Rank, Select: the numbers of a container gone through. -/
import Derived.Test.YtpjcndfamhehlaaCHas
namespace Go.Proofs.Ytpjcndfamhehlaa
open Go.RowKit
attribute [local go_sem] Oper.semAt_some

theorem rank_le (s : Bs) (n : Int) : rankS s n ≤ 256 := by
  unfold rankS
  exact Nat.le_trans (valsTo_le s _) (by omega)
theorem rank_part {s : Bs} {m : Nat} {n : Int} (hm : m ≤ 256) (h : ∀ y ∈ valsTo s m, (y : Int) ≤ n) (hn : n < m) : rankS s n = (valsTo s m).length := by
  unfold rankS
  obtain ⟨r, e, hr⟩ := valsTo_take s (min 256 (n + 1).toNat) m (by omega)
  cases r with
  | nil => rw [e, List.append_nil]
  | cons a r =>
    have h1 := h a (by rw [e]; simp)
    have h2 := hr a (List.mem_cons_self ..)
    have h3 : a < m := (mem_valsTo.1 (by rw [e]; simp : a ∈ valsTo s m)).1
    omega
theorem rank_all {s : Bs} {n : Int} (h : ∀ y ∈ vals s, (y : Int) ≤ n) : rankS s n = (vals s).length := by
  rcases Int.lt_or_le n 256 with h2 | h2
  · exact rank_part (Nat.le_refl _) h (by omega)
  · unfold rankS vals
    rw [show min 256 (n + 1).toNat = 256 by omega]

/-- All that have come are at most n. -/
def AllLe (n : Int) (pre : List Nat) : Prop := ∀ y ∈ pre, (y : Int) ≤ n
/-- What holds between two rounds, and when the loop is left. -/
def RankI (w w1 : World) (n : Int) (pre : List Nat) (W : World) : Prop :=
  (((Blk W (w1.heap.size + 1) 3 #[.int .i64 (pre.length : Nat)] ∧ Blk W (w1.heap.size + 1 + 1) 67 #[.pointer (some ⟨w1.heap.size, 0, none⟩)]) ∧ Blk W (w.heap.size + 1) 3 #[.int .i64 n]) ∧ AllLe n pre) ∧ Below w1.heap.size w1 W
def RankX (w1 : World) (q : Nat) (cd : Code) (_ : List Nat) (W : World) : Prop := (Blk W (w1.heap.size + 1) 3 #[.int .i64 (q : Nat)] ∧ cd = .exit 0) ∧ Below w1.heap.size w1 W
theorem rankI_own (w w1 : World) (n : Int) (m : Nat) (hm : w1.heap.size ≤ m) : OwnFrom m (RankI w w1 n) :=
  OwnFrom.and (OwnFrom.and (OwnFrom.and (OwnFrom.and (Own.from (blk_own _ _ (fun (pre : List Nat) => #[.int .i64 (pre.length : Nat)])) _) (Own.from (blk_own _ _ (fun _ => #[.pointer (some ⟨w1.heap.size, 0, none⟩)])) _)) (Own.from (blk_own _ _ (fun _ => #[.int .i64 n])) _)) (ownFrom_pure _ _)) (ownFrom_below (Nat.le_refl _) hm)
theorem rankX_own (w1 : World) (q : Nat) (cd : Code) (m : Nat) (hm : w1.heap.size ≤ m) : OwnFrom m (RankX w1 q cd) :=
  OwnFrom.and (OwnFrom.and (Own.from (blk_own _ _ (fun _ => #[.int .i64 (q : Nat)])) _) (ownFrom_pure _ _)) (ownFrom_below (Nat.le_refl _) hm)

set_option maxRecDepth 100000 in
set_option maxHeartbeats 4000000 in
theorem rankC_any (f : Int) (hf1 : -9223372036854775808 ≤ f) (hf2 : f ≤ 9223372036854775807) (d : List UInt8) (hd : d.length ≤ 9223372036854775807) (n : Int) (w : World) :
    Calls Try.prog 25 #[contV f d, .int .i64 n] w fun e w' => e = .returned (.int .i64 (rankS (readS f d) n : Nat)) ∧ Below w.heap.size w w' := by
  have hz := zero_set
  have hss := scl_size
  have hst := st_new
  have hB0 : Below w.heap.size w ((w.alloc (.cells #[.int .i64 f, .string ⟨d.toArray⟩] 23)).alloc (.cells #[.int .i64 n] 3)) := ((Below.refl _ w).alloc (Nat.le_refl _) _).alloc (by simp) _
  have bN := Blk.new (w.alloc (.cells #[.int .i64 f, .string ⟨d.toArray⟩] 23)) 3 #[.int .i64 n]
  rw [World.size_alloc] at bN
  have HR := Lib.hid (read_any f hf1 hf2 d hd ((w.alloc (.cells #[.int .i64 f, .string ⟨d.toArray⟩] 23)).alloc (.cells #[.int .i64 n] 3)))
  unfold readV contV at HR
  unfold contV
  generalize readS f d = s at *
  generalize decide (RightC f d) = b at *
  refine (callsIn_wide (n := 4)).1 ?_
  refine callsIn_of_wp_marks Try.func25 rfl trivial ?_ rfl
  simp only [Try.ntmps25, List.size_toArray, List.length_cons, List.length_nil, Nat.reduceAdd, Nat.reduceSub, Array.replicate_succ, Array.replicate_zero, List.push_toArray, List.append_toArray, List.nil_append, List.cons_append]
  rw [wpIn_wide]
  go_wp2
  go_step3
  go_wp2_with fail
  refine HR.out.mono ?_
  rintro e w1 ⟨rfl, hb1⟩
  have hB1 := hB0.trans (hb1.mono hB0.size)
  have bS := Blk.new w1 48 (scl s)
  have bN1 := bN.under hb1
  have hw1 := bN1.lt
  clear hb1 bN
  go_wp2
  go_step3
  go_wp2_with (go_at_call 37; refine (numbers_any _ _).mono ?_; rintro e w' ⟨rfl, rfl⟩)
  have bR0 := (Blk.new (w1.alloc (.cells (scl s) 48)) 3 #[.int .i64 0]).alloc (.cells #[.pointer (some ⟨w1.heap.size, 0, none⟩)] 67)
  have bL0 := Blk.new ((w1.alloc (.cells (scl s) 48)).alloc (.cells #[.int .i64 0] 3)) 67 #[.pointer (some ⟨w1.heap.size, 0, none⟩)]
  have bS0 := (bS.alloc (.cells #[.int .i64 0] 3)).alloc (.cells #[.pointer (some ⟨w1.heap.size, 0, none⟩)] 67)
  have hB4 : Below w1.heap.size w1 (((w1.alloc (.cells (scl s) 48)).alloc (.cells #[.int .i64 0] 3)).alloc (.cells #[.pointer (some ⟨w1.heap.size, 0, none⟩)] 67)) := (((Below.refl _ _).alloc (Nat.le_refl _) _).alloc (by simp) _).alloc (by simp; omega) _
  have bN0 := bN1.under hB4
  have hsz0 : (((w1.alloc (.cells (scl s) 48)).alloc (.cells #[.int .i64 0] 3)).alloc (.cells #[.pointer (some ⟨w1.heap.size, 0, none⟩)] 67)).heap.size = w1.heap.size + 1 + 1 + 1 := by simp
  rw [World.size_alloc] at bR0
  rw [World.size_alloc, World.size_alloc] at bL0
  generalize (((w1.alloc (.cells (scl s) 48)).alloc (.cells #[.int .i64 0] 3)).alloc (.cells #[.pointer (some ⟨w1.heap.size, 0, none⟩)] 67)) = W0 at *
  refine (wpIn_wide (n := 4)).1 ?_
  refine wpIn_rangeFunc_nextD (n := 4) rfl (by decide) (gf := 45) (lb := #[.pointer (some ⟨w1.heap.size + 1 + 1, 0, none⟩)]) rfl trivial (enters_of Try.func45 (by kernel_rfl) rfl)
    (numbers_seq 3 (by decide) (w1.heap.size + 1 + 1) w1.heap.size s W0 bL0 bS0) keeps2_t (fun W l o hl => keeps2_b (B := W0.heap.size) (by omega) (by omega) W l o hl) (fun _ => rfl)
    (RankI w w1 n) (RankX w1 (rankS s n)) (rankI_own w w1 n _ (by omega)) (fun cd => rankX_own w1 _ cd _ (by omega))
    ⟨⟨⟨⟨bR0, bL0⟩, bN0⟩, fun y hy => by cases hy⟩, hB4⟩
    (fun x => { tmps := #[.agg #[.int .i64 f, .string ⟨d.toArray⟩], .int .i64 n, .pointer (some ⟨w.heap.size, 0, none⟩), .pointer (some ⟨w.heap.size + 1, 0, none⟩), .int .i64 0, .pointer (some ⟨w1.heap.size, 0, none⟩), .bool b, .pointer (some ⟨w1.heap.size + 1, 0, none⟩), .int .i64 (x : Nat), .tuple #[.agg (scl s), .bool b], .agg #[.int .i64 f, .string ⟨d.toArray⟩], .tuple #[.agg (scl s), .bool b], .agg (scl s), .bool b, .func (.func 45) #[] #[.pointer (some ⟨w1.heap.size + 1 + 1, 0, none⟩)], .int .i64 (x : Nat), undef, undef, undef, undef, undef, undef], defers := [] }) ?assign ?body ?done ?stop
  case assign =>
    intro l x W K hK
    gi_wp2
    exact hK
  case body =>
    rintro l pre x W ⟨⟨⟨⟨bR, bL⟩, bN⟩, hle⟩, hB⟩ ⟨hx, hsx, hpre⟩
    have hlp : pre.length ≤ 256 := by rw [hpre]; exact Nat.le_trans (valsTo_le s x) (by omega)
    have c0 := bN.cell 0; have c1 := bR.cell 0; have f1 := bR.frozen 0
    dsimp at c0 c1
    by_cases hgt : n < x
    · have HX : Hid (RankX w1 (rankS s n) (.exit 0) (pre ++ [x]) W) := Lib.hid ⟨⟨by rw [rank_part (m := x) (by omega) (by rw [← hpre]; exact hle) hgt, ← hpre]; exact bR, rfl⟩, hB⟩
      clear hle hpre bR bL bN hB
      gi_wp2
      exact ⟨KeepsOthers.refl _, HX.out⟩
    · have HI : Hid (RankI w w1 n (pre ++ [x]) (W.setCell ⟨w1.heap.size + 1, 0, none⟩ (.int .i64 ((pre.length : Int) + 1)))) := Lib.hid ⟨⟨⟨⟨by
          have := bR.set_ 0 (.int .i64 ((pre.length : Int) + 1))
          rw [show ((pre ++ [x]).length : Nat) = pre.length + 1 by simp]; exact this, bL.far (p := ⟨w1.heap.size + 1, 0, none⟩) (by simp) _⟩, bN.far (p := ⟨w1.heap.size + 1, 0, none⟩) (by simp; omega) _⟩, fun y hy => by
            rcases List.mem_append.1 hy with hy | hy
            · exact hle y hy
            · rw [List.mem_singleton.1 hy]; omega⟩, hB.setCell (p := ⟨w1.heap.size + 1, 0, none⟩) (by simp) _⟩
      have hK := keeps2_set (Ba := w1.heap.size + 1 + 1) (Bb := w1.heap.size) W ⟨w1.heap.size + 1, 0, none⟩ (.int .i64 ((pre.length : Int) + 1)) (by simp) (by simp)
      have HK := Lib.hid hK
      clear hle hpre bR bL bN hB hK
      gi_wp2
      exact ⟨KeepsOthers.setCell _ _ _, HK.out, HI.out⟩
  case done =>
    rintro D ys W hD rfl ⟨⟨⟨⟨bR, bL⟩, bN⟩, hle⟩, hB⟩ hK
    have c1 := bR.cell 0
    dsimp at c1
    rw [← rank_all hle] at c1
    have HN : Hid (Below w.heap.size w (W.putObj D (.deferred none))) := Lib.hid (hB1.trans ((hB.grown (grownBy_putObj' W D _) hB.size (fun k e => by cases e; omega)).mono hB1.size))
    obtain ⟨q, hq⟩ : ∃ q, q = rankS s n := ⟨_, rfl⟩
    rw [← hq] at c1
    have HQ := Lib.hid hq
    clear hq
    clear bR bL bN hle hB
    go_wp2
    try rw [Exit.noGoto_ret]
    exact ⟨by simp, .inl ⟨_, _, rfl, run_takeDeferred hK, _, results_tmp (t := 4) rfl _ _ _, ⟨by rw [← HQ.out]; rfl, HN.out⟩⟩⟩
  case stop =>
    rintro D cd pre W hD hSp ⟨⟨bR, rfl⟩, hB⟩ hK
    have c1 := bR.cell 0
    dsimp at c1
    have HN : Hid (Below w.heap.size w (W.putObj D (.deferred none))) := Lib.hid (hB1.trans ((hB.grown (grownBy_putObj' W D _) hB.size (fun k e => by cases e; omega)).mono hB1.size))
    obtain ⟨q, hq⟩ : ∃ q, q = rankS s n := ⟨_, rfl⟩
    rw [← hq] at c1
    have HQ := Lib.hid hq
    clear hq
    clear bR hB
    refine (wpIn_wide (n := 4)).2 ?_
    go_wp2
    try rw [Exit.noGoto_ret]
    exact ⟨by simp, .inl ⟨_, _, rfl, run_takeDeferred hK, _, results_tmp (t := 4) rfl _ _ _, ⟨by rw [← HQ.out]; rfl, HN.out⟩⟩⟩
end Go.Proofs.Ytpjcndfamhehlaa
