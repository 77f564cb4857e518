import Derived.Test.YtbfchlfagdhglaaMG5
/- The document's answers: Flip, Span (tesseraeref07). -/
namespace Go.Proofs.Ytbfchlfagdhglaa
open Go.RowKit

def okQ (a b : Int) : Prop := 0 ≤ a ∧ a ≤ 65536 ∧ 0 ≤ b ∧ b ≤ 65536
instance (a b : Int) : Decidable (okQ a b) := by unfold okQ; infer_instance
/-- A bitmap flipped from a to b. -/
def flipZ (r : List Ch) (a b : Int) : List Ch × Int := if RightZ r ∧ okQ a b then (ofS (flipS (setZ r) a b), 0) else ([], 70)
theorem flipZ_good {r : List Ch} {a b : Int} (h : RightZ r) (k : okQ a b) : flipZ r a b = (ofS (flipS (setZ r) a b), 0) := if_pos ⟨h, k⟩
theorem flipZ_bad {r : List Ch} {a b : Int} (h : ¬ (RightZ r ∧ okQ a b)) : flipZ r a b = ([], 70) := if_neg h
theorem flip_step (s : Bs) (a j : Nat) (h : a ≤ j) (n : Nat) : (if n = j then !(s j) else flipS s a j n) = flipS s (a : Int) (((j : Nat) : Int) + 1) n := by
  unfold flipS
  by_cases e : n = j
  · subst e
    rw [if_pos rfl, if_pos (by omega)]
  · rw [if_neg e]
    by_cases h1 : (a : Int) ≤ n ∧ (n : Int) < j
    · rw [if_pos h1, if_pos (by omega)]
    · rw [if_neg h1, if_neg (by omega)]
theorem flip_at (s : Bs) (a j : Nat) : flipS s a j j = s j := by unfold flipS; rw [if_neg (by omega)]
theorem flip_zero (s : Bs) (a : Nat) (n : Nat) : flipS s a a n = s n := by unfold flipS; rw [if_neg (by omega)]
theorem flip_end (s : Bs) (a j b : Nat) (h1 : b ≤ j) (h2 : j ≤ b ∨ j = a) (n : Nat) : flipS s a j n = flipS s a b n := by
  unfold flipS
  rcases h2 with h | rfl
  · rw [show j = b by omega]
  · rw [if_neg (by omega), if_neg (by omega)]
/-- The two boxes, held over calls. -/
def FlSt (w : World) (sv : Value) (r : List Ch) (W : World) : Prop := Blk W w.heap.size 24 #[sv] ∧ Blk W (w.heap.size + 1) 24 #[.slice none 0 0] ∧ Chs W.heap.size W sv r ∧ Below w.heap.size w W
theorem FlSt.start {w : World} {sv : Value} {r : List Ch} (h : Chs w.heap.size w sv r) : FlSt w sv r ((w.alloc (.cells #[sv] 24)).alloc (.cells #[.slice none 0 0] 24)) := by
  have hb : Below w.heap.size w ((w.alloc (.cells #[sv] 24)).alloc (.cells #[.slice none 0 0] 24)) := ((Below.refl _ w).alloc (Nat.le_refl _) _).alloc (by simp) _
  exact ⟨(Blk.new w _ _).alloc _, by simpa using Blk.new (w.alloc (.cells #[sv] 24)) 24 #[.slice none 0 0], h.under hb, hb⟩
theorem FlSt.below {w a b : World} {n : Nat} {sv : Value} {r : List Ch} (h : FlSt w sv r a) (hb : Below n a b) (hn : a.heap.size ≤ n) : FlSt w sv r b :=
  ⟨h.1.below hb (Nat.lt_of_lt_of_le h.1.lt hn), h.2.1.below hb (Nat.lt_of_lt_of_le h.2.1.lt hn), (h.2.2.1.below (hb.mono hn)).more (hb.mono hn).size, h.2.2.2.trans (hb.mono (Nat.le_trans h.2.2.2.size hn))⟩
theorem FlSt.lt {w a : World} {sv : Value} {r : List Ch} (h : FlSt w sv r a) : w.heap.size + 2 ≤ a.heap.size := h.2.1.lt
theorem FlSt.store {w wr : World} {sv : Value} {r : List Ch} (h : FlSt w sv r wr) (u : Value) : Blk (wr.setCell ⟨w.heap.size + 1, 0, none⟩ u) (w.heap.size + 1) 24 #[u] ∧ Below w.heap.size w (wr.setCell ⟨w.heap.size + 1, 0, none⟩ u) :=
  ⟨h.2.1.set_ 0 u, h.2.2.2.setCell (by simp) u⟩
/-- A row in a block that is laid since: the two boxes stay as they are. -/
theorem boxes_far {W : World} {n : Nat} {t : TypeId} {u v x : Value} {g p : Nat} (h : Blk W n t #[u] ∧ Blk W (n + 1) t #[v]) (hg : n + 2 ≤ g) : Blk (W.setCell ⟨g, p, none⟩ x) n t #[u] ∧ Blk (W.setCell ⟨g, p, none⟩ x) (n + 1) t #[v] :=
  ⟨h.1.far (by simp; omega) _, h.2.far (by simp; omega) _⟩

/-- The two boxes, and the set that is worked on. -/
def R2St (w : World) (u : Value) (g : Nat) (s : Bs) (W : World) : Prop := (Blk W w.heap.size 24 #[u] ∧ Blk W (w.heap.size + 1) 24 #[.slice none 0 0]) ∧ Row W g s ∧ w.heap.size + 2 ≤ g ∧ Below w.heap.size w W
theorem R2St.congr {w a : World} {u : Value} {g : Nat} {s t : Bs} (h : R2St w u g s a) (e : ∀ n, n < 65536 → s n = t n) : R2St w u g t a := ⟨h.1, h.2.1.congr e, h.2.2⟩
theorem R2St.set {w a : World} {u : Value} {g : Nat} {s : Bs} (h : R2St w u g s a) (n : Nat) (b : Bool) : R2St w u g (fun m => if m = n then b else s m) (a.setCell ⟨g, n, none⟩ (.bool b)) :=
  ⟨boxes_far h.1 h.2.2.1, h.2.1.set n b, h.2.2.1, h.2.2.2.setCell (by have := h.2.2.1; show w.heap.size ≤ g; omega) _⟩
theorem R2St.below {w a b : World} {n : Nat} {u : Value} {g : Nat} {s : Bs} (h : R2St w u g s a) (hb : Below n a b) (hn : a.heap.size ≤ n) : R2St w u g s b :=
  ⟨⟨h.1.1.below hb (Nat.lt_of_lt_of_le h.1.1.lt hn), h.1.2.below hb (Nat.lt_of_lt_of_le h.1.2.lt hn)⟩, h.2.1.below hb (Nat.lt_of_lt_of_le (World.rowIs.lt h.2.1) hn), h.2.2.1, h.2.2.2.trans (hb.mono (Nat.le_trans h.2.2.2.size hn))⟩
theorem R2St.store {w wr : World} {u : Value} {g : Nat} {s : Bs} (h : R2St w u g s wr) (x : Value) : Blk (wr.setCell ⟨w.heap.size + 1, 0, none⟩ x) (w.heap.size + 1) 24 #[x] ∧ Below w.heap.size w (wr.setCell ⟨w.heap.size + 1, 0, none⟩ x) :=
  ⟨h.1.2.set_ 0 x, h.2.2.2.setCell (by simp) x⟩
theorem R2St.lt {w a : World} {u : Value} {g : Nat} {s : Bs} (h : R2St w u g s a) : w.heap.size + 2 ≤ a.heap.size := h.1.2.lt

set_option maxRecDepth 100000 in
set_option maxHeartbeats 4000000 in
theorem ref_flipz_any (x : Option Addr) (len cap : Nat) (r : List Ch) (hm : len ≤ 9223372036854775807) (hd : Ok3 r) (a b : Int) (w : World) (hr : Chs w.heap.size w (.slice x len cap) r) :
    Calls Try.prog 26 #[.agg #[.slice x len cap], .int .i64 a, .int .i64 b] w (RoarRes w (flipZ r a b)) := by
  have HG := Lib.hid (@flipZ_good r a b)
  have HB := Lib.hid (@flipZ_bad r a b)
  have HRt := Lib.hid (fun W h => ref_rightz_any x len cap r hm hd W h)
  have HSet := Lib.hid (fun W h => ref_setz_any x len cap r hm hd W h)
  have HS0 := Lib.hid (FlSt.start hr)
  clear hr hd
  go_enter Try.func26, Try.ntmps26
  have c00 := HS0.out.1.cell 0
  dsimp at c00
  go_wp2_with fail
  refine (HRt.out _ HS0.out.2.2.1).mono ?_
  rintro e w1 ⟨rfl, hb1⟩
  have hS1 := HS0.out.below hb1 (Nat.le_refl _)
  clear HS0 HRt c00
  by_cases hrr : RightZ r
  · have HG2 := Lib.hid (HG.out hrr)
    have HB2 := Lib.hid (fun (h : ¬ okQ a b) => HB.out (fun (k : RightZ r ∧ okQ a b) => h k.2))
    rw [decide_eq_true hrr]
    clear HG HB hrr
    by_cases hok : okQ a b
    · have HV := Lib.hid (HG2.out hok)
      obtain ⟨q1, q2, q3, q4⟩ := hok
      have q1' : ¬ a < 0 := by omega
      have q2' : ¬ a > 65536 := by omega
      have q3' : ¬ b < 0 := by omega
      have q4' : ¬ b > 65536 := by omega
      clear HG2 HB2
      obtain ⟨a, rfl⟩ : ∃ n : Nat, a = n := ⟨a.toNat, by omega⟩
      obtain ⟨b, rfl⟩ : ∃ n : Nat, b = n := ⟨b.toNat, by omega⟩
      have c0 := hS1.1.cell 0
      dsimp at c0
      have hls := hS1.lt
      go_wp2_with fail
      refine (HSet.out _ hS1.2.2.1).mono ?_
      rintro e w2 ⟨N, hN, rfl, hrow, hb2⟩
      have HN := Lib.hid hN
      have hS2 := hS1.below hb2 (Nat.le_refl _)
      have hS3 : R2St w (.slice x len cap) (w1.heap.size + 1) (flipS (setZ r) a a) w2 := ⟨⟨hS2.1, hS2.2.1⟩, hrow.congr fun n _ => (flip_zero _ a n).symm, by omega, hS2.2.2.2⟩
      have HS3 := Lib.hid hS3
      clear hS1 HSet hN hb1 c0 hS2 hS3 hrow hb2 hls
      generalize w1.heap.size + 1 = g at *
      have HOf := Lib.hid (fun W h => ref_of_any g (flipS (setZ r) a b) N N HN.out W h)
      have HV2 : Hid (flipZ r a b = (ofS (flipS (setZ r) a b), 0)) := HV
      clear HV
      generalize setZ r = s at *
      go_wp2
      go_loopw [9] (fun i wr => ∃ j : Nat, i = .int .i64 j ∧ a ≤ j ∧ (j ≤ b ∨ j = a) ∧ R2St w (.slice x len cap) g (flipS s a j) wr) (fun i _ => b - (intOf i).toNat)
      case atStart => exact ⟨a, rfl, Nat.le_refl _, .inr rfl, HS3.out⟩
      case round =>
        obtain ⟨j, rfl, hj1, hj2, hS⟩ := hrel
        clear HS3
        by_cases hlt : j < b
        · have hlt' : (j : Int) < b := by omega
          have hjN : (j : Int) < (N : Int) := by have := HN.out; omega
          have c0 := hS.2.1.cell (n := j) (by omega)
          have f0 := World.rowIs.frozen hS.2.1 j
          rw [flip_at] at c0
          have HP : Hid (R2St w (.slice x len cap) g (flipS s a (((j : Nat) : Int) + 1)) (wr.setCell ⟨g, j, none⟩ (.bool (!s j)))) := Lib.hid ((hS.set j (!s j)).congr fun n _ => flip_step s a j hj1 n)
          clear hS
          generalize s j = sj at *
          go_wp2
          go_roundw
          case rel => exact ⟨j + 1, by simp, by omega, .inl (by omega), HP.out⟩
          case measure => simp [intOf]; omega
        · have hlt' : ¬ (j : Int) < b := by omega
          have hS := hS.congr (t := flipS s a b) fun n _ => flip_end s a j b (by omega) hj2 n
          have hls := hS.lt
          go_wp2_with fail
          refine (HOf.out _ hS.2.1).mono ?_
          rintro e w5 ⟨v, rfl, hown, hb5⟩
          have hS5 := hS.below hb5 (Nat.le_refl _)
          obtain ⟨y, c, rfl, h1, h2, h3, h4⟩ := own_chs (g := w.heap.size + 1) (u := v) hown (by omega)
          have c0 := hS5.1.2.cell 0
          have f0 := hS5.1.2.frozen 0
          dsimp at c0
          obtain ⟨hE, hD⟩ := hS5.store (.slice y (ofS (flipS s a b)).length c)
          have H3 := Lib.hid h3
          have H4 : Hid (∀ b o, y = some ⟨b, o, none⟩ → w.heap.size ≤ b) := Lib.hid (fun b o e => by have := h4 b o e; omega)
          clear h4
          clear hS hS5 hb5 hown h3 HOf
          go_wp2
          exact ret_roar2 rfl rfl hE rfl (roar_some HV2.out rfl h1 h2 H3.out hD H4.out)
    · have HV := Lib.hid (HB2.out hok)
      have hcs : a < 0 ∨ (¬ a < 0 ∧ a > 65536) ∨ (¬ a < 0 ∧ ¬ a > 65536 ∧ b < 0) ∨ (¬ a < 0 ∧ ¬ a > 65536 ∧ ¬ b < 0 ∧ b > 65536) := by unfold okQ at hok; omega
      have c0 := hS1.2.1.cell 0
      have f0 := hS1.2.1.frozen 0
      dsimp at c0
      obtain ⟨hE, hD⟩ := hS1.store (.slice none 0 0)
      clear HG2 HB2 hok hS1 HSet hb1
      rcases hcs with h1 | ⟨h1, h2⟩ | ⟨h1, h2, h3⟩ | ⟨h1, h2, h3, h4⟩
      all_goals
        go_wp2
        exact ret_roar2 rfl rfl hE rfl (roar_none HV.out rfl hD)
  · have HV := Lib.hid (HB.out (fun k => hrr k.1))
    rw [decide_eq_false hrr]
    have c0 := hS1.2.1.cell 0
    have f0 := hS1.2.1.frozen 0
    dsimp at c0
    obtain ⟨hE, hD⟩ := hS1.store (.slice none 0 0)
    clear HG HB hrr hS1 HSet hb1
    go_wp2
    exact ret_roar2 rfl rfl hE rfl (roar_none HV.out rfl hD)

theorem right_nil : RightZ [] := ⟨by decide, by
  have h : ∀ k, ofTo (setZ []) k = [] := fun k => by
    induction k with
    | zero => rfl
    | succ k ih =>
      rw [ofTo_none, ih]
      unfold vals valsTo part
      rw [List.filter_eq_nil_iff]
      intro a _
      rw [setZ_nil]; decide
  exact (h 256).symm⟩
set_option maxRecDepth 100000 in
set_option maxHeartbeats 4000000 in
theorem ref_spanz_any (a b : Int) (w : World) : Calls Try.prog 28 #[.int .i64 a, .int .i64 b] w (RoarRes w (flipZ [] a b)) := by
  have HF := Lib.hid (fun W => ref_flipz_any none 0 0 [] (by decide) (fun c h => by cases h) a b W (.inl ⟨⟨none, 0, rfl⟩, rfl⟩))
  obtain ⟨p, n, hp⟩ : ∃ p n, flipZ [] a b = (p, n) := ⟨_, _, rfl⟩
  have hb0 := Blk.new w 24 #[.slice none 0 0]
  have hB0 := (Below.refl _ w).alloc (Nat.le_refl _) (.cells #[.slice none 0 0] 24)
  have hz0 : (w.alloc (.cells #[.slice none 0 0] 24)).heap.size = w.heap.size + 1 := by simp
  rw [hp] at HF ⊢
  clear hp
  go_enter Try.func28, Try.ntmps28
  go_wp2_with fail
  refine (HF.out _).mono ?_
  rintro e w1 ⟨y, c, rfl, h1, h2, h3, hb1, h4⟩
  generalize w.alloc (.cells #[.slice none 0 0] 24) = w0 at *
  have hb := hb0.below hb1 (by omega)
  have hB := hB0.trans (hb1.mono hB0.size)
  have c0 := hb.cell 0
  have f0 := hb.frozen 0
  dsimp at c0 h1 h2 h3
  have hE := hb.set_ 0 (.slice y p.length c)
  have hD := hB.setCell (p := ⟨w.heap.size, 0, none⟩) (Nat.le_refl _) (.slice y p.length c)
  have H3 := Lib.hid (chs_set (g := w.heap.size) (u := .slice y p.length c) h3 (fun b o l c2 e => by cases e; have := h4 b o rfl; omega))
  have H4 : Hid (∀ b o, y = some ⟨b, o, none⟩ → w.heap.size ≤ b) := Lib.hid (fun b o e => by have := h4 b o e; omega)
  clear hb0 hB0 hb1 hb hB h3 h4 HF hz0
  go_wp2
  exact ret_roar2 rfl rfl hE rfl ⟨y, c, rfl, h1, h2, H3.out, hD, H4.out⟩
end Go.Proofs.Ytbfchlfagdhglaa
/- The document's answer: Values (tesseraeref07.Values). -/
namespace Go.Proofs.Ytbfchlfagdhglaa
open Go.RowKit

/-- A bitmap's numbers, rising; none of what is no bitmap. -/
def valsZ (r : List Ch) : List Nat := if RightZ r then valsTo (setZ r) 65536 else []
theorem valsZ_good {r : List Ch} (h : RightZ r) : valsZ r = valsTo (setZ r) 65536 := if_pos h
theorem valsZ_bad {r : List Ch} (h : ¬ RightZ r) : valsZ r = [] := if_neg h
theorem valsZ_le (r : List Ch) : (valsZ r).length ≤ 65536 := by
  by_cases h : RightZ r
  · rw [valsZ_good h]; exact valsTo_le _ _
  · rw [valsZ_bad h]; exact Nat.zero_le _
/-- The numbers that are answered. -/
def ValsRes (w : World) (l : List Nat) (e : Ending) (w' : World) : Prop :=
  ∃ x c, e = .returned (.slice x l.length c) ∧ Ints w'.heap.size w' (.slice x l.length c) (zsOf l) ∧ Below w.heap.size w w'

set_option maxRecDepth 100000 in
set_option maxHeartbeats 4000000 in
theorem ref_valuesz_any (x : Option Addr) (len cap : Nat) (r : List Ch) (hm : len ≤ 9223372036854775807) (hd : Ok3 r) (w : World) (hr : Chs w.heap.size w (.slice x len cap) r) :
    Calls Try.prog 13 #[.agg #[.slice x len cap]] w (ValsRes w (valsZ r)) := by
  have HG := Lib.hid (@valsZ_good r)
  have HB := Lib.hid (@valsZ_bad r)
  have HRt := Lib.hid (fun W h => ref_rightz_any x len cap r hm hd W h)
  have HSet := Lib.hid (fun W h => ref_setz_any x len cap r hm hd W h)
  have HS0 := Lib.hid (RtSt.start hr)
  clear hr hd
  obtain ⟨i0, hi, hz0, hz1, hz2⟩ := info_parts info_int
  have HInf := Lib.hid hi; have HZ0 := Lib.hid hz0; have HZ1 := Lib.hid hz1; have HZ2 := Lib.hid hz2
  clear hi hz0 hz1 hz2
  go_enter Try.func13, Try.ntmps13
  have c00 := HS0.out.1.cell 0
  dsimp at c00
  go_wp2_with fail
  refine (HRt.out _ HS0.out.2.1).mono ?_
  rintro e w1 ⟨rfl, hb1⟩
  have hS1 := HS0.out.under hb1
  clear HS0 HRt c00
  by_cases hrr : RightZ r
  · have HV := Lib.hid (HG.out hrr)
    rw [decide_eq_true hrr]
    clear HG HB hrr
    have c0 := hS1.1.cell 0
    dsimp at c0
    go_wp2_with fail
    refine (HSet.out _ hS1.2.1).mono ?_
    rintro e w2 ⟨N, hN, rfl, hrow, hb2⟩
    have hB2 := (hS1.under hb2).2.2
    have hg := World.rowIs.lt hrow
    have hwg : w.heap.size < w1.heap.size + 1 := by have := hS1.2.2.size; omega
    clear hS1 HSet hb1 hb2 c0
    generalize w1.heap.size + 1 = g at *
    generalize setZ r = s at *
    rw [← hN] at HV
    have HN := Lib.hid hN
    have HRow := Lib.hid hrow
    have HB2 := Lib.hid hB2
    clear hN hrow hB2
    have hNm : N ≤ 9223372036854775807 := by have := HN.out; omega
    go_wp2
    go_loopw [3, 5] (fun v i wr => ∃ k : Nat, k ≤ N ∧ i = .int .i64 k ∧ wr.ownsRow (g + 1) 3 1 v (valsTo s k).length (intVs (valsTo s k)) ∧ Below (g + 1) w2 wr)
      (fun _ i _ => N - (intOf i).toNat)
    case atStart => exact ⟨0, Nat.zero_le _, rfl, World.ownsRow_nil w2 _ _ _, Below.refl _ _⟩
    case round =>
      obtain ⟨k, hk, rfl, hown, hB⟩ := hrel
      have hl := valsTo_le s k
      have hsz := hB.size
      by_cases hlt : k < N
      · have hlt' : (k : Int) < N := by omega
        have hkN : k < 65536 := by have := HN.out; omega
        have c0 := (HRow.out.below hB (Nat.lt_succ_self _)).cell hkN
        have HY := Lib.hid (@valsTo_yes s k)
        have HNo := Lib.hid (@valsTo_no s k)
        have hl2 : (valsTo s k).length ≤ 65536 := by omega
        clear hkN
        by_cases hy : s k = true
        · have hT := HY.out hy
          rw [hy] at c0
          clear HY HNo hy
          generalize intVs (valsTo s k) = bv at *
          generalize (valsTo s k).length = n at *
          go_wp2_with (at_builtin; refine wpList_append_own _ rfl _ _ 25 rfl (g + 1) 3 i0 (.int .i64 0) 1 8 Try.underlying25 HInf.out HZ0.out HZ1.out HZ2.out rfl (by decide) _ _ _ rfl (hown.alloc _) ⟨wr.heap.size, 0, none⟩ 1 1 [.int .i64 k] rfl rfl (cell_one_new _ _ _) (by simp [Value.oneCell']) (by unfold maxLen; omega) (by omega) (by simp; omega) ?_; intro v2 w4 hown4 hgrow2 _)
          have hB3 : Below (g + 1) wr w4 := ((Below.refl _ wr).alloc (by omega) _).grown hgrow2 (by simp; omega) (fun j e => (hown.lt j e).1)
          rw [← hT.1, ← hT.2] at hown4
          go_roundw
          case rel => exact ⟨k + 1, by omega, by simp, hown4, hB.trans hB3⟩
          case measure => simp [intOf]; omega
        · have hy' := Bool.eq_false_iff.2 hy
          have hT := HNo.out hy'
          rw [← hT] at hown
          rw [hy'] at c0
          clear HY HNo hy hy' hT
          go_wp2
          go_roundw
          case rel => exact ⟨k + 1, by omega, by simp, hown, hB⟩
          case measure => simp [intOf]; omega
      · obtain rfl : k = N := by omega
        have hge : ¬ (k : Int) < k := by omega
        obtain ⟨y, c, rfl, hI⟩ := row_ints (l := valsTo s k) rfl hown
        have HI := Lib.hid hI
        have hE := HB2.out.trans (hB.mono (by omega))
        have HE := Lib.hid hE
        clear hown hI hB hE
        go_wp2
        go_ret
        exact ⟨y, c, by rw [HV.out]; rfl, by rw [HV.out]; exact HI.out, HE.out⟩
  · have HV := Lib.hid (HB.out hrr)
    rw [decide_eq_false hrr]
    have HE := Lib.hid hS1.2.2
    clear HG HB hrr hS1 HSet hb1
    go_wp2
    go_ret
    exact ⟨none, 0, by rw [HV.out]; rfl, by rw [HV.out]; exact .inl ⟨⟨none, 0, rfl⟩, rfl⟩, HE.out⟩
end Go.Proofs.Ytbfchlfagdhglaa
/- The document's answer: Op (tesseraeref07.Op). -/
namespace Go.Proofs.Ytbfchlfagdhglaa
open Go.RowKit

def okOpZ (op : Int) : Prop := 1 ≤ op ∧ op ≤ 4
instance (op : Int) : Decidable (okOpZ op) := by unfold okOpZ; infer_instance
/-- What an operation makes of two bitmaps. -/
def opZ (op : Int) (r q : List Ch) : List Ch × Int := if RightZ r ∧ RightZ q ∧ okOpZ op then (ofS (opS op.toNat (setZ r) (setZ q)), 0) else ([], 70)
theorem opZ_good {op : Int} {r q : List Ch} (h : RightZ r) (k : RightZ q) (o : okOpZ op) : opZ op r q = (ofS (opS op.toNat (setZ r) (setZ q)), 0) := if_pos ⟨h, k, o⟩
theorem opZ_bad {op : Int} {r q : List Ch} (h : ¬ (RightZ r ∧ RightZ q ∧ okOpZ op)) : opZ op r q = ([], 70) := if_neg h
/-- The set, of which the numbers below k are worked on. -/
def mixZ (o : Nat) (s t : Bs) (k : Nat) : Bs := fun n => if n < k then opS o s t n else s n
theorem mixZ_at (o : Nat) (s t : Bs) (k : Nat) : mixZ o s t k k = s k := by unfold mixZ; rw [if_neg (Nat.lt_irrefl k)]
theorem mixZ_zero (o : Nat) (s t : Bs) (n : Nat) : mixZ o s t 0 n = s n := by unfold mixZ; rw [if_neg (Nat.not_lt_zero n)]
theorem mixZ_put (o : Nat) (s t : Bs) (k n : Nat) : (if n = k then opS o s t k else mixZ o s t k n) = mixZ o s t (k + 1) n := by
  unfold mixZ
  by_cases e : n = k
  · subst e; rw [if_pos rfl, if_pos (Nat.lt_succ_self n)]
  · rw [if_neg e]
    by_cases h : n < k
    · rw [if_pos h, if_pos (by omega)]
    · rw [if_neg h, if_neg (by omega)]
/-- The three boxes. -/
def B3 (w : World) (u v : Value) (W : World) : Prop := Blk W w.heap.size 24 #[u] ∧ Blk W (w.heap.size + 1) 24 #[v] ∧ Blk W (w.heap.size + 2) 24 #[.slice none 0 0]
theorem B3.below {w a b : World} {n : Nat} {u v : Value} (h : B3 w u v a) (hb : Below n a b) (hn : a.heap.size ≤ n) : B3 w u v b :=
  ⟨h.1.below hb (Nat.lt_of_lt_of_le h.1.lt hn), h.2.1.below hb (Nat.lt_of_lt_of_le h.2.1.lt hn), h.2.2.below hb (Nat.lt_of_lt_of_le h.2.2.lt hn)⟩
theorem B3.far {w a : World} {u v x : Value} {g p : Nat} (h : B3 w u v a) (hg : w.heap.size + 3 ≤ g) : B3 w u v (a.setCell ⟨g, p, none⟩ x) :=
  ⟨h.1.far (by simp; omega) _, h.2.1.far (by simp; omega) _, h.2.2.far (by simp; omega) _⟩
/-- The boxes and both bitmaps, held over calls. -/
def OzSt (w : World) (u v : Value) (r q : List Ch) (W : World) : Prop := B3 w u v W ∧ Chs W.heap.size W u r ∧ Chs W.heap.size W v q ∧ Below w.heap.size w W
theorem OzSt.start {w : World} {u v : Value} {r q : List Ch} (h : Chs w.heap.size w u r) (k : Chs w.heap.size w v q) : OzSt w u v r q (((w.alloc (.cells #[u] 24)).alloc (.cells #[v] 24)).alloc (.cells #[.slice none 0 0] 24)) := by
  have hb : Below w.heap.size w (((w.alloc (.cells #[u] 24)).alloc (.cells #[v] 24)).alloc (.cells #[.slice none 0 0] 24)) := (((Below.refl _ w).alloc (Nat.le_refl _) _).alloc (by simp) _).alloc (by simp; omega) _
  refine ⟨⟨((Blk.new w _ _).alloc _).alloc _, ?_, ?_⟩, h.under hb, k.under hb, hb⟩
  · have := (Blk.new (w.alloc (.cells #[u] 24)) 24 #[v]).alloc (.cells #[.slice none 0 0] 24)
    simpa using this
  · have := Blk.new ((w.alloc (.cells #[u] 24)).alloc (.cells #[v] 24)) 24 #[.slice none 0 0]
    simpa using this
theorem OzSt.under {w a b : World} {u v : Value} {r q : List Ch} (h : OzSt w u v r q a) (hb : Below a.heap.size a b) : OzSt w u v r q b :=
  ⟨h.1.below hb (Nat.le_refl _), h.2.1.under hb, h.2.2.1.under hb, h.2.2.2.trans (hb.mono h.2.2.2.size)⟩
theorem OzSt.lt {w a : World} {u v : Value} {r q : List Ch} (h : OzSt w u v r q a) : w.heap.size + 3 ≤ a.heap.size := h.1.2.2.lt
theorem OzSt.store {w wr : World} {u v : Value} {r q : List Ch} (h : OzSt w u v r q wr) (x : Value) : Blk (wr.setCell ⟨w.heap.size + 2, 0, none⟩ x) (w.heap.size + 2) 24 #[x] ∧ Below w.heap.size w (wr.setCell ⟨w.heap.size + 2, 0, none⟩ x) :=
  ⟨h.1.2.2.set_ 0 x, h.2.2.2.setCell (by simp) x⟩
/-- The boxes and both sets. -/
def O2St (w : World) (u v : Value) (g : Nat) (s : Bs) (h : Nat) (t : Bs) (W : World) : Prop := B3 w u v W ∧ Row W g s ∧ Row W h t ∧ w.heap.size + 3 ≤ g ∧ g < h ∧ Below w.heap.size w W
theorem O2St.congr {w a : World} {u v : Value} {g k : Nat} {s s' t : Bs} (h : O2St w u v g s k t a) (e : ∀ n, n < 65536 → s n = s' n) : O2St w u v g s' k t a := ⟨h.1, h.2.1.congr e, h.2.2⟩
theorem O2St.set {w a : World} {u v : Value} {g k : Nat} {s t : Bs} (h : O2St w u v g s k t a) (n : Nat) (b : Bool) : O2St w u v g (fun m => if m = n then b else s m) k t (a.setCell ⟨g, n, none⟩ (.bool b)) :=
  ⟨h.1.far h.2.2.2.1, h.2.1.set n b, World.rowIs.setOther h.2.2.1 (by have := h.2.2.2.2.1; show k ≠ g; omega) _, h.2.2.2.1, h.2.2.2.2.1, h.2.2.2.2.2.setCell (by have := h.2.2.2.1; show w.heap.size ≤ g; omega) _⟩
theorem O2St.drew {w a : World} {u v : Value} {g k : Nat} {s t : Bs} (h : O2St w u v g s k t a) : O2St w u v g s k t a.drew := ⟨⟨h.1.1.drew, h.1.2.1.drew, h.1.2.2.drew⟩, h.2.1, h.2.2.1, h.2.2.2.1, h.2.2.2.2.1, h.2.2.2.2.2.drew⟩
theorem O2St.below {w a b : World} {n : Nat} {u v : Value} {g k : Nat} {s t : Bs} (h : O2St w u v g s k t a) (hb : Below n a b) (hn : a.heap.size ≤ n) : O2St w u v g s k t b :=
  ⟨h.1.below hb hn, h.2.1.below hb (Nat.lt_of_lt_of_le (World.rowIs.lt h.2.1) hn), h.2.2.1.below hb (Nat.lt_of_lt_of_le (World.rowIs.lt h.2.2.1) hn), h.2.2.2.1, h.2.2.2.2.1, h.2.2.2.2.2.trans (hb.mono (Nat.le_trans h.2.2.2.2.2.size hn))⟩
theorem O2St.store {w wr : World} {u v : Value} {g k : Nat} {s t : Bs} (h : O2St w u v g s k t wr) (x : Value) : Blk (wr.setCell ⟨w.heap.size + 2, 0, none⟩ x) (w.heap.size + 2) 24 #[x] ∧ Below w.heap.size w (wr.setCell ⟨w.heap.size + 2, 0, none⟩ x) :=
  ⟨h.1.2.2.set_ 0 x, h.2.2.2.2.2.setCell (by simp) x⟩
theorem O2St.lt {w a : World} {u v : Value} {g k : Nat} {s t : Bs} (h : O2St w u v g s k t a) : w.heap.size + 3 ≤ a.heap.size := h.1.2.2.lt

set_option maxRecDepth 100000 in
set_option maxHeartbeats 8000000 in
theorem ref_opz_any (op : Int) (x : Option Addr) (len cap : Nat) (r : List Ch) (hm : len ≤ 9223372036854775807) (hd : Ok3 r) (y : Option Addr) (len2 cap2 : Nat) (q : List Ch) (hm2 : len2 ≤ 9223372036854775807) (hd2 : Ok3 q) (w : World)
    (hr : Chs w.heap.size w (.slice x len cap) r) (hq : Chs w.heap.size w (.slice y len2 cap2) q) :
    Calls Try.prog 24 #[.int .i64 op, .agg #[.slice x len cap], .agg #[.slice y len2 cap2]] w (RoarRes w (opZ op r q)) := by
  have HG := Lib.hid (@opZ_good op r q)
  have HB := Lib.hid (@opZ_bad op r q)
  have HR := Lib.hid (fun W h => ref_rightz_any x len cap r hm hd W h)
  have HQ := Lib.hid (fun W h => ref_rightz_any y len2 cap2 q hm2 hd2 W h)
  have HS := Lib.hid (fun W h => ref_setz_any x len cap r hm hd W h)
  have HT := Lib.hid (fun W h => ref_setz_any y len2 cap2 q hm2 hd2 W h)
  have HS0 := Lib.hid (OzSt.start hr hq)
  clear hr hd hq hd2
  go_enter Try.func24, Try.ntmps24
  have c0 := HS0.out.1.1.cell 0
  dsimp at c0
  go_wp2_with fail
  refine (HR.out _ HS0.out.2.1).mono ?_
  rintro e w1 ⟨rfl, hb1⟩
  have hS1 := HS0.out.under hb1
  clear HS0 HR c0 hb1
  by_cases hrr : RightZ r
  · rw [decide_eq_true hrr]
    have c0 := hS1.1.2.1.cell 0
    dsimp at c0
    go_wp2_with fail
    refine (HQ.out _ hS1.2.2.1).mono ?_
    rintro e w2 ⟨rfl, hb2⟩
    have hS2 := hS1.under hb2
    clear hS1 HQ c0 hb2
    by_cases hqq : RightZ q
    · rw [decide_eq_true hqq]
      by_cases ho : okOpZ op
      · have HV := Lib.hid (HG.out hrr hqq ho)
        obtain ⟨o1, o4⟩ := ho
        clear HG HB hrr hqq
        obtain ⟨o, rfl⟩ : ∃ n : Nat, op = n := ⟨op.toNat, by omega⟩
        have o1' : ¬ (o : Int) < 1 := by omega
        have o4' : ¬ (o : Int) > 4 := by omega
        rw [Int.toNat_natCast] at HV
        have c0 := hS2.1.1.cell 0
        dsimp at c0
        go_wp2_with fail
        refine (HS.out _ hS2.2.1).mono ?_
        rintro e w3 ⟨N, hN, rfl, hrow, hb3⟩
        have HN := Lib.hid hN
        have hS3 := hS2.under hb3
        have hl2 := hS2.lt
        clear hS2 HS c0 hN
        have c0 := hS3.1.2.1.cell 0
        dsimp at c0
        go_wp2_with fail
        refine (HT.out _ hS3.2.2.1).mono ?_
        rintro e w4 ⟨M, hM, rfl, hrow2, hb4⟩
        have hS4 := hS3.under hb4
        have hl23 := World.rowIs.lt hrow
        have h5 : O2St w (.slice x len cap) (.slice y len2 cap2) (w2.heap.size + 1) (mixZ o (setZ r) (setZ q) 0) (w3.heap.size + 1) (setZ q) w4 := ⟨hS4.1, (hrow.below hb4 hl23).congr fun n _ => (mixZ_zero _ _ _ n).symm, hrow2, by omega, by omega, hS4.2.2.2⟩
        have H5 := Lib.hid h5
        have hMN : M = N := by have := HN.out; omega
        subst hMN
        have HOf := Lib.hid (fun W h => ref_of_any (w2.heap.size + 1) (opS o (setZ r) (setZ q)) M M HN.out W h)
        have hNm : M ≤ 9223372036854775807 := by omega
        clear hS3 HT c0 hM hrow hrow2 hb3 hb4 hS4 h5 hl2 hl23
        generalize setZ r = s at *
        generalize setZ q = t at *
        generalize w2.heap.size + 1 = g at *
        generalize w3.heap.size + 1 = h at *
        go_wp2
        go_loopw [10] (fun i wr => ∃ k : Nat, k ≤ M ∧ i = .int .i64 k ∧ O2St w (.slice x len cap) (.slice y len2 cap2) g (mixZ o s t k) h t wr) (fun i _ => M - (intOf i).toNat)
        case atStart => exact ⟨0, Nat.zero_le _, rfl, H5.out⟩
        case round =>
          obtain ⟨k, hk, rfl, hS⟩ := hrel
          clear H5
          by_cases hlt : k < M
          · have hlt' : (k : Int) < M := by omega
            have hkN : k < 65536 := by have := HN.out; omega
            have c2 := hS.2.1.cell hkN
            rw [mixZ_at] at c2
            have c3 := World.rowIs.frozen hS.2.1 k
            have d2 := hS.2.2.1.cell hkN
            have HP := Lib.hid ((hS.set k (opS o s t k)).congr fun n _ => mixZ_put o s t k n)
            have HQ2 := Lib.hid ((hS.drew.set k (opS o s t k)).congr fun n _ => mixZ_put o s t k n)
            have hod : o = 1 ∨ o = 2 ∨ o = 3 ∨ o = 4 := by omega
            clear hS HV HOf hkN
            generalize hsk : s k = sk at *
            generalize htk : t k = tk at *
            rcases hod with rfl | rfl | rfl | rfl
            · have hv : opS 1 s t k = (sk && tk) := by unfold opS; rw [hsk, htk]; rfl
              rw [hv] at HP
              clear hsk htk hv HQ2
              cases sk <;> cases tk
              all_goals
                go_wp2
                go_roundw
                case rel => exact ⟨k + 1, by omega, by simp, HP.out⟩
                case measure => simp [intOf]; omega
            · have hv : opS 2 s t k = (sk || tk) := by unfold opS; rw [hsk, htk]; rfl
              rw [hv] at HP
              clear hsk htk hv HQ2
              cases sk <;> cases tk
              all_goals
                go_wp2
                go_roundw
                case rel => exact ⟨k + 1, by omega, by simp, HP.out⟩
                case measure => simp [intOf]; omega
            · have hv : opS 3 s t k = (sk != tk) := by unfold opS; rw [hsk, htk]; rfl
              rw [hv] at HQ2
              clear hsk htk hv HP
              cases sk <;> cases tk
              all_goals
                go_wp2
                go_region
                all_goals
                  go_wp2
                  go_roundw
                  case rel => exact ⟨k + 1, by omega, by simp, HQ2.out⟩
                  case measure => simp [intOf]; omega
            · have hv : opS 4 s t k = (sk && !tk) := by unfold opS; rw [hsk, htk]; rfl
              rw [hv] at HP
              clear hsk htk hv HQ2
              cases sk <;> cases tk
              all_goals
                go_wp2
                go_roundw
                case rel => exact ⟨k + 1, by omega, by simp, HP.out⟩
                case measure => simp [intOf]; omega
          · obtain rfl : k = M := by omega
            have hge : ¬ (k : Int) < k := by omega
            have hS := hS.congr (s' := opS o s t) fun n hn => by unfold mixZ; rw [if_pos (by have := HN.out; omega)]
            have hls := hS.lt
            go_wp2_with fail
            refine (HOf.out _ hS.2.1).mono ?_
            rintro e w5 ⟨v, rfl, hown, hb5⟩
            have hS5 := hS.below hb5 (Nat.le_refl _)
            obtain ⟨y, c, rfl, h1, h2, h3, h4⟩ := own_chs (g := w.heap.size + 2) (u := v) hown (by omega)
            have c0 := hS5.1.2.2.cell 0
            have f0 := hS5.1.2.2.frozen 0
            dsimp at c0
            obtain ⟨hE, hD⟩ := hS5.store (.slice y (ofS (opS o s t)).length c)
            have H3 := Lib.hid h3
            have H4 : Hid (∀ b o, y = some ⟨b, o, none⟩ → w.heap.size ≤ b) := Lib.hid (fun b o e => by have := h4 b o e; omega)
            clear hS hS5 hb5 hown h3 h4 HOf
            go_wp2
            exact ret_roar2 rfl rfl hE rfl (roar_some HV.out rfl h1 h2 H3.out hD H4.out)
      · have HV := Lib.hid (HB.out (fun k => ho k.2.2))
        have hcs : op < 1 ∨ (¬ op < 1 ∧ op > 4) := by unfold okOpZ at ho; omega
        have c0 := hS2.1.2.2.cell 0
        have f0 := hS2.1.2.2.frozen 0
        dsimp at c0
        obtain ⟨hE, hD⟩ := hS2.store (.slice none 0 0)
        clear HG HB ho hS2 HS HT
        rcases hcs with h1 | ⟨h1, h2⟩
        all_goals
          go_wp2
          exact ret_roar2 rfl rfl hE rfl (roar_none HV.out rfl hD)
    · have HV := Lib.hid (HB.out (fun k => hqq k.2.1))
      rw [decide_eq_false hqq]
      have c0 := hS2.1.2.2.cell 0
      have f0 := hS2.1.2.2.frozen 0
      dsimp at c0
      obtain ⟨hE, hD⟩ := hS2.store (.slice none 0 0)
      clear HG HB hS2 HS HT hqq
      go_wp2
      exact ret_roar2 rfl rfl hE rfl (roar_none HV.out rfl hD)
  · have HV := Lib.hid (HB.out (fun k => hrr k.1))
    rw [decide_eq_false hrr]
    have c0 := hS1.1.2.2.cell 0
    have f0 := hS1.1.2.2.frozen 0
    dsimp at c0
    obtain ⟨hE, hD⟩ := hS1.store (.slice none 0 0)
    clear HG HB hS1 HS HT HQ hrr
    go_wp2
    exact ret_roar2 rfl rfl hE rfl (roar_none HV.out rfl hD)
end Go.Proofs.Ytbfchlfagdhglaa
/- Numbers, ranks, places of bitmaps; bitmaps of their numbers: pure mathematics. -/
namespace Go.Proofs.Ytbfchlfagdhglaa

/-- The set that a bitmap is read as: none of what is no bitmap. -/
def readZ (r : List Ch) : Bs := fun n => decide (RightZ r) && setZ r n
theorem readZ_good {r : List Ch} (h : RightZ r) : readZ r = setZ r := by funext n; unfold readZ; rw [decide_eq_true h, Bool.true_and]
theorem readZ_bad {r : List Ch} (h : ¬ RightZ r) : readZ r = fun _ => false := by funext n; unfold readZ; rw [decide_eq_false h, Bool.false_and]
theorem valsTo_none (k : Nat) : valsTo (fun _ => false) k = [] := by
  unfold valsTo
  rw [List.filter_eq_nil_iff]
  intro a _
  decide
theorem valsZ_read (r : List Ch) : valsZ r = valsTo (readZ r) 65536 := by
  by_cases h : RightZ r
  · rw [valsZ_good h, readZ_good h]
  · rw [valsZ_bad h, readZ_bad h, valsTo_none]
/-- How many numbers below N are at most n. -/
def rankN (s : Bs) (N : Nat) (n : Int) : Nat := (valsTo s (min N (n + 1).toNat)).length
theorem rankN_low (s : Bs) (N : Nat) (n : Int) (h : n < 0) : rankN s N n = 0 := by
  unfold rankN
  rw [show min N (n + 1).toNat = 0 by omega]; rfl
theorem rankN_high (s : Bs) (N : Nat) (n : Int) (h : (N : Int) ≤ n + 1) : rankN s N n = (valsTo s N).length := by
  unfold rankN
  rw [show min N (n + 1).toNat = N by omega]
theorem rankN_le (s : Bs) (N : Nat) (n : Int) : rankN s N n ≤ (valsTo s N).length := by
  unfold rankN
  obtain ⟨r, e, _⟩ := valsTo_take s (min N (n + 1).toNat) N (Nat.min_le_left _ _)
  rw [e, List.length_append]; omega
theorem rankN_step (s : Bs) (N n : Nat) (hn : n < N) : rankN s N n = rankN s N (n - 1 : Int) + (if s n then 1 else 0) := by
  unfold rankN
  rw [show min N ((n : Int) + 1).toNat = n + 1 by omega, show min N ((n : Int) - 1 + 1).toNat = n by omega, valsTo_succ]
  split <;> simp
/-- The number of a place. -/
theorem placeN (s : Bs) (N : Nat) {p n : Nat} (h : (valsTo s N)[p]? = some n) : n < N ∧ s n = true ∧ (valsTo s n).length = p := by
  have hm := mem_valsTo.1 (List.mem_of_getElem? h)
  refine ⟨hm.1, hm.2, ?_⟩
  obtain ⟨r, e, hr⟩ := valsTo_take s (n + 1) N (by omega)
  rw [valsTo_succ s n, if_pos hm.2] at e
  have hk : (valsTo s N)[(valsTo s n).length]? = some n := by
    rw [e, List.getElem?_append_left (by simp), List.getElem?_append_right (Nat.le_refl _)]; simp
  obtain ⟨h1, e1⟩ := List.getElem?_eq_some_iff.1 h
  obtain ⟨h2, e2⟩ := List.getElem?_eq_some_iff.1 hk
  have ha := List.pairwise_iff_getElem.1 (vals_asc s N)
  rcases Nat.lt_trichotomy p (valsTo s n).length with hlt | heq | hgt
  · have h5 := ha _ _ h1 h2 hlt
    rw [e1, e2] at h5; omega
  · exact heq.symm
  · have h5 := ha _ _ h2 h1 hgt
    rw [e1, e2] at h5; omega
theorem placeN_at (s : Bs) (N : Nat) {x : Nat} (hx : x < N) (hs : s x = true) : (valsTo s N)[(valsTo s x).length]? = some x := by
  obtain ⟨r, e, hr⟩ := valsTo_take s (x + 1) N (by omega)
  rw [valsTo_succ s x, if_pos hs] at e
  rw [e, List.getElem?_append_left (by simp), List.getElem?_append_right (Nat.le_refl _)]; simp
/-- The rank of the number at a place, and of the one ahead of it. -/
theorem placeN_rank (s : Bs) (N : Nat) {p n : Nat} (h : (valsTo s N)[p]? = some n) : rankN s N n = p + 1 ∧ rankN s N ((n : Int) - 1) = p := by
  obtain ⟨h1, h2, h3⟩ := placeN s N h
  have h4 : rankN s N ((n : Int) - 1) = p := by
    unfold rankN
    rw [show min N ((n : Int) - 1 + 1).toNat = n by omega]; exact h3
  exact ⟨by rw [rankN_step s N n h1, h4, h2]; rfl, h4⟩
/-- How many of the first k values are at most n: what a law counts. -/
theorem rankN_count (s : Bs) (N : Nat) (n : Int) : ((valsTo s N).filter fun (v : Nat) => decide ((v : Int) ≤ n)).length = rankN s N n := by
  unfold rankN
  obtain ⟨r, e, hr⟩ := valsTo_take s (min N (n + 1).toNat) N (Nat.min_le_left _ _)
  have h1 : (valsTo s (min N (n + 1).toNat)).filter (fun (v : Nat) => decide ((v : Int) ≤ n)) = valsTo s (min N (n + 1).toNat) := by
    rw [List.filter_eq_self]
    intro v hv
    have := (mem_valsTo.1 hv).1
    rw [decide_eq_true_iff]; omega
  have h2 : r.filter (fun (v : Nat) => decide ((v : Int) ≤ n)) = [] := by
    rw [List.filter_eq_nil_iff]
    intro v hv
    have h3 := hr v hv
    have h4 : v ∈ valsTo s N := by rw [e]; exact List.mem_append_right _ hv
    have h5 := (mem_valsTo.1 h4).1
    rw [decide_eq_true_iff]
    omega
  rw [e, List.filter_append, h1, h2, List.append_nil]
theorem vals_mem (s : Bs) (N : Nat) (n : Int) : (valsTo s N).any (fun (v : Nat) => decide ((v : Int) = n)) = (decide (0 ≤ n) && decide (n < (N : Int)) && s n.toNat) := by
  rw [Bool.eq_iff_iff, List.any_eq_true]
  simp only [Bool.and_eq_true, decide_eq_true_iff]
  constructor
  · rintro ⟨v, hv, rfl⟩
    have := mem_valsTo.1 hv
    exact ⟨⟨by omega, by omega⟩, by simpa using this.2⟩
  · rintro ⟨⟨h1, h2⟩, h3⟩
    exact ⟨n.toNat, mem_valsTo.2 ⟨by omega, h3⟩, by omega⟩
/-- Has a bitmap the number? -/
def hasZ (r : List Ch) (n : Int) : Bool := goodQ n && readZ r n.toNat
/-- The numbers of a bitmap make it again. -/
theorem ofL_valsN (s : Bs) (N n : Nat) : ofL (zsOf (valsTo s N)) n = (decide (n < N) && s n) := by
  unfold ofL zsOf
  rw [List.any_map, Bool.eq_iff_iff, List.any_eq_true]
  simp only [Bool.and_eq_true, decide_eq_true_iff, Function.comp]
  constructor
  · rintro ⟨v, hv, e⟩
    have e' : v = n := by
      have := of_decide_eq_true e
      omega
    subst e'
    exact mem_valsTo.1 hv
  · rintro ⟨h1, h2⟩
    exact ⟨n, mem_valsTo.2 ⟨h1, h2⟩, by simp⟩
theorem allQ_vals (s : Bs) : AllQ (zsOf (valsTo s 65536)) := by
  intro z hz
  obtain ⟨v, hv, rfl⟩ := List.mem_map.1 hz
  have := (mem_valsTo.1 hv).1
  unfold goodQ; simp; omega
theorem make_valsZ {r : List Ch} (h : RightZ r) : makeZ (zsOf (valsZ r)) = (r, 0) := by
  rw [valsZ_good h, makeZ_good (allQ_vals _)]
  have e : ofS (ofL (zsOf (valsTo (setZ r) 65536))) = ofS (setZ r) := ofS_congr fun n hn => by rw [ofL_valsN, decide_eq_true hn, Bool.true_and]
  rw [e, ← h.2]
/-- Two bitmaps of sets. -/
theorem ofS_eq {s t : Bs} : ofS s = ofS t ↔ SameZ s t := ⟨fun h => (set_of s).symm.trans (h ▸ set_of t), ofS_congr⟩
theorem opZ_of (op : Nat) (h1 : 1 ≤ op) (h4 : op ≤ 4) (s t : Bs) : opZ (op : Int) (ofS s) (ofS t) = (ofS (opS op s t), 0) := by
  rw [opZ_good (right_of s) (right_of t) (by unfold okOpZ; omega), Int.toNat_natCast]
  refine Prod.ext (ofS_congr fun n hn => ?_) rfl
  unfold opS
  rw [set_of s n hn, set_of t n hn]
theorem flipZ_of {a b : Int} (h : okQ a b) (s : Bs) : flipZ (ofS s) a b = (ofS (flipS s a b), 0) := by
  rw [flipZ_good (right_of s) h]
  refine Prod.ext (ofS_congr fun n hn => ?_) rfl
  unfold flipS
  rw [set_of s n hn]
theorem flipZ_nil {a b : Int} (h : okQ a b) : flipZ [] a b = (ofS (fun n => decide (a ≤ n) && decide ((n : Int) < b)), 0) := by
  rw [flipZ_good right_nil h]
  refine Prod.ext (ofS_congr fun n _ => ?_) rfl
  unfold flipS
  rw [setZ_nil]
  by_cases h1 : a ≤ n ∧ (n : Int) < b
  · rw [if_pos h1, decide_eq_true h1.1, decide_eq_true h1.2]; rfl
  · rw [if_neg h1]
    symm
    rw [Bool.and_eq_false_iff, decide_eq_false_iff_not, decide_eq_false_iff_not]
    omega
theorem valsZ_of (s : Bs) : valsZ (ofS s) = valsTo s 65536 := by
  rw [valsZ_good (right_of s)]
  exact valsTo_congr fun n hn => set_of s n hn
end Go.Proofs.Ytbfchlfagdhglaa
