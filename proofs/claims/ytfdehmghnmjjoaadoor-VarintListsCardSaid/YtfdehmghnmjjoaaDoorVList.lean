/- (*reader).list and varint.Unpack. -/
import Derived.Test.YtfdehmghnmjjoaaDoorVListM
import Derived.Test.YtfdehmghnmjjoaaDoorVGet
import Derived.LoopTactic
namespace Go.Proofs.YtfdehmghnmjjoaaDoor
open Go.RowKit

theorem info_i64 : (Tryd.prog.info? 2).map (fun i => (i.zero, i.size, i.bytes)) = some (some (.int .i64 0), 1, 8) := by kernel_rfl
def i64s (l : List Int) : List Value := l.map fun z => Value.int .i64 z
theorem i64s_snoc (l : List Int) (z : Int) : i64s (l ++ [z]) = i64s l ++ [Value.int .i64 z] := by simp [i64s]

/-- Numbers read ahead of what is still to be read. -/
def ext (zs : List Int) (r : Int × List Int × List UInt8) : Int × List Int × List UInt8 := (r.1, zs ++ r.2.1, r.2.2)
theorem ext_step {zs : List Int} {k : Nat} {p : Int} {t : List UInt8} (h : vcode t = 0) : ext zs (rd (k + 1) p t) = ext (zs ++ [wrap64 (p + backOf (vnum t))]) (rd k (wrap64 (p + backOf (vnum t))) (t.drop (vsize t))) := by
  rw [rd_ok h]
  simp [ext]

/-- What a call of list leaves: the reader holds the error, or what is left and none; without one the slice owns the numbers. -/
def ListPost (a b : Addr) (B : Nat) (s : List UInt8) (w : World) (e : Ending) (w' : World) : Prop :=
  ∃ v t, e = .returned v ∧ Blk w' B 47 #[.string ⟨t.toArray⟩, er a b (ucode s)] ∧ w.grownBy w' (some B) ∧
    (ucode s = 0 → t = urest s ∧ w'.ownsRow w.heap.size 2 1 v (unums s).length (i64s (unums s)))

theorem grown_two {w w1 w2 : World} {B : Nat} (h : w.grownBy w1 (some B)) (k : w1.grownBy w2 (some B)) : w.grownBy w2 (some B) :=
  ⟨k.os.trans h.os, k.tape.trans h.tape, k.output.trans h.output, Nat.le_trans h.size k.size, fun i hi hne => (k.block i (Nat.lt_of_lt_of_le hi h.size) hne).trans (h.block i hi hne)⟩
theorem grown_of_none {w w1 : World} {row : Option Nat} (h : w.grownBy w1 row) {n : Nat} {B : Nat} {w0 : World} (hw : w0.grownBy w (some B)) (hn : w0.heap.size = n) (hr : ∀ k, row = some k → n ≤ k) : w0.grownBy w1 (some B) :=
  ⟨h.os.trans hw.os, h.tape.trans hw.tape, h.output.trans hw.output, Nat.le_trans hw.size h.size, fun i hi hne => (h.block i (Nat.lt_of_lt_of_le hi hw.size) (fun e => by have := hr i e.symm; omega)).trans (hw.block i hi hne)⟩

set_option maxRecDepth 100000 in
set_option maxHeartbeats 4000000 in
theorem list_any {n₀ : Nat} (a b : Addr) (B : Nat) (s : List UInt8) (hs : s.length ≤ 9223372036854775807) (w : World) (hS : Sent n₀ w a b) (hn₀ : n₀ ≤ w.heap.size) (hB : n₀ ≤ B) (bB : Blk w B 47 #[.string ⟨s.toArray⟩, .nilIface]) :
    Calls Tryd.prog 25 #[.pointer (some ⟨B, 0, none⟩)] w (ListPost a b B s w) := by
  have hBlt := bB.lt
  have HNum := Lib.hid (number_any a b B s hs w hS hn₀ hB bB)
  have hnl := vnum_lt s
  go_enter Tryd.func25, Tryd.ntmps25
  go_wp2_with fail
  refine HNum.out.mono ?_
  rintro e w1 ⟨rfl, hb1, hg1⟩
  have hBel1 : Below n₀ w w1 := grown_below hg1 hB hn₀
  have hS1 := hS.below hBel1
  have vb := hS1.vb
  have c0 := hb1.cell 0; have c1 := hb1.cell 1; have f1 := hb1.frozen 1
  dsimp at c0 c1
  by_cases hbig : 1000 < vnum s
  · have hbig' : (1000 : Int) < (vnum s : Int) := by omega
    have hc0 : vcode s = 0 := by
      by_cases h : vcode s = 0
      · exact h
      · rw [vnum_err h] at hbig; omega
    go_wp2
    go_ret
    refine ⟨_, s.drop (vsize s), rfl, ?_, grown_two hg1 ⟨rfl, rfl, rfl, by simp [World.setCell], fun i hi hne => Below.heap_setCell _ _ _ i (fun e => hne (by rw [e]))⟩, ?_⟩
    · have h := hb1.set_ 1 (er a b 20)
      have hu : ucode s = 20 := by unfold ucode; rw [if_pos hc0, if_neg (by omega)]
      rw [hu]
      exact h
    · intro hu
      have hu2 : ucode s = 20 := by unfold ucode; rw [if_pos hc0, if_neg (by omega)]
      rw [hu2] at hu
      cases hu
  · have hbig' : ¬ (1000 : Int) < (vnum s : Int) := by omega
    have hcl : vnum s ≤ 1000 := by omega
    have HU : Hid (ucode s = if vcode s = 0 then (rd (vnum s) 0 (s.drop (vsize s))).1 else vcode s) := Lib.hid (by
      unfold ucode
      rw [if_pos hcl])
    obtain ⟨i0, hi, hz0, hz1, hz2⟩ := info_parts info_i64
    have hmk : ∀ W : World, (Instr.makeSlice 32 (.int .i64 0) (.int .u64 (vnum s : Int))).run Tryd.prog W = .ok (.slice (some ⟨W.heap.size, 0, none⟩) 0 (vnum s)) (W.alloc (.cells (madeCells #[.int .i64 0] (vnum s)) 2)) := fun W => by
      have h := run_make (P := Tryd.prog) W 32 2 i0 (.int .i64 0) Tryd.underlying32 hi hz0 .i64 .u64 0 (vnum s : Int) (by omega) (by omega) (by rw [hz2]; omega) (by omega)
      rw [hz1] at h
      rw [h]
      simp [Value.cells]
    have HI := Lib.hid hi; have HZ0 := Lib.hid hz0; have HZ1 := Lib.hid hz1; have HZ2 := Lib.hid hz2
    clear hi hz0 hz1 hz2
    have hsz1 := hg1.size
    have hown1 : (w1.alloc (.cells (madeCells #[.int .i64 0] (vnum s)) 2)).ownsRow w.heap.size 2 1 (.slice (some ⟨w1.heap.size, 0, none⟩) 0 (vnum s)) 0 [] :=
      World.ownsRow_made (base := w.heap.size) (e := 2) (size := 1) w1 (madeCells #[.int .i64 0] (vnum s)) (vnum s) hsz1 (by unfold maxLen; omega) (by simp [madeCells])
    have hg2 : w.grownBy (w1.alloc (.cells (madeCells #[.int .i64 0] (vnum s)) 2)) (some B) := grown_of_none (World.grownBy_alloc w1 _ none) hg1 rfl (fun k e => by cases e)
    have hb2 := hb1.alloc (.cells (madeCells #[.int .i64 0] (vnum s)) 2)
    by_cases hc0 : vcode s = 0
    · have HC0 := Lib.hid hc0
      rw [hc0] at hb2
      have HU0 : Hid (ucode s = (rd (vnum s) 0 (s.drop (vsize s))).1) := Lib.hid (by rw [HU.out, if_pos hc0])
      have HN : Hid (unums s = (rd (vnum s) 0 (s.drop (vsize s))).2.1) := Lib.hid rfl
      have HR : Hid (urest s = (rd (vnum s) 0 (s.drop (vsize s))).2.2) := Lib.hid rfl
      have hdl : (s.drop (vsize s)).length ≤ s.length := by simp
      clear hc0 c0 c1 f1 hb1 HU HNum
      generalize s.drop (vsize s) = s1 at *
      generalize vnum s = cnt at *
      go_wp2
      go_loopw [4, 5, 17] (fun v n i wr => ∃ (k : Nat) (zs : List Int) (t : List UInt8) (p : Int), k ≤ cnt ∧ i = .int .u64 k ∧ n = .int .i64 p ∧ Hid (zs.length = k) ∧ t.length ≤ s.length ∧
          Blk wr B 47 #[.string ⟨t.toArray⟩, .nilIface] ∧ w.grownBy wr (some B) ∧ wr.ownsRow w.heap.size 2 1 v k (i64s zs) ∧ Hid (rd cnt 0 s1 = ext zs (rd (cnt - k) p t)))
        (fun _ _ i _ => cnt - (intOf i).toNat)
      case atStart => exact ⟨0, [], s1, 0, Nat.zero_le _, rfl, rfl, Lib.hid rfl, hdl, hb2, hg2, hown1, Lib.hid (by simp [ext])⟩
      case round =>
        obtain ⟨k, zs, t, p, hk, rfl, rfl, HZ, htl, hbt, hgt, hown, HRd⟩ := hrel
        by_cases hlt : k < cnt
        · have hlt' : (k : Int) < cnt := by omega
          have hBelt : Below n₀ w wr := grown_below hgt hB hn₀
          have HNum := Lib.hid (number_any a b B t (by omega) wr (hS.below hBelt) (Nat.le_trans hn₀ hgt.size) hB hbt)
          have hnt := vnum_lt t
          have HBk := Lib.hid (back_any (vnum t : Int) (by omega) (by omega))
          go_wp2_with fail
          refine HNum.out.mono ?_
          rintro e w2 ⟨rfl, hbn, hgn⟩
          have hgt2 := grown_two hgt hgn
          have hown2 := hown.kept hgn (by
            cases e : u4.ownBlock with
            | none => exact .inl rfl
            | some g => exact .inr (fun e' => by cases e'; have := (hown.lt B e).1; omega))
          go_wp2_with fail
          refine (HBk.out _).mono ?_
          rintro e w3 ⟨rfl, rfl⟩
          by_cases hct : vcode t = 0
          · have HX := Lib.hid (ext_step (zs := zs) (k := cnt - k - 1) (p := p) hct)
            have hdt : (t.drop (vsize t)).length ≤ s.length := by simp; omega
            rw [hct] at hbn
            clear hct HNum HBk
            generalize t.drop (vsize t) = t2 at *
            generalize hq : backOf (vnum t : Int) = q at *
            have hn1 := hbn.cell 1
            dsimp [er] at hn1
            clear hq
            go_wp2_with (at_builtin; refine wpList_append_own _ rfl _ _ 32 rfl w.heap.size 2 i0 (.int .i64 0) 1 8 Tryd.underlying32 HI.out HZ0.out HZ1.out HZ2.out rfl (by decide) _ _ _ rfl (hown2.alloc _) ⟨w2.heap.size, 0, none⟩ 1 1 [.int .i64 (wrap64 (p + q))] rfl rfl (cell_one_new _ _ _) (by simp [Value.oneCell']) (by unfold maxLen; omega) (by omega) (by have := hgt2.size; simp; omega) ?_; intro v3 w3 hown3 hgrow3 _)
            have hne : ∀ g, u4.ownBlock = some g → w.heap.size ≤ g := fun g e => (hown.lt g e).1
            have hg3 : w.grownBy w3 (some B) := grown_of_none hgrow3 (grown_of_none (World.grownBy_alloc w2 _ none) hgt2 rfl (fun k e => by cases e)) rfl (fun k e => hne k e)
            have hb3 : Blk w3 B 47 #[.string ⟨t2.toArray⟩, .nilIface] := (hgrow3.block B (by have := hgt2.size; simp; omega) (fun e => by have := hne B e.symm; omega)).trans (hbn.alloc _)
            go_roundw
            case rel => exact ⟨k + 1, zs ++ [wrap64 (p + q)], t2, wrap64 (p + q), by omega, by simp, rfl, Lib.hid (by simp [HZ.out]), hdt, hb3, hg3, by rw [i64s_snoc]; exact hown3, Lib.hid (by
              rw [HRd.out, show cnt - k = cnt - k - 1 + 1 by omega, HX.out]; rfl)⟩
            case measure => simp [intOf]; omega
          · have hu : ucode s = vcode t := by
              rw [HU0.out, HRd.out, show cnt - k = cnt - k - 1 + 1 by omega, rd_err hct]; rfl
            have HL : ∀ v, ListPost a b B s w (.returned v) w2 := fun v => ⟨v, t.drop (vsize t), rfl, by rw [hu]; exact hbn, hgt2, fun h => absurd (hu ▸ h) hct⟩
            have hn1 := hbn.cell 1
            dsimp at hn1
            have hcc : vcode t = 20 ∨ vcode t = 21 := by rcases vcode_cases t with h | h | h <;> simp_all
            have HLL := Lib.hid HL
            clear HL hu HNum HBk
            rcases hcc with hcc | hcc
            · rw [hcc, er_none] at hn1
              clear hcc hct hbn
              go_wp2
              refine bodyPost_ret (v := .slice none 0 0) (results_tmp (t := 2) rfl _ _ _) rfl (HLL.out _)
            · rw [hcc, er_more] at hn1
              clear hcc hct hbn
              go_wp2
              refine bodyPost_ret (v := .slice none 0 0) (results_tmp (t := 2) rfl _ _ _) rfl (HLL.out _)
        · obtain rfl : k = cnt := by omega
          have hrd := HRd.out
          rw [Nat.sub_self] at hrd
          have e0 : rd k 0 s1 = (0, zs, t) := by rw [hrd]; simp [ext, rd]
          have hu : ucode s = 0 := by rw [HU0.out, e0]
          have hn : unums s = zs := by rw [HN.out, e0]
          have hr : urest s = t := by rw [HR.out, e0]
          have HLL : Hid (ListPost a b B s w (.returned u4) wr) := Lib.hid ⟨u4, t, rfl, by rw [hu]; exact hbt, hgt, fun _ => ⟨hr.symm, by rw [hn, HZ.out]; exact hown⟩⟩
          have hge : ¬ (k : Int) < k := by omega
          clear hrd e0 hu hn hr
          go_wp2
          refine bodyPost_ret (v := u4) (results_tmp (t := 2) rfl _ _ _) rfl HLL.out
    · have hu : ucode s = vcode s := by rw [HU.out, if_neg hc0]
      have HLL := Lib.hid (fun v => (⟨v, s.drop (vsize s), rfl, by rw [hu]; exact hb2, hg2, fun h => absurd (hu ▸ h) hc0⟩ : ListPost a b B s w (.returned v) (w1.alloc (.cells (madeCells #[.int .i64 0] (vnum s)) 2))))
      have h0 := vnum_err hc0
      clear hu HU c0 c1 f1 hb1 hb2 hg2 HNum hown1
      generalize vnum s = cnt at *
      subst h0
      have hmk0 : ∀ W : World, (Instr.makeSlice 32 (.int .i64 0) (.int .u64 0)).run Tryd.prog W = .ok (.slice (some ⟨W.heap.size, 0, none⟩) 0 0) (W.alloc (.cells (madeCells #[.int .i64 0] 0) 2)) := hmk
      clear hmk
      go_wp2
      refine wp_loop_rounds 1 ?_
      rw [rounds_succ]
      go_wp2
      refine bodyPost_ret (results_tmp (t := 2) rfl _ _ _) rfl (HLL.out _)

/-- What Unpack answers. -/
def UnpackPost (s : List UInt8) (w : World) (e : Ending) (w' : World) : Prop :=
  Below w.heap.size w w' ∧ ((ucode s = 0 ∧ ∃ v, e = .returned (.tuple #[v, .string ⟨(urest s).toArray⟩, .int .i64 0]) ∧ w'.ownsRow w.heap.size 2 1 v (unums s).length (i64s (unums s))) ∨
    ((ucode s = 20 ∨ ucode s = 21) ∧ e = .returned (.tuple #[.slice none 0 0, .string ⟨s.toArray⟩, .int .i64 (ucode s)])))

set_option maxRecDepth 100000 in
set_option maxHeartbeats 2000000 in
theorem unpack_any {n₀ : Nat} (a b : Addr) (s : List UInt8) (hs : s.length ≤ 9223372036854775807) (w : World) (hS : Sent n₀ w a b) (hn₀ : n₀ ≤ w.heap.size) : Calls Tryd.prog 19 #[.string ⟨s.toArray⟩] w (UnpackPost s w) := by
  have hb0 := Blk.new w 47 #[.string ⟨s.toArray⟩, .nilIface]
  have hB0 : Below w.heap.size w (w.alloc (.cells #[.string ⟨s.toArray⟩, .nilIface] 47)) := (Below.refl _ w).alloc (Nat.le_refl _) _
  have hS0 := hS.below (hB0.mono hn₀)
  have HLs := Lib.hid (list_any a b w.heap.size s hs _ hS0 (by simp; omega) hn₀ hb0)
  have HB0 := Lib.hid hB0
  clear hb0 hB0 hS0
  go_enter Tryd.func19, Tryd.ntmps19
  go_wp2_with fail
  refine HLs.out.mono ?_
  rintro e w1 ⟨v, t, rfl, hb1, hg1, hok⟩
  have hB1 : Below w.heap.size w w1 := HB0.out.trans (grown_below hg1 (Nat.le_refl _) (by simp))
  have hS1 := hS.below (hB1.mono hn₀)
  rcases ucode_cases s with hc | hc | hc
  · rw [hc] at hb1
    obtain ⟨rfl, hown⟩ := hok hc
    have HG : Hid (∀ w', Below w.heap.size w w' → w'.ownsRow w.heap.size 2 1 v (unums s).length (i64s (unums s)) → UnpackPost s w (.returned (.tuple #[v, .string ⟨(urest s).toArray⟩, .int .i64 0])) w') := Lib.hid (fun w' h1 h2 => ⟨h1, .inl ⟨hc, v, rfl, h2⟩⟩)
    clear hc hok
    have hown' : w1.drew.ownsRow w.heap.size 2 1 v (unums s).length (i64s (unums s)) := by
      have h : w1.ownsRow w.heap.size 2 1 v (unums s).length (i64s (unums s)) := by
        refine ⟨hown.1, ?_⟩
        rcases hown.2 with h | ⟨g, cap, cur, h1, h2, h3⟩
        · exact .inl h
        · exact .inr ⟨g, cap, cur, h1, by simp at h2; omega, h3⟩
      exact h
    have HGG := Lib.hid (HG.out _ hB1.drew hown')
    clear hown hown' HG
    generalize urest s = q at *
    have c0 := hb1.cell 0; have c1 := hb1.cell 1
    dsimp [er] at c0 c1
    go_wp2
    go_region
    all_goals
      go_wp2
      go_ret3
      have HG' := HGG.out
      go_simp
  · have HE : Hid (∀ w', Below w.heap.size w w' → UnpackPost s w (.returned (.tuple #[.slice none 0 0, .string ⟨s.toArray⟩, .int .i64 20])) w') := Lib.hid (fun w' h1 => ⟨h1, .inr ⟨.inl hc, by rw [hc]⟩⟩)
    rw [hc] at hb1
    have c1 := hb1.cell 1
    dsimp at c1
    rw [er_none] at c1
    clear hc hok
    go_wp2_with (go_at_call 23; refine (errno_none a b _ hS1).mono ?_; rintro e w' ⟨rfl, rfl⟩)
    go_ret3
    exact HE.out _ hB1
  · have HE : Hid (∀ w', Below w.heap.size w w' → UnpackPost s w (.returned (.tuple #[.slice none 0 0, .string ⟨s.toArray⟩, .int .i64 21])) w') := Lib.hid (fun w' h1 => ⟨h1, .inr ⟨.inr hc, by rw [hc]⟩⟩)
    rw [hc] at hb1
    have c1 := hb1.cell 1
    dsimp at c1
    rw [er_more] at c1
    clear hc hok
    go_wp2_with (go_at_call 23; refine (errno_more a b _ hS1).mono ?_; rintro e w' ⟨rfl, rfl⟩)
    go_ret3
    exact HE.out _ hB1
end Go.Proofs.YtfdehmghnmjjoaaDoor
