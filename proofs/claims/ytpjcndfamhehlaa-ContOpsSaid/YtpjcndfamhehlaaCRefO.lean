/- The document's answer: Op. -/
import Derived.Test.YtpjcndfamhehlaaCRefP
namespace Go.Proofs.Ytpjcndfamhehlaa
open Go.RowKit

/-- The set on its way: the numbers ahead of k are made of both. -/
def mixR (op : Nat) (s t : Bs) (k : Nat) : Bs := fun n => if n < k then opS op s t n else s n
theorem mixr_zero (op : Nat) (s t : Bs) : mixR op s t 0 = s := by funext n; unfold mixR; rw [if_neg (by omega)]
theorem mixr_end (op : Nat) (s t : Bs) : bcl (mixR op s t 256) = bcl (opS op s t) := by
  apply bcl_congr
  intro n hn
  unfold mixR; rw [if_pos hn]
theorem mixr_at (op : Nat) (s t : Bs) (k : Nat) : mixR op s t k k = s k := by unfold mixR; rw [if_neg (by omega)]
theorem mixr_put (op : Nat) (s t : Bs) (k : Nat) : bcl (put1 (mixR op s t k) k (opS op s t k)) = bcl (mixR op s t (k + 1)) := by
  apply bcl_congr
  intro n _
  unfold put1 mixR
  by_cases e : n = k
  · subst e; rw [if_pos rfl, if_pos (by omega)]
  · rw [if_neg e]
    by_cases h : n < k
    · rw [if_pos h, if_pos (by omega)]
    · rw [if_neg h, if_neg (by omega)]
/-- The two boxed containers and the result's cell. -/
def ThSt (w : World) (x y x' y' : Value) (W : World) : Prop := Blk W w.heap.size 23 #[x, y] ∧ Blk W (w.heap.size + 1) 23 #[x', y'] ∧ Blk W (w.heap.size + 1 + 1) 23 #[.int .i64 0, .string ⟨#[]⟩] ∧ Below w.heap.size w W
theorem ThSt.start (w : World) (x y x' y' : Value) : ThSt w x y x' y' (((w.alloc (.cells #[x, y] 23)).alloc (.cells #[x', y'] 23)).alloc (.cells #[.int .i64 0, .string ⟨#[]⟩] 23)) :=
  ⟨((Blk.new w _ _).alloc _).alloc _, by simpa using (Blk.new (w.alloc (.cells #[x, y] 23)) 23 #[x', y']).alloc (.cells #[.int .i64 0, .string ⟨#[]⟩] 23),
    by simpa using Blk.new ((w.alloc (.cells #[x, y] 23)).alloc (.cells #[x', y'] 23)) 23 #[.int .i64 0, .string ⟨#[]⟩], (((Below.refl _ w).alloc (Nat.le_refl _) _).alloc (by simp) _).alloc (by simp; omega) _⟩
theorem ThSt.under {w wr w2 : World} {x y x' y' : Value} (h : ThSt w x y x' y' wr) (hb : Below wr.heap.size wr w2) : ThSt w x y x' y' w2 :=
  ⟨h.1.under hb, h.2.1.under hb, h.2.2.1.under hb, h.2.2.2.trans (hb.mono h.2.2.2.size)⟩
theorem ThSt.drew {w wr : World} {x y x' y' : Value} (h : ThSt w x y x' y' wr) : ThSt w x y x' y' wr.drew := ⟨h.1.drew, h.2.1.drew, h.2.2.1.drew, h.2.2.2.drew⟩
theorem ThSt.done {w wr : World} {x y x' y' : Value} (h : ThSt w x y x' y' wr) (a b : Value) : Below w.heap.size w ((wr.setCell ⟨w.heap.size + 1 + 1, 0, none⟩ a).setCell ⟨w.heap.size + 1 + 1, 1, none⟩ b) :=
  (h.2.2.2.setCell (by simp; omega) _).setCell (by simp; omega) _
/-- With the two sets, in blocks g and h. -/
def OqSt (w : World) (x y x' y' : Value) (g h : Nat) (s t : Bs) (W : World) : Prop := ThSt w x y x' y' W ∧ Blk W g 51 (bcl s) ∧ Blk W h 51 (bcl t) ∧ w.heap.size + 1 + 1 < g ∧ g < h
theorem OqSt.put {w wr : World} {x y x' y' : Value} {g h : Nat} {s t u : Bs} (hS : OqSt w x y x' y' g h s t wr) (n : Nat) (b : Bool) (e : bcl (put1 s n b) = bcl u) : OqSt w x y x' y' g h u t (wr.setCell ⟨g, n, none⟩ (.bool b)) := by
  obtain ⟨⟨h0, h1, h2, h3⟩, h4, h5, h6, h7⟩ := hS
  refine ⟨⟨h0.far (by simp; omega) _, h1.far (by simp; omega) _, h2.far (by simp; omega) _, h3.setCell (by simp; omega) _⟩, ?_, h5.far (by simp; omega) _, h6, h7⟩
  have := h4.set_ n (.bool b)
  rwa [bcl_set, e] at this
theorem OqSt.drew {w wr : World} {x y x' y' : Value} {g h : Nat} {s t : Bs} (hS : OqSt w x y x' y' g h s t wr) : OqSt w x y x' y' g h s t wr.drew := ⟨hS.1.drew, hS.2.1.drew, hS.2.2.1.drew, hS.2.2.2⟩
theorem OqSt.start {w wr w2 : World} {x y x' y' : Value} {s t : Bs} (hT : ThSt w x y x' y' wr) (hb : Below (wr.alloc (.cells (bcl s) 51)).heap.size (wr.alloc (.cells (bcl s) 51)) w2) :
    OqSt w x y x' y' wr.heap.size w2.heap.size s t (w2.alloc (.cells (bcl t) 51)) := by
  have hb1 := hb.alloc hb.size (.cells (bcl t) 51)
  have hlt := hb.size
  rw [World.size_alloc] at hlt
  exact ⟨(hT.under ((Below.refl _ wr).alloc (Nat.le_refl _) _)).under hb1, (Blk.new wr _ _).under hb1, Blk.new w2 _ _, hT.2.2.1.lt, by omega⟩

section
variable (f : Int) (d : List UInt8) (hd : d.length ≤ 300) (g : Int) (c : List UInt8) (hc : c.length ≤ 300) (w : World)
set_option maxRecDepth 100000 in
set_option maxHeartbeats 4000000 in
include hd hc in
theorem ref_op_any (op : Int) : Calls Try.prog 27 #[.int .i64 op, .agg #[.int .i64 f, .string ⟨d.toArray⟩], .agg #[.int .i64 g, .string ⟨c.toArray⟩]] w fun e w' => e = .returned (opCV op f d g c) ∧ Below w.heap.size w w' := by
  have hS0 := ThSt.start w (.int .i64 f) (.string ⟨d.toArray⟩) (.int .i64 g) (.string ⟨c.toArray⟩)
  have HR := Lib.hid (fun W => ref_right_any f d hd W)
  have HQ := Lib.hid (fun W => ref_right_any g c hc W)
  have HS := Lib.hid (fun W => ref_set_any f d hd W)
  have HT := Lib.hid (fun W => ref_set_any g c hc W)
  have hst := st_newb
  have hsz := bcl_size
  have hz := zero_b256
  unfold contV at HS HT
  have c0 := hS0.1.cell 0; have c1 := hS0.1.cell 1
  have e0 := hS0.2.1.cell 0; have e1 := hS0.2.1.cell 1
  dsimp at c0 c1 e0 e1
  by_cases hr : RightC f d
  · rw [decide_eq_true hr] at HR
    by_cases hq : RightC g c
    · rw [decide_eq_true hq] at HQ
      by_cases ho : 1 ≤ op ∧ op ≤ 4
      · obtain ⟨ho1, ho4⟩ := ho
        obtain ⟨o, rfl⟩ : ∃ k : Nat, op = k := ⟨op.toNat, by omega⟩
        have HV : Hid (opCV o f d g c = .tuple #[.agg #[.int .i64 (bestF (opS o (setOf f.toNat d) (setOf g.toNat c)) : Nat), .string ⟨(bestD (opS o (setOf f.toNat d) (setOf g.toNat c))).toArray⟩], .int .i64 0]) := Lib.hid (by
          unfold opCV; rw [if_pos ⟨by unfold okOp; simp; omega, hr, hq⟩, Int.toNat_natCast]; rfl)
        have HF := Lib.hid (fun W => ref_best_any (opS o (setOf f.toNat d) (setOf g.toNat c)) W)
        generalize setOf f.toNat d = s at *
        generalize setOf g.toNat c = t at *
        generalize opCV o f d g c = av at *
        clear hr hq
        go_enter Try.func27, Try.ntmps27
        go_wp2_with fail
        refine (HR.out _).mono ?_
        rintro e w1 ⟨rfl, hb1⟩
        have hS1 := hS0.under hb1
        clear hS0 hb1 c0 c1 e0 e1
        have e0 := hS1.2.1.cell 0; have e1 := hS1.2.1.cell 1
        dsimp at e0 e1
        go_wp2_with fail
        refine (HQ.out _).mono ?_
        rintro e w2 ⟨rfl, hb2⟩
        have hS2 := hS1.under hb2
        clear hS1 hb2 e0 e1
        have c0 := hS2.1.cell 0; have c1 := hS2.1.cell 1
        dsimp at c0 c1
        go_wp2_with fail
        refine (HS.out _).mono ?_
        rintro e w3 ⟨rfl, hb3⟩
        have hS3 := hS2.under hb3
        clear hS2 hb3 c0 c1
        have e0 := (hS3.2.1.alloc (.cells (bcl s) 51)).cell 0; have e1 := (hS3.2.1.alloc (.cells (bcl s) 51)).cell 1
        dsimp at e0 e1
        go_wp2_with fail
        refine (HT.out _).mono ?_
        rintro e w4 ⟨rfl, hb4⟩
        have hS4 := OqSt.start (t := t) hS3 hb4
        clear hS3 hb4 e0 e1
        go_wp2
        generalize hW : w4.alloc (.cells (bcl t) 51) = W0 at *
        generalize w4.heap.size = h at *
        generalize w3.heap.size = k3 at *
        clear hW
        go_loopw [10] (fun i wr => ∃ k : Nat, k ≤ 256 ∧ i = .int .i64 k ∧ OqSt w (.int .i64 f) (.string ⟨d.toArray⟩) (.int .i64 g) (.string ⟨c.toArray⟩) k3 h (mixR o s t k) t wr) (fun i _ => 256 - (intOf i).toNat)
        case atStart => exact ⟨0, Nat.zero_le _, rfl, by rw [mixr_zero]; exact hS4⟩
        case round =>
          obtain ⟨k, hk, rfl, hS⟩ := hrel
          clear hS4
          by_cases hlt : k < 256
          · have hlt' : (k : Int) < 256 := by omega
            have c2 := hS.2.1.cell k
            rw [bcl_get hlt, mixr_at] at c2
            have c3 := hS.2.1.frozen k
            have d2 := hS.2.2.1.cell k
            rw [bcl_get hlt] at d2
            have HP := Lib.hid (hS.put k _ (mixr_put o s t k))
            have HQ2 := Lib.hid (hS.drew.put k _ (mixr_put o s t k))
            have hod : o = 1 ∨ o = 2 ∨ o = 3 ∨ o = 4 := by omega
            clear hS HV HF
            generalize hsk : s k = sk at *
            generalize htk : t k = tk at *
            rcases hod with rfl | rfl | rfl | rfl
            · have hv : opS 1 s t k = (sk && tk) := by unfold opS; rw [hsk, htk]; rfl
              rw [hv] at HP
              clear hsk htk hv HQ2
              cases sk <;> cases tk
              all_goals
                go_wp2
                go_roundw
                case rel => exact ⟨k + 1, by omega, by simp, HP.out⟩
                case measure => simp [intOf]; omega
            · have hv : opS 2 s t k = (sk || tk) := by unfold opS; rw [hsk, htk]; rfl
              rw [hv] at HP
              clear hsk htk hv HQ2
              cases sk <;> cases tk
              all_goals
                go_wp2
                go_roundw
                case rel => exact ⟨k + 1, by omega, by simp, HP.out⟩
                case measure => simp [intOf]; omega
            · have hv : opS 3 s t k = (sk != tk) := by unfold opS; rw [hsk, htk]; rfl
              rw [hv] at HQ2
              clear hsk htk hv HP
              cases sk <;> cases tk
              all_goals
                go_wp2
                go_region
                all_goals
                  go_wp2
                  go_roundw
                  case rel => exact ⟨k + 1, by omega, by simp, HQ2.out⟩
                  case measure => simp [intOf]; omega
            · have hv : opS 4 s t k = (sk && !tk) := by unfold opS; rw [hsk, htk]; rfl
              rw [hv] at HP
              clear hsk htk hv HQ2
              cases sk <;> cases tk
              all_goals
                go_wp2
                go_roundw
                case rel => exact ⟨k + 1, by omega, by simp, HP.out⟩
                case measure => simp [intOf]; omega
          · obtain rfl : k = 256 := by omega
            have b9 := hS.2.1
            rw [mixr_end] at b9
            have hS9 := hS.1
            clear hS
            generalize opS o s t = u at *
            generalize ((bestF u : Nat) : Int) = q at *
            generalize bestD u = dq at *
            go_wp2_with (refine wpList_ld_b rfl _ rfl _ rfl u ?_ ?_; exact b9)
            refine (HF.out _).mono ?_
            rintro e w5 ⟨rfl, hb5⟩
            have hS3 := hS9.under hb5
            clear hS9 hb5 b9
            have c0 := hS3.2.2.1.cell 0; have c1 := hS3.2.2.1.cell 1
            have f0 := hS3.2.2.1.frozen 0; have f1 := hS3.2.2.1.frozen 1
            dsimp at c0 c1
            have hE := hS3.2.2.1.set2 (.int .i64 q) (.string ⟨dq.toArray⟩)
            have hD := hS3.done (.int .i64 q) (.string ⟨dq.toArray⟩)
            clear hS3
            go_wp2
            exact ret_cont2 rfl rfl hE rfl ⟨by rw [HV.out]; rfl, hD⟩
      · have HV := Lib.hid (opCV_no (f := f) (g := g) (d := d) (e := c) (fun h => ho (by have := h.1; unfold okOp at this; simpa using this)))
        generalize opCV op f d g c = av at *
        clear HS HT hr hq
        have ho' : op < 1 ∨ (¬ op < 1 ∧ op > 4) := by omega
        clear ho
        rcases ho' with h1 | ⟨h1, h2⟩
        all_goals
          go_enter Try.func27, Try.ntmps27
          go_wp2_with fail
          refine (HR.out _).mono ?_
          rintro e w1 ⟨rfl, hb1⟩
          have hS1 := hS0.under hb1
          clear hS0 hb1 c0 c1 e0 e1
          have e0 := hS1.2.1.cell 0; have e1 := hS1.2.1.cell 1
          dsimp at e0 e1
          go_wp2_with fail
          refine (HQ.out _).mono ?_
          rintro e w2 ⟨rfl, hb2⟩
          have hS3 := hS1.under hb2
          clear hS1 hb2 e0 e1
          have c0 := hS3.2.2.1.cell 0; have c1 := hS3.2.2.1.cell 1
          have f0 := hS3.2.2.1.frozen 0; have f1 := hS3.2.2.1.frozen 1
          dsimp at c0 c1
          have hE := hS3.2.2.1.set2 (.int .i64 0) (.string ⟨#[]⟩)
          have hD := hS3.done (.int .i64 0) (.string ⟨#[]⟩)
          clear hS3
          go_wp2
          exact ret_cont2 rfl rfl hE rfl ⟨by rw [HV.out]; rfl, hD⟩
    · rw [decide_eq_false hq] at HQ
      have HV := Lib.hid (opCV_no (op := op) (f := f) (d := d) (g := g) (e := c) (fun h => hq h.2.2))
      generalize opCV op f d g c = av at *
      clear HS HT hr hq
      go_enter Try.func27, Try.ntmps27
      go_wp2_with fail
      refine (HR.out _).mono ?_
      rintro e w1 ⟨rfl, hb1⟩
      have hS1 := hS0.under hb1
      clear hS0 hb1 c0 c1 e0 e1
      have e0 := hS1.2.1.cell 0; have e1 := hS1.2.1.cell 1
      dsimp at e0 e1
      go_wp2_with fail
      refine (HQ.out _).mono ?_
      rintro e w2 ⟨rfl, hb2⟩
      have hS3 := hS1.under hb2
      clear hS1 hb2 e0 e1
      have c0 := hS3.2.2.1.cell 0; have c1 := hS3.2.2.1.cell 1
      have f0 := hS3.2.2.1.frozen 0; have f1 := hS3.2.2.1.frozen 1
      dsimp at c0 c1
      have hE := hS3.2.2.1.set2 (.int .i64 0) (.string ⟨#[]⟩)
      have hD := hS3.done (.int .i64 0) (.string ⟨#[]⟩)
      clear hS3
      go_wp2
      exact ret_cont2 rfl rfl hE rfl ⟨by rw [HV.out]; rfl, hD⟩
  · rw [decide_eq_false hr] at HR
    have HV := Lib.hid (opCV_no (op := op) (f := f) (d := d) (g := g) (e := c) (fun h => hr h.2.1))
    generalize opCV op f d g c = av at *
    clear HS HT hr HQ
    go_enter Try.func27, Try.ntmps27
    go_wp2_with fail
    refine (HR.out _).mono ?_
    rintro e w1 ⟨rfl, hb1⟩
    have hS3 := hS0.under hb1
    clear hS0 hb1 c0 c1 e0 e1
    have c0 := hS3.2.2.1.cell 0; have c1 := hS3.2.2.1.cell 1
    have f0 := hS3.2.2.1.frozen 0; have f1 := hS3.2.2.1.frozen 1
    dsimp at c0 c1
    have hE := hS3.2.2.1.set2 (.int .i64 0) (.string ⟨#[]⟩)
    have hD := hS3.done (.int .i64 0) (.string ⟨#[]⟩)
    clear hS3
    go_wp2
    exact ret_cont2 rfl rfl hE rfl ⟨by rw [HV.out]; rfl, hD⟩
end
end Go.Proofs.Ytpjcndfamhehlaa
