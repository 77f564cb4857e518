import Derived.Test.YtbfchlfagdhglaaDoorMG3
import Derived.Test.YtbfchlfagdhglaaDoorMG2
import Derived.RangeFuncBox
/- The document's answer: numbers in a form. -/
namespace Go.Proofs.YtbfchlfagdhglaaDoor
open Go.RowKit

/-- The blocks of form's walk: the set's, the result's. -/
def FormSt (w : World) (s : Bs) (wr : World) : Prop := Blk wr w.heap.size 94 (bcl s) ∧ Blk wr (w.heap.size + 1) 46 #[.int .i64 0, .string ⟨#[]⟩] ∧ Below w.heap.size w wr
theorem FormSt.start (w : World) (s : Bs) : FormSt w s ((w.alloc (.cells (bcl s) 94)).alloc (.cells #[.int .i64 0, .string ⟨#[]⟩] 46)) :=
  ⟨(Blk.new w _ _).alloc _, by simpa using Blk.new (w.alloc (.cells (bcl s) 94)) 46 #[.int .i64 0, .string ⟨#[]⟩], ((Below.refl _ w).alloc (Nat.le_refl _) _).alloc (by simp) _⟩
theorem FormSt.under {w wr w2 : World} {s : Bs} (h : FormSt w s wr) {n : Nat} (hn : w.heap.size + 2 ≤ n) (hb : Below n wr w2) : FormSt w s w2 :=
  ⟨h.1.below hb (by omega), h.2.1.below hb (by omega), h.2.2.trans (hb.mono (by omega))⟩
theorem FormSt.size {w wr : World} {s : Bs} (h : FormSt w s wr) : w.heap.size + 2 ≤ wr.heap.size := by have := h.2.1.lt; omega
theorem FormSt.done {w wr : World} {s : Bs} {f : Int} {v : ByteArray} (h : FormSt w s wr) : Below w.heap.size w ((wr.setCell ⟨w.heap.size + 1, 0, none⟩ (.int .i64 f)).setCell ⟨w.heap.size + 1, 1, none⟩ (.string v)) :=
  (h.2.2.setCell (by simp) _).setCell (by simp) _

set_option maxRecDepth 100000 in
set_option maxHeartbeats 2000000 in
theorem form_arr (s : Bs) (w : World) :
    Calls Tryd.prog 62 #[.agg (bcl s), .int .i64 1] w fun e w' => e = .returned (contV 1 (arrTo s 256)) ∧ Below w.heap.size w w' := by
  obtain ⟨i0, hi, hz0, hz1, hz2⟩ := info_parts info_u8
  have HInf := Lib.hid hi; have HZ0 := Lib.hid hz0; have HZ1 := Lib.hid hz1; have HZ2 := Lib.hid hz2
  clear hi hz0 hz1 hz2
  have hsz := bcl_size s
  have HS0 := Lib.hid (FormSt.start w s)
  unfold contV
  go_enter Tryd.func62, Tryd.ntmps62
  go_wp2
  generalize ((w.alloc (.cells (bcl s) 94)).alloc (.cells #[.int .i64 0, .string ⟨#[]⟩] 46)) = w1 at *
  go_loopw [5, 6] (fun v i wr => ∃ k : Nat, k ≤ 256 ∧ i = .int .i64 k ∧ wr.ownsRow (w.heap.size + 2) 5 1 v (arrTo s k).length (byteVs (arrTo s k)) ∧ FormSt w s wr)
    (fun _ i _ => 256 - (intOf i).toNat)
  case atStart => exact ⟨0, Nat.zero_le _, rfl, World.ownsRow_nil w1 _ _ _, HS0.out⟩
  case round =>
    obtain ⟨k, hk, rfl, hown, hS⟩ := hrel
    have hl := arrTo_vals s k
    by_cases hlt : k < 256
    · have hlt' : (k : Int) < 256 := by omega
      have c0 := hS.1.cell k
      rw [bcl_get hlt] at c0
      have HSu := arrTo_succ s k
      have hS1 := hS.size
      have HS := Lib.hid hS
      clear hS
      by_cases hs : s k = true
      · have HT : Hid (byteVs (arrTo s (k + 1)) = byteVs (arrTo s k) ++ [Value.int .u8 (k : Nat)] ∧ (arrTo s (k + 1)).length = (arrTo s k).length + 1) := Lib.hid (by
          rw [HSu, if_pos hs, byteVs_append, List.length_append]
          refine ⟨?_, rfl⟩
          show _ ++ [Value.int .u8 ((UInt8.ofNat k).toNat : Int)] = _
          rw [ofNat_toNat k hlt])
        rw [hs] at c0
        clear HSu
        generalize byteVs (arrTo s k) = bv at *
        generalize (arrTo s k).length = n at *
        have e8 : (k : Int) % 256 = k := by omega
        go_wp2_with (at_builtin; refine wpList_append_own _ rfl _ _ 42 rfl (w.heap.size + 2) 5 i0 (.int .u8 0) 1 1 Tryd.underlying42 HInf.out HZ0.out HZ1.out HZ2.out rfl (by decide) _ _ _ rfl (hown.alloc _) ⟨wr.heap.size, 0, none⟩ 1 1 [.int .u8 k] rfl rfl (cell_one_new _ _ _) (by simp [Value.oneCell']) (by unfold maxLen; omega) (by omega) (by simp; omega) ?_; intro v2 w2 hown2 hgrow2 _)
        have hB2 : Below (w.heap.size + 2) wr w2 := ((Below.refl _ wr).alloc hS1 _).grown hgrow2 (by simp; omega) (fun j e => (hown.lt j e).1)
        rw [← HT.out.1, ← HT.out.2] at hown2
        go_roundw
        case rel => exact ⟨k + 1, by omega, by simp, hown2, HS.out.under (Nat.le_refl _) hB2⟩
        case measure => simp [intOf]; omega
      · rw [if_neg hs] at HSu
        rw [Bool.eq_false_iff.2 hs] at c0
        rw [← HSu] at hown
        clear HSu
        go_wp2
        go_roundw
        case rel => exact ⟨k + 1, by omega, by simp, hown, HS.out⟩
        case measure => simp [intOf]; omega
    · obtain rfl : k = 256 := by omega
      have hcv := conv_own hown rfl
      have c0 := hS.2.1.cell 0; have c1 := hS.2.1.cell 1
      have f0 := hS.2.1.frozen 0; have f1 := hS.2.1.frozen 1
      dsimp at c0 c1
      have HD := Lib.hid (hS.done (f := 1) (v := ⟨(arrTo s 256).toArray⟩))
      have hE := hS.2.1.set2 (.int .i64 1) (.string ⟨(arrTo s 256).toArray⟩)
      clear hown hS
      go_wp2
      exact ret_cont rfl rfl hE rfl ⟨rfl, HD.out⟩

set_option maxRecDepth 100000 in
set_option maxHeartbeats 4000000 in
theorem form_bits (s : Bs) (w : World) :
    Calls Tryd.prog 62 #[.agg (bcl s), .int .i64 2] w fun e w' => e = .returned (contV 2 (bitsTo s 256)) ∧ Below w.heap.size w w' := by
  obtain ⟨i0, hi, hz0, hz1, hz2⟩ := info_parts info_u8
  have hmk : ∀ W : World, (Instr.makeSlice 42 (.int .i64 32) (.int .i64 32)).run Tryd.prog W = .ok (.slice (some ⟨W.heap.size, 0, none⟩) 32 32) (W.alloc (.cells (madeCells #[.int .u8 0] 32) 5)) := fun W => by
    have h := run_make (P := Tryd.prog) W 42 5 i0 (.int .u8 0) Tryd.underlying42 hi hz0 .i64 .i64 32 32 (by omega) (by omega) (by rw [hz2]; omega) (by omega)
    rw [hz1] at h
    rw [h]
    simp [Value.cells]
  clear hi hz0 hz1 hz2
  have hsz := bcl_size s
  have HS0 := Lib.hid (FormSt.start w s)
  have HO0 : Hid (∀ W : World, w.heap.size + 2 ≤ W.heap.size → (W.alloc (.cells (madeCells #[.int .u8 0] 32) 5)).ownsRow (w.heap.size + 2) 5 1 (.slice (some ⟨W.heap.size, 0, none⟩) 32 32) 32 (bitVs s 0)) := Lib.hid (fun W hW => by
    have := World.ownsRow_lit (base := w.heap.size + 2) (e := 5) (size := 1) W (madeCells #[.int .u8 0] 32) 32 hW (by decide) (by simp [madeCells])
    rwa [toList_madeCells_one, ← bitVs_zero s] at this)
  have hsz0 : ((w.alloc (.cells (bcl s) 94)).alloc (.cells #[.int .i64 0, .string ⟨#[]⟩] 46)).heap.size = w.heap.size + 2 := by simp
  have HOw := Lib.hid (HO0.out _ (Nat.le_of_eq hsz0.symm))
  rw [hsz0] at HOw
  have HS1 := Lib.hid (HS0.out.under (Nat.le_refl _) ((Below.refl (w.heap.size + 2) _).alloc (Nat.le_of_eq hsz0.symm) (.cells (madeCells #[.int .u8 0] 32) 5)))
  clear HO0 HS0 hsz0
  unfold contV
  go_enter Tryd.func62, Tryd.ntmps62
  go_wp2
  generalize (((w.alloc (.cells (bcl s) 94)).alloc (.cells #[.int .i64 0, .string ⟨#[]⟩] 46)).alloc (.cells (madeCells #[.int .u8 0] 32) 5)) = w1 at *
  go_loopw [7] (fun i wr => ∃ k : Nat, k ≤ 256 ∧ i = .int .i64 k ∧ wr.ownsRow (w.heap.size + 2) 5 1 (.slice (some ⟨w.heap.size + 2, 0, none⟩) 32 32) 32 (bitVs s k) ∧ FormSt w s wr)
    (fun i _ => 256 - (intOf i).toNat)
  case atStart => exact ⟨0, Nat.zero_le _, rfl, HOw.out, HS1.out⟩
  case round =>
    obtain ⟨k, hk, rfl, hown, hS⟩ := hrel
    by_cases hlt : k < 256
    · have hlt' : (k : Int) < 256 := by omega
      have c0 := hS.1.cell k
      rw [bcl_get hlt] at c0
      have HS := Lib.hid hS
      clear hS
      by_cases hs : s k = true
      · rw [hs] at c0
        have hq : k / 8 < 32 := by omega
        have hr : k % 8 < 8 := by omega
        have b0 := hown.cellAt (k / 8) (by omega)
        rw [bitVs_get hq] at b0
        have f0 := hown.frozenAt (k / 8)
        obtain ⟨hst, hgr⟩ := hown.stored (k / 8) (.int .u8 (byteS s k (k / 8) + 2 ^ (k % 8) : Nat))
        rw [bitVs_set s k hlt hs] at hst
        have HST := Lib.hid hst
        have HGR : Hid (Below (w.heap.size + 2) wr (wr.setCell ⟨w.heap.size + 2, k / 8, none⟩ (.int .u8 (byteS s k (k / 8) + 2 ^ (k % 8) : Nat)))) := Lib.hid ((Below.refl (w.heap.size + 2) wr).setCell (p := ⟨w.heap.size + 2, k / 8, none⟩) (Nat.le_refl _) _)
        have hbl : byteS s k (k / 8) + 2 ^ (k % 8) < 256 := by rw [← byteS_up s k hs]; exact byteS_lt _ _ _
        have e8 : (k : Int).tmod 8 = ((k % 8 : Nat) : Int) := by rw [Int.tmod_eq_emod_of_nonneg (by omega)]; rfl
        have e9 : (k : Int).tdiv 8 = ((k / 8 : Nat) : Int) := by rw [Int.tdiv_eq_ediv_of_nonneg (by omega)]; rfl
        clear hst hgr hown
        generalize byteS s k (k / 8) = b at *
        generalize k / 8 = q at *
        generalize k % 8 = r at *
        have hp : 2 ^ r < 256 := Nat.lt_of_lt_of_le (Nat.pow_lt_pow_right (by decide) hr) (by decide)
        have h2 : (2 : Int) ^ r % 256 = ((2 ^ r : Nat) : Int) := by rw [Int.natCast_pow]; exact Int.emod_eq_of_lt (Int.le_of_lt (Int.pow_pos (by decide))) (by exact_mod_cast hp)
        generalize 2 ^ r = p2 at *
        have hsum : ((b : Int) + p2) % 256 = ((b + p2 : Nat) : Int) := by omega
        go_wp2
        go_region
        all_goals
          rw [Int.natCast_add] at HST HGR
          go_wp2
          go_roundw
          case rel => exact ⟨k + 1, by omega, by simp, HST.out, HS.out.under (Nat.le_refl _) HGR.out.drew⟩
          case measure => simp [intOf]; omega
      · rw [Bool.eq_false_iff.2 hs] at c0
        rw [← bitVs_skip s k (Bool.eq_false_iff.2 hs)] at hown
        go_wp2
        go_roundw
        case rel => exact ⟨k + 1, by omega, by simp, hown, HS.out⟩
        case measure => simp [intOf]; omega
    · obtain rfl : k = 256 := by omega
      rw [bitVs_bytes] at hown
      have hcv := conv_own hown (bitsTo_length s 256)
      have c0 := hS.2.1.cell 0; have c1 := hS.2.1.cell 1
      have f0 := hS.2.1.frozen 0; have f1 := hS.2.1.frozen 1
      dsimp at c0 c1
      have HD := Lib.hid (hS.done (f := 2) (v := ⟨(bitsTo s 256).toArray⟩))
      have hE := hS.2.1.set2 (.int .i64 2) (.string ⟨(bitsTo s 256).toArray⟩)
      clear hown hS
      go_wp2
      exact ret_cont rfl rfl hE rfl ⟨rfl, HD.out⟩

set_option maxRecDepth 100000 in
set_option maxHeartbeats 4000000 in
theorem form_runs (s : Bs) (w : World) :
    Calls Tryd.prog 62 #[.agg (bcl s), .int .i64 3] w fun e w' => e = .returned (contV 3 (flat (runTo s 256))) ∧ Below w.heap.size w w' := by
  obtain ⟨i0, hi, hz0, hz1, hz2⟩ := info_parts info_u8
  have HInf := Lib.hid hi; have HZ0 := Lib.hid hz0; have HZ1 := Lib.hid hz1; have HZ2 := Lib.hid hz2
  clear hi hz0 hz1 hz2
  have hsz := bcl_size s
  have HS0 := Lib.hid (FormSt.start w s)
  unfold contV
  go_enter Tryd.func62, Tryd.ntmps62
  go_wp2
  generalize ((w.alloc (.cells (bcl s) 94)).alloc (.cells #[.int .i64 0, .string ⟨#[]⟩] 46)) = w1 at *
  go_loopw [5, 8] (fun v i wr => ∃ k : Nat, k ≤ 256 ∧ i = .int .i64 k ∧ wr.ownsRow (w.heap.size + 2) 5 1 v (flat (runTo s k)).length (byteVs (flat (runTo s k))) ∧ FormSt w s wr)
    (fun _ i _ => 256 - (intOf i).toNat)
  case atStart => exact ⟨0, Nat.zero_le _, rfl, World.ownsRow_nil w1 _ _ _, HS0.out⟩
  case round =>
    obtain ⟨k, hk, rfl, hown, hS⟩ := hrel
    have hl := flat_le s k
    by_cases hlt : k < 256
    · have hlt' : (k : Int) < 256 := by omega
      have c0 := hS.1.cell k
      rw [bcl_get hlt] at c0
      have hS1 := hS.size
      by_cases hs : s k = true
      · rw [hs] at c0
        have e8 : (k : Int) % 256 = k := by omega
        by_cases hj : 0 < k ∧ s (k - 1) = true
        · obtain ⟨fr, m, hm, e1, e2⟩ := runs_join hlt hs hj.1 hj.2
          have hk0 : (0 : Int) < k := by omega
          have d0 := hS.1.cell (k - 1)
          rw [bcl_get (by omega), hj.2] at d0
          have HS := Lib.hid hS
          rw [e1] at hown hl
          have HE2 := Lib.hid e2
          have hfl : (fr ++ [UInt8.ofNat m]).length = fr.length + 1 := by simp
          have hfl2 : (fr ++ [UInt8.ofNat (m + 1)]).length = fr.length + 1 := by simp
          rw [hfl] at hown hl
          obtain ⟨g, cap, rfl⟩ := ownsRow_succ hown
          have b0 := hown.cellAt fr.length (by omega)
          rw [byteVs_append, List.getElem?_append_right (by rw [byteVs_length]; exact Nat.le_refl _), byteVs_length, Nat.sub_self] at b0
          have b1 : wr.cell? ⟨g, fr.length, none⟩ = some (.int .u8 (m : Int)) := by
            rw [b0]
            show some (Value.int .u8 ((UInt8.ofNat m).toNat : Int)) = _
            rw [ofNat_toNat m (by omega)]
          have f0 := hown.frozenAt fr.length
          obtain ⟨hst, hgr⟩ := hown.stored fr.length (.int .u8 ((m + 1 : Nat) : Int))
          have hlt2 := hown.lt g rfl
          have HST : Hid ((wr.setCell ⟨g, fr.length, none⟩ (.int .u8 ((m + 1 : Nat) : Int))).ownsRow (w.heap.size + 2) 5 1 (.slice (some ⟨g, 0, none⟩) (fr.length + 1) cap) (flat (runTo s (k + 1))).length (byteVs (flat (runTo s (k + 1))))) := Lib.hid (by
            rw [e2, hfl2, ← byteVs_set fr (UInt8.ofNat m) (UInt8.ofNat (m + 1)), ofNat_toNat (m + 1) (by omega)]
            exact hst)
          have HGR : Hid (Below (w.heap.size + 2) wr (wr.setCell ⟨g, fr.length, none⟩ (.int .u8 ((m + 1 : Nat) : Int)))) := Lib.hid ((Below.refl (w.heap.size + 2) wr).setCell (p := ⟨g, fr.length, none⟩) hlt2.1 _)
          have hm1 : ((m : Int) + 1) % 256 = ((m + 1 : Nat) : Int) := by omega
          clear hst hgr hown hS b0 e1 e2 hfl hfl2
          generalize fr.length = n at *
          rw [Int.natCast_add] at HST HGR
          go_wp2
          refine ⟨⟨k + 1, by omega, by simp, HST.out, HS.out.under (Nat.le_refl _) HGR.out⟩, by simp [intOf]; omega⟩
        · have hp : k = 0 ∨ s (k - 1) = false := by
            rcases Nat.eq_zero_or_pos k with h | h
            · exact .inl h
            · exact .inr (Bool.eq_false_iff.2 fun e => hj ⟨h, e⟩)
          have HN := runs_new hs hp
          have HT : Hid (byteVs (flat (runTo s (k + 1))) = byteVs (flat (runTo s k)) ++ [Value.int .u8 (k : Nat), Value.int .u8 0] ∧ (flat (runTo s (k + 1))).length = (flat (runTo s k)).length + 2) := Lib.hid (by
            rw [HN, byteVs_append, List.length_append]
            refine ⟨?_, rfl⟩
            show _ ++ [Value.int .u8 ((UInt8.ofNat k).toNat : Int), Value.int .u8 0] = _
            rw [ofNat_toNat k hlt])
          have HS := Lib.hid hS
          have d0 : 0 < k → wr.cell? ⟨w.heap.size, k - 1, none⟩ = some (.bool false) := fun h => by
            rw [hS.1.cell (k - 1), bcl_get (by omega)]
            rcases hp with h0 | h0
            · omega
            · rw [h0]
          clear hS HN
          generalize byteVs (flat (runTo s k)) = bv at *
          generalize (flat (runTo s k)).length = n at *
          rcases Nat.eq_zero_or_pos k with h0 | h0
          · have hk0 : ¬ (0 : Int) < k := by omega
            clear hp d0 hj h0
            go_wp2_with (at_builtin; refine wpList_append_own _ rfl _ _ 42 rfl (w.heap.size + 2) 5 i0 (.int .u8 0) 1 1 Tryd.underlying42 HInf.out HZ0.out HZ1.out HZ2.out rfl (by decide) _ _ _ rfl (hown.alloc _) ⟨wr.heap.size, 0, none⟩ 2 2 [.int .u8 k, .int .u8 0] rfl rfl (cell_two_new _ _ _ _) (by simp [Value.oneCell']) (by unfold maxLen; omega) (by omega) (by simp; omega) ?_; intro v2 w2 hown2 hgrow2 _)
            have hB2 : Below (w.heap.size + 2) wr w2 := ((Below.refl _ wr).alloc hS1 _).grown hgrow2 (by simp; omega) (fun j e => (hown.lt j e).1)
            rw [← HT.out.1, ← HT.out.2] at hown2
            refine ⟨⟨k + 1, by omega, by simp, hown2, HS.out.under (Nat.le_refl _) hB2⟩, by simp [intOf]; omega⟩
          · have hk0 : (0 : Int) < k := by omega
            have d1 := d0 h0
            clear hp d0 hj
            go_wp2_with (at_builtin; refine wpList_append_own _ rfl _ _ 42 rfl (w.heap.size + 2) 5 i0 (.int .u8 0) 1 1 Tryd.underlying42 HInf.out HZ0.out HZ1.out HZ2.out rfl (by decide) _ _ _ rfl (hown.alloc _) ⟨wr.heap.size, 0, none⟩ 2 2 [.int .u8 k, .int .u8 0] rfl rfl (cell_two_new _ _ _ _) (by simp [Value.oneCell']) (by unfold maxLen; omega) (by omega) (by simp; omega) ?_; intro v2 w2 hown2 hgrow2 _)
            have hB2 : Below (w.heap.size + 2) wr w2 := ((Below.refl _ wr).alloc hS1 _).grown hgrow2 (by simp; omega) (fun j e => (hown.lt j e).1)
            rw [← HT.out.1, ← HT.out.2] at hown2
            refine ⟨⟨k + 1, by omega, by simp, hown2, HS.out.under (Nat.le_refl _) hB2⟩, by simp [intOf]; omega⟩
      · rw [Bool.eq_false_iff.2 hs] at c0
        have HS := Lib.hid hS
        clear hS
        rw [← runs_skip (Bool.eq_false_iff.2 hs)] at hown
        go_wp2
        go_roundw
        case rel => exact ⟨k + 1, by omega, by simp, hown, HS.out⟩
        case measure => simp [intOf]; omega
    · obtain rfl : k = 256 := by omega
      have hcv := conv_own hown rfl
      have c0 := hS.2.1.cell 0; have c1 := hS.2.1.cell 1
      have f0 := hS.2.1.frozen 0; have f1 := hS.2.1.frozen 1
      dsimp at c0 c1
      have HD := Lib.hid (hS.done (f := 3) (v := ⟨(flat (runTo s 256)).toArray⟩))
      have hE := hS.2.1.set2 (.int .i64 3) (.string ⟨(flat (runTo s 256)).toArray⟩)
      clear hown hS
      go_wp2
      exact ret_cont rfl rfl hE rfl ⟨rfl, HD.out⟩
end Go.Proofs.YtbfchlfagdhglaaDoor
/- The document's answer: numbers in their best form. -/
namespace Go.Proofs.YtbfchlfagdhglaaDoor
open Go.RowKit

theorem wpList_ld_b {ops : Array Oper} {rest : List Oper} {op : Oper} {a : Act} {w : World} {Q : Exit → Act → World → Prop} (hgd : op.guard = none) (x : Operand) (ho : op.op = .load 94 x) (g : Nat) (hx : a.eval x = .pointer (some ⟨g, 0, none⟩)) (s : Bs)
    (hb : Blk w g 94 (bcl s)) (h : wpList Tryd.prog ops Q rest (a.put op.dst (.agg (bcl s))) w) : wpList Tryd.prog ops Q (op :: rest) a w :=
  wpList_plain hgd fun _ hK => wp_load_set x ho g hx s hb (hK _ _ h)
theorem setRow_top (w : World) (t : TypeId) (a b : Array Value) : (w.alloc (.cells a t)).setRow w.heap.size b = w.alloc (.cells b t) := setRow_new w t a b
theorem st_newb (w : World) (t : Bs) : (storeCells ⟨w.heap.size, 0, none⟩ (bcl t).toList).run Tryd.prog (w.alloc (.cells (bcl fun _ => false) 94)) = .ok () (w.alloc (.cells (bcl t) 94)) := by
  rw [store_cells (Blk.new w 94 (bcl fun _ => false)) t, setRow_top]

theorem form_any (s : Bs) (f : Int) (h1 : 1 ≤ f) (h3 : f ≤ 3) (w : World) :
    Calls Tryd.prog 62 #[.agg (bcl s), .int .i64 f] w fun e w' => e = .returned (.agg #[.int .i64 f, .string ⟨(formS s f.toNat).toArray⟩]) ∧ Below w.heap.size w w' := by
  have h : f = 1 ∨ f = 2 ∨ f = 3 := by omega
  rcases h with rfl | rfl | rfl
  · exact form_arr s w
  · exact form_bits s w
  · exact form_runs s w

set_option maxRecDepth 100000 in
set_option maxHeartbeats 2000000 in
theorem ref_best_any (s : Bs) (w : World) :
    Calls Tryd.prog 56 #[.agg (bcl s)] w fun e w' => e = .returned (.agg #[.int .i64 (bestF s : Nat), .string ⟨(bestD s).toArray⟩]) ∧ Below w.heap.size w w' := by
  have HF1 := Lib.hid (fun W => form_any s 1 (by decide) (by decide) W)
  have HF2 := Lib.hid (fun W => form_any s 2 (by decide) (by decide) W)
  have HF3 := Lib.hid (fun W => form_any s 3 (by decide) (by decide) W)
  rw [show (1 : Int).toNat = 1 from rfl] at HF1
  rw [show (2 : Int).toNat = 2 from rfl] at HF2
  rw [show (3 : Int).toNat = 3 from rfl] at HF3
  have HE1 : Hid ((formS s 1).length ≤ (formS s 3).length → (formS s 1).length ≤ 32 → ((bestF s : Nat) : Int) = 1 ∧ bestD s = formS s 1) := Lib.hid (fun h k => by
    have : bestF s = 1 := by unfold bestF; rw [if_pos ⟨h, k⟩]
    unfold bestD; rw [this]; exact ⟨rfl, rfl⟩)
  have HE3 : Hid (¬ ((formS s 1).length ≤ (formS s 3).length ∧ (formS s 1).length ≤ 32) → (formS s 3).length ≤ 32 → ((bestF s : Nat) : Int) = 3 ∧ bestD s = formS s 3) := Lib.hid (fun h k => by
    have : bestF s = 3 := by unfold bestF; rw [if_neg h, if_pos k]
    unfold bestD; rw [this]; exact ⟨rfl, rfl⟩)
  have HE2 : Hid (¬ ((formS s 1).length ≤ (formS s 3).length ∧ (formS s 1).length ≤ 32) → ¬ (formS s 3).length ≤ 32 → ((bestF s : Nat) : Int) = 2 ∧ bestD s = formS s 2) := Lib.hid (fun h k => by
    have : bestF s = 2 := by unfold bestF; rw [if_neg h, if_neg k]
    unfold bestD; rw [this]; exact ⟨rfl, rfl⟩)
  have hl1 := form_length s 1
  have hl3 := form_length s 3
  generalize formS s 1 = da at *
  generalize formS s 2 = db at *
  generalize formS s 3 = dr at *
  generalize ((bestF s : Nat) : Int) = q at *
  generalize bestD s = dq at *
  have hS0 := FormSt.start w s
  go_enter Tryd.func56, Tryd.ntmps56
  go_wp2_with (refine wpList_ld_b rfl _ rfl _ rfl s ?_ ?_; exact hS0.1)
  generalize ((w.alloc (.cells (bcl s) 94)).alloc (.cells #[.int .i64 0, .string ⟨#[]⟩] 46)) = w0 at *
  refine (HF1.out _).mono ?_
  rintro e w1 ⟨rfl, hb1⟩
  have hS1 := (hS0.under hS0.size hb1).under (by have := hS0.size; have := hb1.size; omega) ((Below.refl w1.heap.size w1).alloc (Nat.le_refl _) (.cells #[.int .i64 1, .string ⟨da.toArray⟩] 46))
  have a1 := Blk.new w1 46 #[.int .i64 1, .string ⟨da.toArray⟩]
  have hz1 : w.heap.size + 2 ≤ w1.heap.size := by have := hS0.size; have := hb1.size; omega
  clear hS0 hb1
  go_wp2_with (refine wpList_ld_b rfl _ rfl _ rfl s ?_ ?_; exact hS1.1)
  generalize hW1 : w1.alloc (.cells #[.int .i64 1, .string ⟨da.toArray⟩] 46) = v1 at *
  have hz1' : w.heap.size + 2 ≤ v1.heap.size := by rw [← hW1]; simp; omega
  generalize w1.heap.size = g1 at *
  clear hW1
  refine (HF2.out _).mono ?_
  rintro e w2 ⟨rfl, hb2⟩
  have hc2 := hb2.alloc hb2.size (.cells #[.int .i64 2, .string ⟨db.toArray⟩] 46)
  have hS2 := hS1.under hz1' hc2
  have a2 := a1.under hc2
  have b2 := Blk.new w2 46 #[.int .i64 2, .string ⟨db.toArray⟩]
  have hz2 : w.heap.size + 2 ≤ w2.heap.size := Nat.le_trans hz1' hb2.size
  clear hS1 a1 hb2 hc2
  go_wp2_with (refine wpList_ld_b rfl _ rfl _ rfl s ?_ ?_; exact hS2.1)
  generalize hW2 : w2.alloc (.cells #[.int .i64 2, .string ⟨db.toArray⟩] 46) = v2 at *
  have hz2' : w.heap.size + 2 ≤ v2.heap.size := by rw [← hW2]; simp; omega
  generalize w2.heap.size = g2 at *
  clear hW2
  refine (HF3.out _).mono ?_
  rintro e w3 ⟨rfl, hb3⟩
  have hc3 := hb3.alloc hb3.size (.cells #[.int .i64 3, .string ⟨dr.toArray⟩] 46)
  have hS3 := hS2.under hz2' hc3
  have a3 := a2.under hc3
  have b3 := b2.under hc3
  have r3 := Blk.new w3 46 #[.int .i64 3, .string ⟨dr.toArray⟩]
  clear hS2 a2 b2 hb3 hc3
  have a0 := a3.cell 0; have a1 := a3.cell 1
  have b0 := b3.cell 0; have b1 := b3.cell 1
  have r0 := r3.cell 0; have r1 := r3.cell 1
  have f0 := hS3.2.1.frozen 0; have f1 := hS3.2.1.frozen 1
  have c0 := hS3.2.1.cell 0; have c1 := hS3.2.1.cell 1
  dsimp at a0 a1 b0 b1 r0 r1 c0 c1
  have HS := Lib.hid hS3
  clear hS3 a3 b3 r3
  by_cases h1 : da.length ≤ dr.length
  · have h1' : (da.length : Int) ≤ dr.length := by omega
    by_cases h2 : da.length ≤ 32
    · have h2' : (da.length : Int) ≤ 32 := by omega
      obtain ⟨rfl, rfl⟩ := HE1.out h1 h2
      have hE := HS.out.2.1.set2 (.int .i64 1) (.string ⟨dq.toArray⟩)
      have hD := HS.out.done (f := 1) (v := ⟨dq.toArray⟩)
      go_wp2
      exact ret_cont rfl rfl hE rfl ⟨rfl, hD⟩
    · have h2' : ¬ (da.length : Int) ≤ 32 := by omega
      have hno : ¬ (da.length ≤ dr.length ∧ da.length ≤ 32) := fun h => h2 h.2
      have h4 : ¬ (dr.length : Int) ≤ 32 := by omega
      obtain ⟨rfl, rfl⟩ := HE2.out hno (by omega)
      have hE := HS.out.2.1.set2 (.int .i64 2) (.string ⟨dq.toArray⟩)
      have hD := HS.out.done (f := 2) (v := ⟨dq.toArray⟩)
      clear hno
      go_wp2
      exact ret_cont rfl rfl hE rfl ⟨rfl, hD⟩
  · have h1' : ¬ (da.length : Int) ≤ dr.length := by omega
    have hno : ¬ (da.length ≤ dr.length ∧ da.length ≤ 32) := fun h => h1 h.1
    by_cases h2 : dr.length ≤ 32
    · have h2' : (dr.length : Int) ≤ 32 := by omega
      obtain ⟨rfl, rfl⟩ := HE3.out hno h2
      have hE := HS.out.2.1.set2 (.int .i64 3) (.string ⟨dq.toArray⟩)
      have hD := HS.out.done (f := 3) (v := ⟨dq.toArray⟩)
      clear hno
      go_wp2
      exact ret_cont rfl rfl hE rfl ⟨rfl, hD⟩
    · have h2' : ¬ (dr.length : Int) ≤ 32 := by omega
      obtain ⟨rfl, rfl⟩ := HE2.out hno h2
      have hE := HS.out.2.1.set2 (.int .i64 2) (.string ⟨dq.toArray⟩)
      have hD := HS.out.done (f := 2) (v := ⟨dq.toArray⟩)
      clear hno
      go_wp2
      exact ret_cont rfl rfl hE rfl ⟨rfl, hD⟩
end Go.Proofs.YtbfchlfagdhglaaDoor
/- The document's answer: Make. -/
namespace Go.Proofs.YtbfchlfagdhglaaDoor
open Go.RowKit

/-- The state of Make's walk. -/
def MkSt (w : World) (s : Bs) (W : World) : Prop := Blk W w.heap.size 46 #[.int .i64 0, .string ⟨#[]⟩] ∧ Blk W (w.heap.size + 1) 94 (bcl s) ∧ Below w.heap.size w W
theorem MkSt.start (w : World) : MkSt w (fun _ => false) ((w.alloc (.cells #[.int .i64 0, .string ⟨#[]⟩] 46)).alloc (.cells (bcl fun _ => false) 94)) :=
  ⟨(Blk.new w _ _).alloc _, by simpa using Blk.new (w.alloc (.cells #[.int .i64 0, .string ⟨#[]⟩] 46)) 94 (bcl fun _ => false), ((Below.refl _ w).alloc (Nat.le_refl _) _).alloc (by simp) _⟩
theorem MkSt.put {w wr : World} {s t : Bs} (h : MkSt w s wr) (n : Nat) (b : Bool) (e : bcl (put1 s n b) = bcl t) : MkSt w t (wr.setCell ⟨w.heap.size + 1, n, none⟩ (.bool b)) := by
  refine ⟨h.1.far (by simp) _, ?_, h.2.2.setCell (by simp) _⟩
  have := h.2.1.set_ n (.bool b)
  rwa [bcl_set, e] at this
theorem MkSt.done {w wr : World} {s : Bs} (h : MkSt w s wr) (a b : Value) : Below w.heap.size w ((wr.setCell ⟨w.heap.size, 0, none⟩ a).setCell ⟨w.heap.size, 1, none⟩ b) :=
  (h.2.2.setCell (by simp) _).setCell (by simp) _
theorem good_all {zs : List Int} (h : ∀ j, j < zs.length → goodZ (zs[j]?.getD 0) = true) : AllGood zs := by
  intro z hz
  obtain ⟨j, hj, rfl⟩ := List.mem_iff_getElem.1 hz
  have := h j hj
  rwa [List.getElem?_eq_getElem hj] at this
theorem not_good {zs : List Int} {k : Nat} (hk : k < zs.length) (h : goodZ (zs[k]?.getD 0) = false) : ¬ AllGood zs := fun hg => by
  rw [List.getElem?_eq_getElem hk] at h
  have := hg _ (List.getElem_mem hk)
  rw [Option.getD_some, this] at h; cases h

set_option maxRecDepth 100000 in
set_option maxHeartbeats 2000000 in
theorem ref_make_any (x : Option Addr) (len cap : Nat) (zs : List Int) (hlen : zs.length = len) (hcm : len ≤ 9223372036854775807) (w : World) (hI : Ints w.heap.size w (.slice x len cap) zs) :
    Calls Tryd.prog 41 #[.slice x len cap] w fun e w' => e = .returned (makeV zs) ∧ Below w.heap.size w w' := by
  have hz := zero_b256
  have hsz := bcl_size fun _ => false
  have HS0 := Lib.hid (MkSt.start w)
  have HG := Lib.hid (@make_good zs)
  have HN := Lib.hid (@make_bad zs)
  have HI := Lib.hid hI
  clear hI
  go_enter Tryd.func41, Tryd.ntmps41
  go_wp2
  generalize ((w.alloc (.cells #[.int .i64 0, .string ⟨#[]⟩] 46)).alloc (.cells (bcl fun _ => false) 94)) = w1 at *
  go_loopw [5] (fun i wr => ∃ k : Nat, k ≤ len ∧ i = .int .i64 k ∧ (∀ j, j < k → goodZ (zs[j]?.getD 0) = true) ∧ MkSt w (ofL (zs.take k)) wr) (fun i _ => len - (intOf i).toNat)
  case atStart => exact ⟨0, Nat.zero_le _, rfl, fun j hj => by omega, HS0.out⟩
  case round =>
    obtain ⟨k, hk, rfl, hgd, hS⟩ := hrel
    by_cases hlt : k < len
    · have hlt' : (k : Int) < len := by omega
      obtain ⟨bb, o, rfl, hb1, hc1⟩ := HI.out.at_ hlt
      have hd1 : wr.cell? ⟨bb, o + k, none⟩ = some (.int .i64 (zs[k]?.getD 0)) := (hS.2.2.cell (p := ⟨bb, o + k, none⟩) hb1).trans hc1
      clear hc1 hb1
      by_cases hgz : goodZ (zs[k]?.getD 0) = true
      · obtain ⟨z, hz1, hz2⟩ : ∃ z : Nat, zs[k]?.getD 0 = z ∧ z < 256 := by
          unfold goodZ at hgz
          simp only [Bool.and_eq_true, decide_eq_true_eq] at hgz
          exact ⟨(zs[k]?.getD 0).toNat, by omega, by omega⟩
        have HP : Hid (MkSt w (ofL (zs.take (k + 1))) (wr.setCell ⟨w.heap.size + 1, z, none⟩ (.bool true))) := Lib.hid (hS.put z true (by
          have := ofL_take zs k (by omega) z hz1 (fun _ => false)
          rw [none_or, none_or] at this
          rw [this]))
        have HGD : Hid (∀ j, j < k + 1 → goodZ (zs[j]?.getD 0) = true) := Lib.hid (fun j hj => by
          by_cases e : j = k
          · subst e; exact hgz
          · exact hgd j (by omega))
        have c2 := hS.2.1.cell z
        rw [bcl_get hz2] at c2
        have c3 := hS.2.1.frozen z
        rw [hz1] at hd1
        clear hgz hz1 hgd hS
        go_wp2
        go_roundw
        case rel => exact ⟨k + 1, by omega, by simp, HGD.out, HP.out⟩
        case measure => simp [intOf]; omega
      · have hV := HN.out (not_good (by omega) (Bool.eq_false_iff.2 hgz))
        have hb : zs[k]?.getD 0 < 0 ∨ (¬ zs[k]?.getD 0 < 0 ∧ zs[k]?.getD 0 > 255) := by
          unfold goodZ at hgz
          simp only [Bool.and_eq_true, decide_eq_true_eq] at hgz
          omega
        generalize zs[k]?.getD 0 = z at *
        have c0 := hS.1.cell 0; have c1 := hS.1.cell 1
        have f0 := hS.1.frozen 0; have f1 := hS.1.frozen 1
        dsimp at c0 c1
        have hE := hS.1.set2 (.int .i64 0) (.string ⟨#[]⟩)
        have hD := hS.done (.int .i64 0) (.string ⟨#[]⟩)
        clear hgd hS hgz
        rcases hb with h1 | ⟨h1, h2⟩
        all_goals
          go_wp2
          exact ret_cont2 rfl rfl hE rfl ⟨by first | rfl | (rw [hV]; rfl), hD⟩
    · obtain rfl : k = len := by omega
      have hge : ¬ (k : Int) < k := by omega
      have hV := HG.out (good_all fun j hj => hgd j (by omega))
      rw [List.take_of_length_le (by omega)] at hS
      have HB := Lib.hid (fun W => ref_best_any (ofL zs) W)
      generalize ((bestF (ofL zs) : Nat) : Int) = q at *
      generalize bestD (ofL zs) = dq at *
      clear hgd
      go_wp2_with (refine wpList_ld_b rfl _ rfl _ rfl (ofL zs) ?_ ?_; exact hS.2.1)
      refine (HB.out _).mono ?_
      rintro e w2 ⟨rfl, hb2⟩
      have hS2 : MkSt w (ofL zs) w2 := ⟨hS.1.under hb2, hS.2.1.under hb2, hS.2.2.trans (hb2.mono hS.2.2.size)⟩
      have c0 := hS2.1.cell 0; have c1 := hS2.1.cell 1
      have f0 := hS2.1.frozen 0; have f1 := hS2.1.frozen 1
      dsimp at c0 c1
      have hE := hS2.1.set2 (.int .i64 q) (.string ⟨dq.toArray⟩)
      have hD := hS2.done (.int .i64 q) (.string ⟨dq.toArray⟩)
      clear hS hS2 hb2
      go_wp2
      exact ret_cont2 rfl rfl hE rfl ⟨by first | rfl | (rw [hV]; rfl), hD⟩
end Go.Proofs.YtbfchlfagdhglaaDoor
