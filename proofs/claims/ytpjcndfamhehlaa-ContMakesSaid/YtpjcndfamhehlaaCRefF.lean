/- The document's answer: numbers in a form. -/
import Derived.Test.YtpjcndfamhehlaaCRefFM
import Derived.Test.YtpjcndfamhehlaaCEnd
import Derived.RangeFuncBox
namespace Go.Proofs.Ytpjcndfamhehlaa
open Go.RowKit

/-- The blocks of form's walk: the set's, the result's. -/
def FormSt (w : World) (s : Bs) (wr : World) : Prop := Blk wr w.heap.size 51 (bcl s) ∧ Blk wr (w.heap.size + 1) 23 #[.int .i64 0, .string ⟨#[]⟩] ∧ Below w.heap.size w wr
theorem FormSt.start (w : World) (s : Bs) : FormSt w s ((w.alloc (.cells (bcl s) 51)).alloc (.cells #[.int .i64 0, .string ⟨#[]⟩] 23)) :=
  ⟨(Blk.new w _ _).alloc _, by simpa using Blk.new (w.alloc (.cells (bcl s) 51)) 23 #[.int .i64 0, .string ⟨#[]⟩], ((Below.refl _ w).alloc (Nat.le_refl _) _).alloc (by simp) _⟩
theorem FormSt.under {w wr w2 : World} {s : Bs} (h : FormSt w s wr) {n : Nat} (hn : w.heap.size + 2 ≤ n) (hb : Below n wr w2) : FormSt w s w2 :=
  ⟨h.1.below hb (by omega), h.2.1.below hb (by omega), h.2.2.trans (hb.mono (by omega))⟩
theorem FormSt.size {w wr : World} {s : Bs} (h : FormSt w s wr) : w.heap.size + 2 ≤ wr.heap.size := by have := h.2.1.lt; omega
theorem FormSt.done {w wr : World} {s : Bs} {f : Int} {v : ByteArray} (h : FormSt w s wr) : Below w.heap.size w ((wr.setCell ⟨w.heap.size + 1, 0, none⟩ (.int .i64 f)).setCell ⟨w.heap.size + 1, 1, none⟩ (.string v)) :=
  (h.2.2.setCell (by simp) _).setCell (by simp) _

set_option maxRecDepth 100000 in
set_option maxHeartbeats 2000000 in
theorem form_arr (s : Bs) (w : World) :
    Calls Try.prog 38 #[.agg (bcl s), .int .i64 1] w fun e w' => e = .returned (contV 1 (arrTo s 256)) ∧ Below w.heap.size w w' := by
  obtain ⟨i0, hi, hz0, hz1, hz2⟩ := info_parts info_u8
  have HInf := Lib.hid hi; have HZ0 := Lib.hid hz0; have HZ1 := Lib.hid hz1; have HZ2 := Lib.hid hz2
  clear hi hz0 hz1 hz2
  have hsz := bcl_size s
  have HS0 := Lib.hid (FormSt.start w s)
  unfold contV
  go_enter Try.func38, Try.ntmps38
  go_wp2
  generalize ((w.alloc (.cells (bcl s) 51)).alloc (.cells #[.int .i64 0, .string ⟨#[]⟩] 23)) = w1 at *
  go_loopw [5, 6] (fun v i wr => ∃ k : Nat, k ≤ 256 ∧ i = .int .i64 k ∧ wr.ownsRow (w.heap.size + 2) 5 1 v (arrTo s k).length (byteVs (arrTo s k)) ∧ FormSt w s wr)
    (fun _ i _ => 256 - (intOf i).toNat)
  case atStart => exact ⟨0, Nat.zero_le _, rfl, World.ownsRow_nil w1 _ _ _, HS0.out⟩
  case round =>
    obtain ⟨k, hk, rfl, hown, hS⟩ := hrel
    have hl := arrTo_vals s k
    by_cases hlt : k < 256
    · have hlt' : (k : Int) < 256 := by omega
      have c0 := hS.1.cell k
      rw [bcl_get hlt] at c0
      have HSu := arrTo_succ s k
      have hS1 := hS.size
      have HS := Lib.hid hS
      clear hS
      by_cases hs : s k = true
      · have HT : Hid (byteVs (arrTo s (k + 1)) = byteVs (arrTo s k) ++ [Value.int .u8 (k : Nat)] ∧ (arrTo s (k + 1)).length = (arrTo s k).length + 1) := Lib.hid (by
          rw [HSu, if_pos hs, byteVs_append, List.length_append]
          refine ⟨?_, rfl⟩
          show _ ++ [Value.int .u8 ((UInt8.ofNat k).toNat : Int)] = _
          rw [ofNat_toNat k hlt])
        rw [hs] at c0
        clear HSu
        generalize byteVs (arrTo s k) = bv at *
        generalize (arrTo s k).length = n at *
        have e8 : (k : Int) % 256 = k := by omega
        go_wp2_with (at_builtin; refine wpList_append_own _ rfl _ _ 69 rfl (w.heap.size + 2) 5 i0 (.int .u8 0) 1 1 Try.underlying69 HInf.out HZ0.out HZ1.out HZ2.out rfl (by decide) _ _ _ rfl (hown.alloc _) ⟨wr.heap.size, 0, none⟩ 1 1 [.int .u8 k] rfl rfl (cell_one_new _ _ _) (by simp [Value.oneCell']) (by unfold maxLen; omega) (by omega) (by simp; omega) ?_; intro v2 w2 hown2 hgrow2 _)
        have hB2 : Below (w.heap.size + 2) wr w2 := ((Below.refl _ wr).alloc hS1 _).grown hgrow2 (by simp; omega) (fun j e => (hown.lt j e).1)
        rw [← HT.out.1, ← HT.out.2] at hown2
        go_roundw
        case rel => exact ⟨k + 1, by omega, by simp, hown2, HS.out.under (Nat.le_refl _) hB2⟩
        case measure => simp [intOf]; omega
      · rw [if_neg hs] at HSu
        rw [Bool.eq_false_iff.2 hs] at c0
        rw [← HSu] at hown
        clear HSu
        go_wp2
        go_roundw
        case rel => exact ⟨k + 1, by omega, by simp, hown, HS.out⟩
        case measure => simp [intOf]; omega
    · obtain rfl : k = 256 := by omega
      have hcv := conv_own hown rfl
      have c0 := hS.2.1.cell 0; have c1 := hS.2.1.cell 1
      have f0 := hS.2.1.frozen 0; have f1 := hS.2.1.frozen 1
      dsimp at c0 c1
      have HD := Lib.hid (hS.done (f := 1) (v := ⟨(arrTo s 256).toArray⟩))
      have hE := hS.2.1.set2 (.int .i64 1) (.string ⟨(arrTo s 256).toArray⟩)
      clear hown hS
      go_wp2
      exact ret_cont rfl rfl hE rfl ⟨rfl, HD.out⟩

set_option maxRecDepth 100000 in
set_option maxHeartbeats 4000000 in
theorem form_bits (s : Bs) (w : World) :
    Calls Try.prog 38 #[.agg (bcl s), .int .i64 2] w fun e w' => e = .returned (contV 2 (bitsTo s 256)) ∧ Below w.heap.size w w' := by
  obtain ⟨i0, hi, hz0, hz1, hz2⟩ := info_parts info_u8
  have hmk : ∀ W : World, (Instr.makeSlice 69 (.int .i64 32) (.int .i64 32)).run Try.prog W = .ok (.slice (some ⟨W.heap.size, 0, none⟩) 32 32) (W.alloc (.cells (madeCells #[.int .u8 0] 32) 5)) := fun W => by
    have h := run_make (P := Try.prog) W 69 5 i0 (.int .u8 0) Try.underlying69 hi hz0 .i64 .i64 32 32 (by omega) (by omega) (by rw [hz2]; omega) (by omega)
    rw [hz1] at h
    rw [h]
    simp [Value.cells]
  clear hi hz0 hz1 hz2
  have hsz := bcl_size s
  have HS0 := Lib.hid (FormSt.start w s)
  have HO0 : Hid (∀ W : World, w.heap.size + 2 ≤ W.heap.size → (W.alloc (.cells (madeCells #[.int .u8 0] 32) 5)).ownsRow (w.heap.size + 2) 5 1 (.slice (some ⟨W.heap.size, 0, none⟩) 32 32) 32 (bitVs s 0)) := Lib.hid (fun W hW => by
    have := World.ownsRow_lit (base := w.heap.size + 2) (e := 5) (size := 1) W (madeCells #[.int .u8 0] 32) 32 hW (by decide) (by simp [madeCells])
    rwa [toList_madeCells_one, ← bitVs_zero s] at this)
  have hsz0 : ((w.alloc (.cells (bcl s) 51)).alloc (.cells #[.int .i64 0, .string ⟨#[]⟩] 23)).heap.size = w.heap.size + 2 := by simp
  have HOw := Lib.hid (HO0.out _ (Nat.le_of_eq hsz0.symm))
  rw [hsz0] at HOw
  have HS1 := Lib.hid (HS0.out.under (Nat.le_refl _) ((Below.refl (w.heap.size + 2) _).alloc (Nat.le_of_eq hsz0.symm) (.cells (madeCells #[.int .u8 0] 32) 5)))
  clear HO0 HS0 hsz0
  unfold contV
  go_enter Try.func38, Try.ntmps38
  go_wp2
  generalize (((w.alloc (.cells (bcl s) 51)).alloc (.cells #[.int .i64 0, .string ⟨#[]⟩] 23)).alloc (.cells (madeCells #[.int .u8 0] 32) 5)) = w1 at *
  go_loopw [7] (fun i wr => ∃ k : Nat, k ≤ 256 ∧ i = .int .i64 k ∧ wr.ownsRow (w.heap.size + 2) 5 1 (.slice (some ⟨w.heap.size + 2, 0, none⟩) 32 32) 32 (bitVs s k) ∧ FormSt w s wr)
    (fun i _ => 256 - (intOf i).toNat)
  case atStart => exact ⟨0, Nat.zero_le _, rfl, HOw.out, HS1.out⟩
  case round =>
    obtain ⟨k, hk, rfl, hown, hS⟩ := hrel
    by_cases hlt : k < 256
    · have hlt' : (k : Int) < 256 := by omega
      have c0 := hS.1.cell k
      rw [bcl_get hlt] at c0
      have HS := Lib.hid hS
      clear hS
      by_cases hs : s k = true
      · rw [hs] at c0
        have hq : k / 8 < 32 := by omega
        have hr : k % 8 < 8 := by omega
        have b0 := hown.cellAt (k / 8) (by omega)
        rw [bitVs_get hq] at b0
        have f0 := hown.frozenAt (k / 8)
        obtain ⟨hst, hgr⟩ := hown.stored (k / 8) (.int .u8 (byteS s k (k / 8) + 2 ^ (k % 8) : Nat))
        rw [bitVs_set s k hlt hs] at hst
        have HST := Lib.hid hst
        have HGR : Hid (Below (w.heap.size + 2) wr (wr.setCell ⟨w.heap.size + 2, k / 8, none⟩ (.int .u8 (byteS s k (k / 8) + 2 ^ (k % 8) : Nat)))) := Lib.hid ((Below.refl (w.heap.size + 2) wr).setCell (p := ⟨w.heap.size + 2, k / 8, none⟩) (Nat.le_refl _) _)
        have hbl : byteS s k (k / 8) + 2 ^ (k % 8) < 256 := by rw [← byteS_up s k hs]; exact byteS_lt _ _ _
        have e8 : (k : Int).tmod 8 = ((k % 8 : Nat) : Int) := by rw [Int.tmod_eq_emod_of_nonneg (by omega)]; rfl
        have e9 : (k : Int).tdiv 8 = ((k / 8 : Nat) : Int) := by rw [Int.tdiv_eq_ediv_of_nonneg (by omega)]; rfl
        clear hst hgr hown
        generalize byteS s k (k / 8) = b at *
        generalize k / 8 = q at *
        generalize k % 8 = r at *
        have hp : 2 ^ r < 256 := Nat.lt_of_lt_of_le (Nat.pow_lt_pow_right (by decide) hr) (by decide)
        have h2 : (2 : Int) ^ r % 256 = ((2 ^ r : Nat) : Int) := by rw [Int.natCast_pow]; exact Int.emod_eq_of_lt (Int.le_of_lt (Int.pow_pos (by decide))) (by exact_mod_cast hp)
        generalize 2 ^ r = p2 at *
        have hsum : ((b : Int) + p2) % 256 = ((b + p2 : Nat) : Int) := by omega
        go_wp2
        go_region
        all_goals
          rw [Int.natCast_add] at HST HGR
          go_wp2
          go_roundw
          case rel => exact ⟨k + 1, by omega, by simp, HST.out, HS.out.under (Nat.le_refl _) HGR.out.drew⟩
          case measure => simp [intOf]; omega
      · rw [Bool.eq_false_iff.2 hs] at c0
        rw [← bitVs_skip s k (Bool.eq_false_iff.2 hs)] at hown
        go_wp2
        go_roundw
        case rel => exact ⟨k + 1, by omega, by simp, hown, HS.out⟩
        case measure => simp [intOf]; omega
    · obtain rfl : k = 256 := by omega
      rw [bitVs_bytes] at hown
      have hcv := conv_own hown (bitsTo_length s 256)
      have c0 := hS.2.1.cell 0; have c1 := hS.2.1.cell 1
      have f0 := hS.2.1.frozen 0; have f1 := hS.2.1.frozen 1
      dsimp at c0 c1
      have HD := Lib.hid (hS.done (f := 2) (v := ⟨(bitsTo s 256).toArray⟩))
      have hE := hS.2.1.set2 (.int .i64 2) (.string ⟨(bitsTo s 256).toArray⟩)
      clear hown hS
      go_wp2
      exact ret_cont rfl rfl hE rfl ⟨rfl, HD.out⟩

set_option maxRecDepth 100000 in
set_option maxHeartbeats 4000000 in
theorem form_runs (s : Bs) (w : World) :
    Calls Try.prog 38 #[.agg (bcl s), .int .i64 3] w fun e w' => e = .returned (contV 3 (flat (runTo s 256))) ∧ Below w.heap.size w w' := by
  obtain ⟨i0, hi, hz0, hz1, hz2⟩ := info_parts info_u8
  have HInf := Lib.hid hi; have HZ0 := Lib.hid hz0; have HZ1 := Lib.hid hz1; have HZ2 := Lib.hid hz2
  clear hi hz0 hz1 hz2
  have hsz := bcl_size s
  have HS0 := Lib.hid (FormSt.start w s)
  unfold contV
  go_enter Try.func38, Try.ntmps38
  go_wp2
  generalize ((w.alloc (.cells (bcl s) 51)).alloc (.cells #[.int .i64 0, .string ⟨#[]⟩] 23)) = w1 at *
  go_loopw [5, 8] (fun v i wr => ∃ k : Nat, k ≤ 256 ∧ i = .int .i64 k ∧ wr.ownsRow (w.heap.size + 2) 5 1 v (flat (runTo s k)).length (byteVs (flat (runTo s k))) ∧ FormSt w s wr)
    (fun _ i _ => 256 - (intOf i).toNat)
  case atStart => exact ⟨0, Nat.zero_le _, rfl, World.ownsRow_nil w1 _ _ _, HS0.out⟩
  case round =>
    obtain ⟨k, hk, rfl, hown, hS⟩ := hrel
    have hl := flat_le s k
    by_cases hlt : k < 256
    · have hlt' : (k : Int) < 256 := by omega
      have c0 := hS.1.cell k
      rw [bcl_get hlt] at c0
      have hS1 := hS.size
      by_cases hs : s k = true
      · rw [hs] at c0
        have e8 : (k : Int) % 256 = k := by omega
        by_cases hj : 0 < k ∧ s (k - 1) = true
        · obtain ⟨fr, m, hm, e1, e2⟩ := runs_join hlt hs hj.1 hj.2
          have hk0 : (0 : Int) < k := by omega
          have d0 := hS.1.cell (k - 1)
          rw [bcl_get (by omega), hj.2] at d0
          have HS := Lib.hid hS
          rw [e1] at hown hl
          have HE2 := Lib.hid e2
          have hfl : (fr ++ [UInt8.ofNat m]).length = fr.length + 1 := by simp
          have hfl2 : (fr ++ [UInt8.ofNat (m + 1)]).length = fr.length + 1 := by simp
          rw [hfl] at hown hl
          obtain ⟨g, cap, rfl⟩ := ownsRow_succ hown
          have b0 := hown.cellAt fr.length (by omega)
          rw [byteVs_append, List.getElem?_append_right (by rw [byteVs_length]; exact Nat.le_refl _), byteVs_length, Nat.sub_self] at b0
          have b1 : wr.cell? ⟨g, fr.length, none⟩ = some (.int .u8 (m : Int)) := by
            rw [b0]
            show some (Value.int .u8 ((UInt8.ofNat m).toNat : Int)) = _
            rw [ofNat_toNat m (by omega)]
          have f0 := hown.frozenAt fr.length
          obtain ⟨hst, hgr⟩ := hown.stored fr.length (.int .u8 ((m + 1 : Nat) : Int))
          have hlt2 := hown.lt g rfl
          have HST : Hid ((wr.setCell ⟨g, fr.length, none⟩ (.int .u8 ((m + 1 : Nat) : Int))).ownsRow (w.heap.size + 2) 5 1 (.slice (some ⟨g, 0, none⟩) (fr.length + 1) cap) (flat (runTo s (k + 1))).length (byteVs (flat (runTo s (k + 1))))) := Lib.hid (by
            rw [e2, hfl2, ← byteVs_set fr (UInt8.ofNat m) (UInt8.ofNat (m + 1)), ofNat_toNat (m + 1) (by omega)]
            exact hst)
          have HGR : Hid (Below (w.heap.size + 2) wr (wr.setCell ⟨g, fr.length, none⟩ (.int .u8 ((m + 1 : Nat) : Int)))) := Lib.hid ((Below.refl (w.heap.size + 2) wr).setCell (p := ⟨g, fr.length, none⟩) hlt2.1 _)
          have hm1 : ((m : Int) + 1) % 256 = ((m + 1 : Nat) : Int) := by omega
          clear hst hgr hown hS b0 e1 e2 hfl hfl2
          generalize fr.length = n at *
          rw [Int.natCast_add] at HST HGR
          go_wp2
          refine ⟨⟨k + 1, by omega, by simp, HST.out, HS.out.under (Nat.le_refl _) HGR.out⟩, by simp [intOf]; omega⟩
        · have hp : k = 0 ∨ s (k - 1) = false := by
            rcases Nat.eq_zero_or_pos k with h | h
            · exact .inl h
            · exact .inr (Bool.eq_false_iff.2 fun e => hj ⟨h, e⟩)
          have HN := runs_new hs hp
          have HT : Hid (byteVs (flat (runTo s (k + 1))) = byteVs (flat (runTo s k)) ++ [Value.int .u8 (k : Nat), Value.int .u8 0] ∧ (flat (runTo s (k + 1))).length = (flat (runTo s k)).length + 2) := Lib.hid (by
            rw [HN, byteVs_append, List.length_append]
            refine ⟨?_, rfl⟩
            show _ ++ [Value.int .u8 ((UInt8.ofNat k).toNat : Int), Value.int .u8 0] = _
            rw [ofNat_toNat k hlt])
          have HS := Lib.hid hS
          have d0 : 0 < k → wr.cell? ⟨w.heap.size, k - 1, none⟩ = some (.bool false) := fun h => by
            rw [hS.1.cell (k - 1), bcl_get (by omega)]
            rcases hp with h0 | h0
            · omega
            · rw [h0]
          clear hS HN
          generalize byteVs (flat (runTo s k)) = bv at *
          generalize (flat (runTo s k)).length = n at *
          rcases Nat.eq_zero_or_pos k with h0 | h0
          · have hk0 : ¬ (0 : Int) < k := by omega
            clear hp d0 hj h0
            go_wp2_with (at_builtin; refine wpList_append_own _ rfl _ _ 69 rfl (w.heap.size + 2) 5 i0 (.int .u8 0) 1 1 Try.underlying69 HInf.out HZ0.out HZ1.out HZ2.out rfl (by decide) _ _ _ rfl (hown.alloc _) ⟨wr.heap.size, 0, none⟩ 2 2 [.int .u8 k, .int .u8 0] rfl rfl (cell_two_new _ _ _ _) (by simp [Value.oneCell']) (by unfold maxLen; omega) (by omega) (by simp; omega) ?_; intro v2 w2 hown2 hgrow2 _)
            have hB2 : Below (w.heap.size + 2) wr w2 := ((Below.refl _ wr).alloc hS1 _).grown hgrow2 (by simp; omega) (fun j e => (hown.lt j e).1)
            rw [← HT.out.1, ← HT.out.2] at hown2
            refine ⟨⟨k + 1, by omega, by simp, hown2, HS.out.under (Nat.le_refl _) hB2⟩, by simp [intOf]; omega⟩
          · have hk0 : (0 : Int) < k := by omega
            have d1 := d0 h0
            clear hp d0 hj
            go_wp2_with (at_builtin; refine wpList_append_own _ rfl _ _ 69 rfl (w.heap.size + 2) 5 i0 (.int .u8 0) 1 1 Try.underlying69 HInf.out HZ0.out HZ1.out HZ2.out rfl (by decide) _ _ _ rfl (hown.alloc _) ⟨wr.heap.size, 0, none⟩ 2 2 [.int .u8 k, .int .u8 0] rfl rfl (cell_two_new _ _ _ _) (by simp [Value.oneCell']) (by unfold maxLen; omega) (by omega) (by simp; omega) ?_; intro v2 w2 hown2 hgrow2 _)
            have hB2 : Below (w.heap.size + 2) wr w2 := ((Below.refl _ wr).alloc hS1 _).grown hgrow2 (by simp; omega) (fun j e => (hown.lt j e).1)
            rw [← HT.out.1, ← HT.out.2] at hown2
            refine ⟨⟨k + 1, by omega, by simp, hown2, HS.out.under (Nat.le_refl _) hB2⟩, by simp [intOf]; omega⟩
      · rw [Bool.eq_false_iff.2 hs] at c0
        have HS := Lib.hid hS
        clear hS
        rw [← runs_skip (Bool.eq_false_iff.2 hs)] at hown
        go_wp2
        go_roundw
        case rel => exact ⟨k + 1, by omega, by simp, hown, HS.out⟩
        case measure => simp [intOf]; omega
    · obtain rfl : k = 256 := by omega
      have hcv := conv_own hown rfl
      have c0 := hS.2.1.cell 0; have c1 := hS.2.1.cell 1
      have f0 := hS.2.1.frozen 0; have f1 := hS.2.1.frozen 1
      dsimp at c0 c1
      have HD := Lib.hid (hS.done (f := 3) (v := ⟨(flat (runTo s 256)).toArray⟩))
      have hE := hS.2.1.set2 (.int .i64 3) (.string ⟨(flat (runTo s 256)).toArray⟩)
      clear hown hS
      go_wp2
      exact ret_cont rfl rfl hE rfl ⟨rfl, HD.out⟩
end Go.Proofs.Ytpjcndfamhehlaa
