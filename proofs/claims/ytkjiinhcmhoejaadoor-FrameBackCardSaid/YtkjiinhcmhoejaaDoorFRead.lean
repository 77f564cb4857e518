/- frame's reader: take, number, frame; Read. -/
import Derived.Test.YtkjiinhcmhoejaaDoorFMake
import Derived.Test.YtkjiinhcmhoejaaDoorFRef
import Derived.Lib.ConvBytes
import Derived.Lib.UnsafeStr
import Derived.RegionTactic
namespace Go.Proofs.YtkjiinhcmhoejaaDoor
open Go.RowKit

theorem below_bytes (w : World) (e : TypeId) (s : ByteArray) : Below w.heap.size w (Lib.bytesWorld w e s) :=
  Lib.below_freeze ((Below.drew (Below.refl _ w)).alloc (Nat.le_refl _) _) (p := ⟨w.heap.size, _, none⟩) (Nat.le_refl _) 1

set_option maxHeartbeats 1000000 in
set_option maxRecDepth 100000 in
theorem take_any (g : Nat) (s : List UInt8) (k : Nat) (hs : s.length ≤ 9223372036854775807) (hk : k ≤ s.length) (w : World) (bg : Blk w g 49 #[.string ⟨s.toArray⟩]) :
    Calls Tryd.prog 33 #[.pointer (some ⟨g, 0, none⟩), .int .i64 k] w fun e w' => e = .returned (.string ⟨(s.take k).toArray⟩) ∧ w' = w.setCell ⟨g, 0, none⟩ (.string ⟨(s.drop k).toArray⟩) := by
  have c0 := bg.cell 0
  have f0 := bg.frozen 0
  dsimp at c0
  have hk' : (k : Int) ≤ s.length := by omega
  have hx1 : (ByteArray.mk s.toArray).extract 0 k = ⟨(s.take k).toArray⟩ := (ext_mk s 0 k).trans (mk_str (by rw [List.drop_zero]))
  have hx2 : (ByteArray.mk s.toArray).extract k s.length = ⟨(s.drop k).toArray⟩ := (ext_mk s k s.length).trans (mk_str (by rw [List.take_length]))
  have HX2 := Lib.hid hx2
  go_enter Tryd.func33, Tryd.ntmps33
  go_wp2
  go_ret
  exact ⟨rfl, by first | rfl | rw [HX2.out]⟩

set_option maxHeartbeats 2000000 in
set_option maxRecDepth 100000 in
theorem number_any (g : Nat) (s : List UInt8) (hs : s.length ≤ 9223372036854775807) (h4 : 4 ≤ s.length) (w : World) (bg : Blk w g 49 #[.string ⟨s.toArray⟩]) :
    Calls Tryd.prog 32 #[.pointer (some ⟨g, 0, none⟩)] w fun e w' => e = .returned (.int .u32 (num4 s : Nat)) ∧ Blk w' g 49 #[.string ⟨(s.drop 4).toArray⟩] ∧ Below g w w' := by
  have HTk := Lib.hid (take_any g s 4 hs h4 w bg)
  have bg1 : Blk (w.setCell ⟨g, 0, none⟩ (.string ⟨(s.drop 4).toArray⟩)) g 49 #[.string ⟨(s.drop 4).toArray⟩] := bg.set_ 0 _
  have hB1 : Below g w (w.setCell ⟨g, 0, none⟩ (.string ⟨(s.drop 4).toArray⟩)) := (Below.refl g w).setCell (p := ⟨g, 0, none⟩) (Nat.le_refl _) _
  have hl4 : (s.take 4).length = 4 := by rw [List.length_take]; omega
  have HN : Hid (num4 s = num (s.take 4)) := Lib.hid rfl
  clear bg
  generalize s.take 4 = t at *
  generalize s.drop 4 = r at *
  go_enter Tryd.func32, Tryd.ntmps32
  go_wp2_with fail
  refine HTk.out.mono ?_
  rintro e w1 ⟨rfl, hw1⟩
  rw [← hw1] at bg1 hB1
  clear hw1 HTk
  have hcv := Lib.run_convert_string_bytes (P := Tryd.prog) w1 9 40 5 ⟨t.toArray⟩ Tryd.underlying9 Tryd.underlying40 Tryd.underlying5
  have hbw := below_bytes w1 5 ⟨t.toArray⟩
  have hcell : Hid (∀ j, j < 4 → (Lib.bytesWorld w1 5 ⟨t.toArray⟩).cell? ⟨w1.heap.size, j, none⟩ = some (.int .u8 (byteAt t j : Nat))) := Lib.hid (fun j hj => Lib.bytesWorld_cell w1 _ _ j (by simp [ByteArray.size]; omega))
  have hsz := Lib.bytesWorld_size w1 5 ⟨t.toArray⟩
  rw [show (⟨t.toArray⟩ : ByteArray).size = 4 by simp [ByteArray.size, hl4]] at hcv
  generalize grownCap w1 4 0 5 = cap at *
  generalize Lib.bytesWorld w1 5 ⟨t.toArray⟩ = w2 at *
  have bg2 : Blk w2 g 49 #[.string ⟨r.toArray⟩] := bg1.under hbw
  have hB2 : Below g w w2 := hB1.trans (hbw.mono (Nat.le_of_lt bg1.lt))
  go_wp2
  go_loopw [3, 10] (fun c i wr => ∃ k n : Nat, k ≤ 4 ∧ i = .int .i64 k ∧ c = .int .u32 n ∧ Hid (n = num (t.take k)) ∧ Hid (n < 256 ^ k) ∧ w2 = wr)
    (fun _ i _ => 4 - (intOf i).toNat)
  case atStart => exact ⟨0, 0, Nat.zero_le _, rfl, rfl, Lib.hid rfl, Lib.hid (by decide), rfl⟩
  case round =>
    obtain ⟨k, n, hk, rfl, rfl, HM, hn, rfl⟩ := hrel
    by_cases hlt : k < 4
    · have hlt' : (k : Int) < 4 := by omega
      have hc := hcell.out k hlt
      have hbl := byteAt_lt t k
      have hn24 : n < 16777216 := Nat.lt_of_lt_of_le hn.out (Nat.pow_le_pow_right (by decide) (show k ≤ 3 by omega))
      have HR : Hid (num (t.take (k + 1)) = n * 256 + byteAt t k) := Lib.hid (by
        rw [byte_split (by omega), HM.out]
        simp [num, byteAt])
      have HP : Hid (n * 256 + byteAt t k < 256 ^ (k + 1)) := Lib.hid (by rw [Nat.pow_succ]; have := hn.out; omega)
      generalize byteAt t k = b at *
      have e1 : bits .or .u32 ((n : Int) * 256) (b : Int) = ((n * 256 + b : Nat) : Int) := by
        have := bits_or32 8 (a := n) (b := b) (by omega) (by omega)
        rw [show (n : Int) * 256 = ((2 ^ 8 * n : Nat) : Int) by omega, this]
        omega
      generalize n * 256 + b = m at *
      clear hn
      go_wp2
      go_roundw
      case rel => exact ⟨k + 1, m, by omega, by simp, rfl, Lib.hid HR.out.symm, HP, trivial⟩
      case measure => simp [intOf]; omega
    · obtain rfl : k = 4 := by omega
      have HE : Hid (n = num4 s) := Lib.hid (by rw [HN.out, HM.out, List.take_of_length_le (by omega)])
      go_wp2
      go_ret
      exact ⟨ret_int (by rw [HE.out]), bg2, hB2⟩

/-- What frame answers, and how it leaves the reader. -/
def FramePost (R : Nat) (s : List UInt8) (w : World) (e : Ending) (w' : World) : Prop :=
  e = .returned (.tuple #[.string ⟨(rbytes s).toArray⟩, .int .i64 (rcode s)]) ∧ Blk w' R 51 #[.string ⟨(rrest s).toArray⟩] ∧ (∀ k, k < w.heap.size → k ≠ R → w'.heap[k]? = w.heap[k]?) ∧ Below 0 w w' ∧ w.heap.size ≤ w'.heap.size
theorem FramePost.bad {R : Nat} {s : List UInt8} {w w' : World} {c : Int} (hc : rcode s = c) (h0 : c ≠ 0) (bR : Blk w R 51 #[.string ⟨s.toArray⟩]) (hb : Below w.heap.size w w') : FramePost R s w (.returned (.tuple #[.string ⟨#[]⟩, .int .i64 c])) w' := by
  subst hc
  refine ⟨?_, ?_, fun k hk _ => hb.block k hk, hb.mono (Nat.zero_le _), hb.size⟩
  · rw [rbytes_bad h0]
  · rw [rrest_bad h0]; exact bR.under hb
theorem FramePost.ok {R : Nat} {s : List UInt8} {w w' : World} {b r : List UInt8} (hc : rcode s = 0) (h1 : b = (s.drop 8).take (num4 s)) (h2 : r = s.drop (8 + num4 s)) (bR : Blk w R 51 #[.string ⟨s.toArray⟩]) (hb : Below w.heap.size w w') :
    FramePost R s w (.returned (.tuple #[.string ⟨b.toArray⟩, .int .i64 0])) (w'.setCell ⟨R, 0, none⟩ (.string ⟨r.toArray⟩)) := by
  have hR := bR.lt
  refine ⟨?_, ?_, fun k hk hne => ?_, (hb.mono (Nat.zero_le _)).setCell (p := ⟨R, 0, none⟩) (Nat.zero_le _) _, ?_⟩
  · rw [rbytes_ok hc, hc, h1]
  · rw [rrest_ok hc, ← h2]
    exact (bR.under hb).set_ 0 _
  · exact (Below.heap_setCell w' ⟨R, 0, none⟩ _ k hne).trans (hb.block k hk)
  · exact Nat.le_trans hb.size ((Below.refl 0 w').setCell (p := ⟨R, 0, none⟩) (Nat.zero_le _) _).size

set_option maxHeartbeats 8000000 in
set_option maxRecDepth 100000 in
theorem frame_any (R : Nat) (s : List UInt8) (hs : s.length ≤ 1000000) (w : World) (hT : Tab w) (bR : Blk w R 51 #[.string ⟨s.toArray⟩]) :
    Calls Tryd.prog 26 #[.pointer (some ⟨R, 0, none⟩)] w (FramePost R s w) := by
  have c0 := bR.cell 0
  dsimp at c0
  have cA : ∀ o : Obj, (w.alloc o).cell? ⟨R, 0, none⟩ = some (.string ⟨s.toArray⟩) := fun o => (bR.alloc o).cell 0
  have bg0 : Blk (w.alloc (.cells #[.string ⟨s.toArray⟩] 49)).drew w.heap.size 49 #[.string ⟨s.toArray⟩] := (Blk.new w 49 #[.string ⟨s.toArray⟩]).drew
  have hB0 : Below w.heap.size w (w.alloc (.cells #[.string ⟨s.toArray⟩] 49)).drew := ((Below.refl _ w).alloc (Nat.le_refl _) _).drew
  go_enter Tryd.func26, Tryd.ntmps26
  go_wp2
  refine wp_scope_over 0 rfl ?_
  go_wp2
  go_region
  generalize (w.alloc (.cells #[.string ⟨s.toArray⟩] 49)).drew = w0 at *
  clear cA c0
  have c0 := bg0.cell 0
  dsimp at c0
  by_cases h8 : s.length < 8
  · have h8' : (s.length : Int) < 8 := by omega
    have HP := Lib.hid (fun w' => FramePost.bad (R := R) (s := s) (w := w) (w' := w') (rcode_short h8) (by decide) bR)
    go_wp2
    go_step3
    refine ⟨rfl, ?_⟩
    go_wp2
    rw [Exit.jump_ret]
    go_ret2
    exact HP.out _ hB0
  have h8' : (8 : Int) ≤ s.length := by omega
  have HN1 := Lib.hid (number_any w.heap.size s (by omega) (by omega) w0 bg0)
  have hn := num4_lt s
  have hm := num4_lt (s.drop 4)
  have hd4 : (s.drop 4).length = s.length - 4 := List.length_drop
  have HN2 := Lib.hid (number_any w.heap.size (s.drop 4) (by omega) (by omega))
  rw [List.drop_drop] at HN2
  by_cases hbig : 60000 < num4 s
  · have hbig' : (60000 : Int) < num4 s := by omega
    have HP := Lib.hid (fun w' => FramePost.bad (R := R) (s := s) (w := w) (w' := w') (rcode_big h8 hbig) (by decide) bR)
    generalize num4 (s.drop 4) = m at *
    generalize num4 s = n at *
    go_wp2_with fail
    refine HN1.out.mono ?_
    rintro e w1 ⟨rfl, bg1, hb1⟩
    have hB1 := hB0.trans hb1
    go_wp2_with fail
    refine (HN2.out _ bg1).mono ?_
    rintro e w2 ⟨rfl, bg2, hb2⟩
    have hB2 := hB1.trans hb2
    go_wp2
    go_step3
    refine ⟨rfl, ?_⟩
    go_wp2
    rw [Exit.jump_ret]
    go_ret2
    exact HP.out _ hB2
  have hbig' : (num4 s : Int) ≤ 60000 := by omega
  have hd8 : (s.drop (4 + 4)).length = s.length - 8 := List.length_drop
  by_cases hmiss : s.length - 8 < num4 s
  · have hmiss' : ((s.drop (4 + 4)).length : Int) < num4 s := by omega
    have HP := Lib.hid (fun w' => FramePost.bad (R := R) (s := s) (w := w) (w' := w') (rcode_miss h8 hbig hmiss) (by decide) bR)
    generalize num4 (s.drop 4) = m at *
    generalize num4 s = n at *
    generalize s.drop (4 + 4) = s8 at *
    go_wp2_with fail
    refine HN1.out.mono ?_
    rintro e w1 ⟨rfl, bg1, hb1⟩
    have hB1 := hB0.trans hb1
    go_wp2_with fail
    refine (HN2.out _ bg1).mono ?_
    rintro e w2 ⟨rfl, bg2, hb2⟩
    have hB2 := hB1.trans hb2
    have c2 := bg2.cell 0
    dsimp at c2
    go_wp2
    go_step3
    refine ⟨rfl, ?_⟩
    go_wp2
    rw [Exit.jump_ret]
    go_ret2
    exact HP.out _ hB2
  have hmiss' : (num4 s : Int) ≤ (s.drop (4 + 4)).length := by omega
  have HTk := Lib.hid (take_any w.heap.size (s.drop (4 + 4)) (num4 s) (by omega) (by omega))
  have HS := Lib.hid (sum_any ((s.drop (4 + 4)).take (num4 s)) (by rw [List.length_take]; omega))
  rw [List.drop_drop] at HTk
  by_cases hsum : crc ((s.drop 8).take (num4 s)) = num4 (s.drop 4)
  · have HP := Lib.hid (fun w' => FramePost.ok (R := R) (s := s) (w := w) (w' := w') (rcode_ok h8 hbig hmiss hsum) rfl rfl bR)
    rw [show (4 + 4 : Nat) = 8 from rfl] at *
    rw [hsum] at HS
    clear hsum
    generalize (s.drop 8).take (num4 s) = b at *
    generalize s.drop (8 + num4 s) = r at *
    generalize num4 (s.drop 4) = m at *
    generalize num4 s = n at *
    generalize s.drop 8 = s8 at *
    go_wp2_with fail
    refine HN1.out.mono ?_
    rintro e w1 ⟨rfl, bg1, hb1⟩
    have hB1 := hB0.trans hb1
    go_wp2_with fail
    refine (HN2.out _ bg1).mono ?_
    rintro e w2 ⟨rfl, bg2, hb2⟩
    have hB2 := hB1.trans hb2
    have c2 := bg2.cell 0
    dsimp at c2
    go_wp2_with fail
    refine (HTk.out _ bg2).mono ?_
    rintro e w3 ⟨rfl, hw3⟩
    have bg3 : Blk w3 w.heap.size 49 #[.string ⟨r.toArray⟩] := by rw [hw3]; exact bg2.set_ 0 _
    have hB3 : Below w.heap.size w w3 := by rw [hw3]; exact hB2.setCell (p := ⟨w.heap.size, 0, none⟩) (Nat.le_refl _) _
    clear hw3
    have c3 := bg3.cell 0
    dsimp at c3
    have bR3 := bR.under hB3
    have d3 := bR3.cell 0
    have f3 := bR3.frozen 0
    dsimp at d3
    go_wp2_with fail
    refine (HS.out _ (hT.below hB3)).mono ?_
    rintro e w' ⟨rfl, rfl⟩
    go_wp2
    rw [Exit.jump_ret]
    go_ret2
    exact HP.out _ hB3
  · have HP := Lib.hid (fun w' => FramePost.bad (R := R) (s := s) (w := w) (w' := w') (rcode_sum h8 hbig hmiss hsum) (by decide) bR)
    rw [show (4 + 4 : Nat) = 8 from rfl] at *
    have hne : ((crc ((s.drop 8).take (num4 s)) : Int) == (num4 (s.drop 4) : Int)) = false := by simp; omega
    clear hsum
    generalize (s.drop 8).take (num4 s) = b at *
    generalize s.drop (8 + num4 s) = r at *
    generalize num4 (s.drop 4) = m at *
    generalize num4 s = n at *
    generalize s.drop 8 = s8 at *
    generalize crc b = c at *
    go_wp2_with fail
    refine HN1.out.mono ?_
    rintro e w1 ⟨rfl, bg1, hb1⟩
    have hB1 := hB0.trans hb1
    go_wp2_with fail
    refine (HN2.out _ bg1).mono ?_
    rintro e w2 ⟨rfl, bg2, hb2⟩
    have hB2 := hB1.trans hb2
    have c2 := bg2.cell 0
    dsimp at c2
    go_wp2_with fail
    refine (HTk.out _ bg2).mono ?_
    rintro e w3 ⟨rfl, hw3⟩
    have hB3 : Below w.heap.size w w3 := by rw [hw3]; exact hB2.setCell (p := ⟨w.heap.size, 0, none⟩) (Nat.le_refl _) _
    clear hw3
    go_wp2_with fail
    refine (HS.out _ (hT.below hB3)).mono ?_
    rintro e w' ⟨rfl, rfl⟩
    go_wp2
    go_step3
    refine ⟨rfl, ?_⟩
    go_wp2
    rw [Exit.jump_ret]
    go_ret2
    exact HP.out _ hB3

set_option maxHeartbeats 2000000 in
set_option maxRecDepth 100000 in
theorem read_any (s : List UInt8) (hs : s.length ≤ 1000000) (w : World) (hT : Tab w) : Calls Tryd.prog 14 #[.string ⟨s.toArray⟩] w (RPost s w) := by
  have b0 := Blk.new w 51 #[.string ⟨s.toArray⟩]
  have hB0 : Below w.heap.size w (w.alloc (.cells #[.string ⟨s.toArray⟩] 51)) := (Below.refl _ w).alloc (Nat.le_refl _) _
  have HF := Lib.hid (frame_any w.heap.size s hs _ (hT.below hB0) b0)
  have hsz : (w.alloc (.cells #[.string ⟨s.toArray⟩] 51)).heap.size = w.heap.size + 1 := by simp
  clear b0
  go_enter Tryd.func14, Tryd.ntmps14
  go_wp2_with fail
  refine HF.out.mono ?_
  rintro e w1 ⟨rfl, b1, hk, hb, hsz1⟩
  have hB1 : Below w.heap.size w w1 := hB0.trans ⟨hb.os, hb.tape, hb.output, hb.size, fun k hkl => hk k (by omega) (by omega)⟩
  have HP : Hid (∀ w' : World, Below w.heap.size w w' → RPost s w (.returned (.tuple #[.string ⟨(rbytes s).toArray⟩, .string ⟨(rrest s).toArray⟩, .int .i64 (rcode s)])) w') := Lib.hid (fun w' h => ⟨rfl, h⟩)
  clear hk hb HF
  have c1 := b1.cell 0
  dsimp at c1
  generalize rbytes s = b at *
  generalize rrest s = r at *
  generalize rcode s = c at *
  go_wp2
  go_region
  all_goals
    go_wp2
    go_ret3
    have HG := HP.out _ hB1.drew
    go_simp
end Go.Proofs.YtkjiinhcmhoejaaDoor
