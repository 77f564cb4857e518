import Derived.Test.YtbfchlfagdhglaaDoorMG17
import Derived.LoopTactic
import Derived.Deep.RegionWith
import Derived.RegionTactic
import Derived.Test.YtbfchlfagdhglaaDoorMG16
import Derived.Test.YtbfchlfagdhglaaDoorMG15
/- The document's answer: Get. -/
namespace Go.Proofs.YtbfchlfagdhglaaDoor
open Go.RowKit

theorem or_step {s : List UInt8} {k : Nat} (h1 : k < s.length) (h2 : k < 10) : bits .or .u64 ((digs (s.take k) % 18446744073709551616 : Nat) : Int) (shl7 (byteAt s k) k) = ((digs (s.take (k + 1)) % 18446744073709551616 : Nat) : Int) := by
  rw [← orAll_range (by omega) (by omega), ← orAll_range (by omega) (by omega), List.range_succ]
  simp only [orAll, List.foldl_append, List.foldl_cons, List.foldl_nil, orAt]
  rw [m10_eq h2]
theorem shl_eq (d k : Nat) (hk : k < 10) : IntKind.u64.wrap ((d : Int) % 128 * 2 ^ (7 * k)) = shl7 d k := by
  have h := shl7_eq (d % 128) k hk
  rw [show min ((7 : Int) * k).toNat 64 = 7 * k by omega] at h
  have e : ((d % 128 : Nat) : Int) = (d : Int) % 128 := by omega
  rw [e] at h
  exact h

/-- What Get answers. -/
def GetPost (s : List UInt8) (w : World) (e : Ending) (w' : World) : Prop := e = .returned (.tuple #[.int .u64 (vnum s), .string ⟨(s.drop (vsize s)).toArray⟩, .int .i64 (vcode s)]) ∧ Below w.heap.size w w'
theorem GetPost.err {s : List UInt8} {w w' : World} {c : Int} (hc : vcode s = c) (h0 : c ≠ 0) (hb : Below w.heap.size w w') : GetPost s w (.returned (.tuple #[.int .u64 0, .string ⟨s.toArray⟩, .int .i64 c])) w' := by
  subst hc
  refine ⟨?_, hb⟩
  rw [vnum_err h0, vsize_err h0, List.drop_zero]
  rfl
theorem GetPost.ok {s : List UInt8} {w w' : World} {k : Nat} (hk : k < min s.length 10) (h : ∀ i, i < k → 128 ≤ (s.getD i 0).toNat) (hl : byteAt s k < 128) (hf : Fits (s.take (k + 1))) (hb : Below w.heap.size w w') :
    GetPost s w (.returned (.tuple #[.int .u64 ((digs (s.take (k + 1)) % 18446744073709551616 : Nat) : Int), .string ⟨(s.drop (k + 1)).toArray⟩, .int .i64 0])) w' := by
  obtain ⟨e1, e2⟩ := vcode_at (s := s) (k := k) (by omega) (by omega) h hl
  rw [if_pos hf] at e2
  have es : vsize s = k + 1 := by unfold vsize; rw [if_pos e2, e1]
  have hd := (fits_iff.1 hf).2
  refine ⟨?_, hb⟩
  rw [e2, es, Nat.mod_eq_of_lt hd]
  unfold vnum
  rw [es]
theorem GetPost.bad {s : List UInt8} {w w' : World} {k : Nat} (hk : k < min s.length 10) (h : ∀ i, i < k → 128 ≤ (s.getD i 0).toNat) (hl : byteAt s k < 128) (hf : ¬ Fits (s.take (k + 1))) (hb : Below w.heap.size w w') :
    GetPost s w (.returned (.tuple #[.int .u64 0, .string ⟨s.toArray⟩, .int .i64 20])) w' := by
  refine .err ?_ (by decide) hb
  rw [(vcode_at (s := s) (k := k) (by omega) (by omega) h hl).2, if_neg hf]

set_option maxRecDepth 100000 in
set_option maxHeartbeats 2000000 in
theorem ref_get_any (s : List UInt8) (hs : s.length ≤ 9223372036854775807) (w : World) : Calls Tryd.prog 22 #[.string ⟨s.toArray⟩] w (GetPost s w) := by
  go_enter Tryd.func22, Tryd.ntmps22
  go_wp2
  go_loop [5, 6] (fun n i => ∃ k : Nat, k ≤ s.length ∧ k ≤ 10 ∧ i = .int .i64 k ∧ n = .int .u64 ((digs (s.take k) % 18446744073709551616 : Nat) : Int) ∧ Hid (∀ j, j < k → 128 ≤ (s.getD j 0).toNat))
    (fun _ i => 10 - (intOf i).toNat)
  case atStart => exact ⟨0, by omega, by omega, rfl, by simp [digs], Lib.hid (fun j hj => by omega)⟩
  case round =>
    obtain ⟨k, hk, hk10, rfl, rfl, HH⟩ := hrel
    by_cases hlt : k < s.length ∧ k < 10
    · obtain ⟨h1, h2⟩ := hlt
      have hN : digs (s.take (k + 1)) % 18446744073709551616 < 18446744073709551616 := Nat.mod_lt _ (by decide)
      have hor := or_step h1 h2
      have hb := byte_get s k h1
      have hd := byteAt_lt s k
      have hsh := shl_eq (byteAt s k) k h2
      have HPut := Lib.hid (ref_put_any _ hN)
      have HF : Hid (Fits (s.take (k + 1)) ↔ vput (digs (s.take (k + 1)) % 18446744073709551616) = s.take (k + 1)) := Lib.hid Iff.rfl
      generalize digs (s.take k) % 18446744073709551616 = P at *
      generalize hNd : digs (s.take (k + 1)) % 18446744073709551616 = N at *
      have HND := Lib.hid hNd
      clear hNd
      generalize hbd : byteAt s k = d at *
      have HBD := Lib.hid hbd
      clear hbd
      generalize shl7 d k = v at *
      have e0 : (d : Int).tmod 128 = (d : Int) % 128 := Int.tmod_eq_emod_of_nonneg (by omega)
      have h1' : (k : Int) < s.length := by omega
      have h2' : (k : Int) < 10 := by omega
      have hext : (ByteArray.mk s.toArray).extract 0 (k + 1) = ⟨(s.take (k + 1)).toArray⟩ := (ext_mk s 0 (k + 1)).trans (mk_str (by rw [List.drop_zero]))
      have hk1 : (k : Int) + 1 ≤ s.length := by omega
      have hk0 : 0 ≤ (k : Int) + 1 := by omega
      have hkw : IntKind.i64.wrap ((k : Int) + 1) = (k : Int) + 1 := by rw [IntKind.wrap_i64]; omega
      have hkt : ((k : Int) + 1).toNat = k + 1 := by omega
      by_cases hlo : (d : Int) < 128
      · have hlo' : byteAt s k < 128 := by rw [HBD.out]; omega
        have HLO := Lib.hid hlo'
        clear hlo'
        have hext2 : (ByteArray.mk s.toArray).extract (k + 1) s.length = ⟨(s.drop (k + 1)).toArray⟩ := (ext_mk s (k + 1) s.length).trans (mk_str (by rw [List.take_length]))
        by_cases hf : Fits (s.take (k + 1))
        · have hbe : (vput N == s.take (k + 1)) = true := by rw [HF.out.1 hf]; simp
          have HFit := Lib.hid hf
          clear hf
          go_wp2_with fail
          go_region_with (go_at_call 19; refine (HPut.out _).mono ?_; rintro e w' ⟨rfl, hb⟩)
          all_goals
            go_wp2
            go_region
            go_wp2
            go_ret3
            have HG := GetPost.ok (s := s) (w := w) (k := k) (by omega) HH.out HLO.out HFit.out (((Below.refl w.heap.size w).drew.trans hb).drew)
            rw [HND.out] at HG
            go_simp
        · have hbe : (vput N == s.take (k + 1)) = false := by simpa using fun e => hf (HF.out.2 e)
          have HFit := Lib.hid hf
          clear hf
          go_wp2_with fail
          go_region_with (go_at_call 19; refine (HPut.out _).mono ?_; rintro e w' ⟨rfl, hb⟩)
          all_goals
            go_wp2
            go_ret3
            exact GetPost.bad (s := s) (w := w) (k := k) (by omega) HH.out HLO.out HFit.out ((Below.refl w.heap.size w).drew.trans hb)
      · go_wp2_with fail
        go_round
        case rel => exact ⟨k + 1, by omega, by omega, by simp, by rw [HND.out], Lib.hid (fun j hj => by
          rcases Nat.lt_or_ge j k with h | h
          · exact HH.out j h
          · obtain rfl : j = k := by omega
            show 128 ≤ byteAt s j
            rw [HBD.out]; omega)⟩
        case measure => simp [intOf]; omega
    · have HN := Lib.hid (vcode_none (s := s) (fun j h1 h2 => HH.out j (by omega)))
      by_cases hl : s.length < 10
      · have hl' : (s.length : Int) < 10 := by omega
        have hge : ¬ (k : Int) < s.length := by omega
        go_wp2
        all_goals
          go_ret3
          exact .err (by rw [HN.out, if_pos hl]) (by decide) (Below.refl _ _)
      · have hl' : ¬ (s.length : Int) < 10 := by omega
        have hge : ¬ (k : Int) < 10 := by omega
        go_wp2
        all_goals
          go_ret3
          exact .err (by rw [HN.out, if_neg hl]) (by decide) (Below.refl _ _)
end Go.Proofs.YtbfchlfagdhglaaDoor
/- varint.Get. -/
namespace Go.Proofs.YtbfchlfagdhglaaDoor
open Go.RowKit

theorem grown_belowV {w w' : World} {B n : Nat} (h : w.grownBy w' (some B)) (hB : n ≤ B) (hn : n ≤ w.heap.size) : Below n w w' :=
  (Below.refl n w).grown h hn (fun k e => by cases e; exact hB)

set_option maxRecDepth 100000 in
set_option maxHeartbeats 2000000 in
theorem get_any {n₀ : Nat} (a b : Addr) (s : List UInt8) (hs : s.length ≤ 9223372036854775807) (w : World) (hS : Sent n₀ w a b) (hn₀ : n₀ ≤ w.heap.size) : Calls Tryd.prog 43 #[.string ⟨s.toArray⟩] w (GetPost s w) := by
  have hb0 := Blk.new w 114 #[.string ⟨s.toArray⟩, .nilIface]
  have hB0 : Below w.heap.size w (w.alloc (.cells #[.string ⟨s.toArray⟩, .nilIface] 114)) := (Below.refl _ w).alloc (Nat.le_refl _) _
  have hS0 := hS.below (hB0.mono hn₀)
  have HNum := Lib.hid (number_any a b w.heap.size s hs _ hS0 (by simp; omega) hn₀ hb0)
  have HB0 := Lib.hid hB0
  clear hb0 hB0 hS0
  go_enter Tryd.func43, Tryd.ntmps43
  go_wp2_with fail
  refine HNum.out.mono ?_
  rintro e w1 ⟨rfl, hb1, hg1⟩
  have hB1 : Below w.heap.size w w1 := HB0.out.trans (grown_belowV hg1 (Nat.le_refl _) (by simp))
  have hS1 := hS.below (hB1.mono hn₀)
  rcases vcode_cases s with hc | hc | hc
  · rw [hc] at hb1
    have HG : Hid (∀ w', Below w.heap.size w w' → GetPost s w (.returned (.tuple #[.int .u64 (vnum s), .string ⟨(s.drop (vsize s)).toArray⟩, .int .i64 0])) w') := Lib.hid (fun w' h => ⟨by rw [hc], h⟩)
    clear hc
    generalize s.drop (vsize s) = q at *
    generalize (vnum s : Int) = p at *
    have c0 := hb1.cell 0; have c1 := hb1.cell 1
    dsimp [er] at c0 c1
    go_wp2
    go_region
    all_goals
      go_wp2
      go_ret3
      have HG' := HG.out _ hB1.drew
      go_simp
  · have HE := Lib.hid (fun w' h => GetPost.err (s := s) (w := w) (w' := w') hc (by decide) h)
    rw [hc] at hb1
    have c1 := hb1.cell 1
    dsimp at c1
    rw [er_none] at c1
    clear hc
    go_wp2_with (go_at_call 58; refine (errno_none a b _ hS1).mono ?_; rintro e w' ⟨rfl, rfl⟩)
    go_ret3
    exact HE.out _ hB1
  · have HE := Lib.hid (fun w' h => GetPost.err (s := s) (w := w) (w' := w') hc (by decide) h)
    rw [hc] at hb1
    have c1 := hb1.cell 1
    dsimp at c1
    rw [er_more] at c1
    clear hc
    go_wp2_with (go_at_call 58; refine (errno_more a b _ hS1).mono ?_; rintro e w' ⟨rfl, rfl⟩)
    go_ret3
    exact HE.out _ hB1
end Go.Proofs.YtbfchlfagdhglaaDoor
/- How many chunks a text's bytes say; a chunk's bytes. -/
namespace Go.Proofs.YtbfchlfagdhglaaDoor
open Go.RowKit

/-- What count answers. -/
def CountR (s : List UInt8) (m v r : Addr) (B : Nat) (W : World) (e : Ending) (w' : World) : Prop :=
  (vcode s = 21 ∧ e = .returned (.tuple #[.int .i64 0, eV m]) ∧ Below W.heap.size W w') ∨ (vcode s = 20 ∧ e = .returned (.tuple #[.int .i64 0, eV v]) ∧ Below W.heap.size W w') ∨
  (vcode s = 0 ∧ 256 < vnum s ∧ e = .returned (.tuple #[.int .i64 0, eV r]) ∧ Below W.heap.size W w') ∨
  (vcode s = 0 ∧ vnum s ≤ 256 ∧ e = .returned (.tuple #[.int .i64 (vnum s : Nat), .nilIface]) ∧ ∃ w1, Below W.heap.size W w1 ∧ w' = w1.setCell ⟨B, 0, none⟩ (.string ⟨(s.drop (vsize s)).toArray⟩))
set_option maxRecDepth 100000 in
set_option maxHeartbeats 1000000 in
theorem countR_any {n₀ : Nat} (a b m v r : Addr) (s : List UInt8) (hs : s.length ≤ 9223372036854775807) (B : Nat) (W : World) (hS : Sent n₀ W a b) (hn₀ : n₀ ≤ W.heap.size) (h : Sen3 n₀ W m v r) (hB : Blk W B 52 #[.string ⟨s.toArray⟩]) :
    Calls Tryd.prog 32 #[.pointer (some ⟨B, 0, none⟩)] W (CountR s m v r B W) := by
  have HG := Lib.hid (get_any a b s hs W hS hn₀)
  have c0 := hB.cell 0
  dsimp at c0
  go_enter Tryd.func32, Tryd.ntmps32
  go_wp2_with fail
  refine HG.out.mono ?_
  rintro e w1 ⟨rfl, hb1⟩
  have h1 := h.below (hb1.mono hn₀)
  have hB1 := hB.under hb1
  have c1 := hB1.cell 0; have f1 := hB1.frozen 0
  dsimp at c1
  have vm := h1.vm; have vv := h1.vv; have vr := h1.vr
  have hbd := hb1.drew
  have HBd := Lib.hid hbd
  have HB1 := Lib.hid hb1
  clear HG hbd hb1 h h1 hB hB1 c0
  unfold eV at vm vv vr
  rcases vcode_cases s with hc | hc | hc
  · by_cases hn : 256 < vnum s
    · have HP := Lib.hid (fun w' (hw : Below W.heap.size W w') => show CountR s m v r B W (.returned (.tuple #[.int .i64 0, eV r])) w' from .inr (.inr (.inl ⟨hc, hn, rfl, hw⟩)))
      have hn1 : (256 : Int) < (vnum s : Nat) := by omega
      rw [hc]
      generalize vnum s = q at *
      unfold eV at HP
      go_wp2
      go_region
      all_goals
        go_wp2
        go_ret2
        exact HP.out _ HBd.out
    · have HP := Lib.hid (show CountR s m v r B W (.returned (.tuple #[.int .i64 (vnum s : Nat), .nilIface])) (w1.setCell ⟨B, 0, none⟩ (.string ⟨(s.drop (vsize s)).toArray⟩)) from .inr (.inr (.inr ⟨hc, by omega, rfl, w1, HB1.out, rfl⟩)))
      have hn1 : ¬ (256 : Int) < (vnum s : Nat) := by omega
      have hw0 : IntKind.i64.wrap (vnum s : Nat) = (vnum s : Nat) := by rw [IntKind.wrap_i64]; omega
      rw [hc]
      generalize vnum s = q at *
      generalize s.drop (vsize s) = z at *
      go_wp2
      go_ret2
      exact HP.out
  · have HP := Lib.hid (fun w' (hw : Below W.heap.size W w') => show CountR s m v r B W (.returned (.tuple #[.int .i64 0, eV v])) w' from .inr (.inl ⟨hc, rfl, hw⟩))
    rw [hc]
    unfold eV at HP
    go_wp2
    go_region
    all_goals
      go_wp2
      go_ret2
      exact HP.out _ HBd.out
  · have HP := Lib.hid (fun w' (hw : Below W.heap.size W w') => show CountR s m v r B W (.returned (.tuple #[.int .i64 0, eV m])) w' from .inl ⟨hc, rfl, hw⟩)
    rw [hc]
    unfold eV at HP
    go_wp2
    go_region
    all_goals
      go_wp2
      go_ret2
      exact HP.out _ HBd.out
end Go.Proofs.YtbfchlfagdhglaaDoor
/- A bitmap read off a text's bytes. -/
namespace Go.Proofs.YtbfchlfagdhglaaDoor
open Go.RowKit

/-- The three boxes, the chunks so far. -/
def BmS (W : World) (u : Value) (rs : List Ch) (x y z : Value) (A : World) : Prop := Blk A W.heap.size 24 #[.slice none 0 0] ∧ Blk A (W.heap.size + 1) 24 #[u] ∧ Blk A (W.heap.size + 1 + 1) 48 #[x, y, z] ∧ A.ownsRow (W.heap.size + 3) 48 3 u rs.length (chsCells rs)
theorem BmS.grown {W A C : World} {B : Nat} {u x y z : Value} {rs : List Ch} (h : BmS W u rs x y z A) (hg : A.grownBy C (some B)) (hB : B < W.heap.size) : BmS W u rs x y z C := by
  have f : ∀ g t cs, W.heap.size ≤ g → Blk A g t cs → Blk C g t cs := fun g t cs hg2 hb => (hg.block g hb.lt (fun e => by cases e; omega)).trans hb
  refine ⟨f _ _ _ (Nat.le_refl _) h.1, f _ _ _ (by omega) h.2.1, f _ _ _ (by omega) h.2.2.1, h.2.2.2.kept hg ?_⟩
  cases e : u.ownBlock with
  | none => exact .inl rfl
  | some k =>
    have := (h.2.2.2.lt k e).1
    exact .inr (fun e2 => by cases e2; omega)
theorem BmS.setc {W A : World} {u x y z : Value} {rs : List Ch} (h : BmS W u rs x y z A) (x2 y2 z2 : Value) : BmS W u rs x2 y2 z2 (((A.setCell ⟨W.heap.size + 1 + 1, 0, none⟩ x2).setCell ⟨W.heap.size + 1 + 1, 1, none⟩ y2).setCell ⟨W.heap.size + 1 + 1, 2, none⟩ z2) :=
  ⟨((h.1.far (by simp; omega) _).far (by simp; omega) _).far (by simp; omega) _, ((h.2.1.far (by simp) _).far (by simp) _).far (by simp) _, h.2.2.1.set3 x2 y2 z2, rows_far (rows_far (rows_far h.2.2.2 (by simp) _) (by simp) _) (by simp) _⟩
theorem BmS.app {W A w4 : World} {u v2 x y z : Value} {rs : List Ch} {c : Ch} {o : Obj} (h : BmS W u rs x y z A) (hg : (A.alloc o).grownBy w4 u.ownBlock) (hown : w4.ownsRow (W.heap.size + 3) 48 3 v2 (rs.length + 1) (chsCells rs ++ [.int .i64 c.1, .int .i64 c.2.1, .string ⟨c.2.2.toArray⟩])) :
    w4.cell? ⟨W.heap.size + 1, 0, none⟩ = some u ∧ w4.frozen? ⟨W.heap.size + 1, 0, none⟩ = false ∧ BmS W v2 (rs ++ [c]) x y z (w4.setCell ⟨W.heap.size + 1, 0, none⟩ v2) := by
  have hr : ∀ k, u.ownBlock = some k → W.heap.size + 3 ≤ k := fun k e => (h.2.2.2.lt k e).1
  have f : ∀ g t cs, g < W.heap.size + 3 → Blk A g t cs → Blk w4 g t cs := fun g t cs hl hb => (hg.block g (hb.alloc o).lt (fun e => by have := hr _ e.symm; omega)).trans (hb.alloc o)
  have b0 := f _ _ _ (by omega) h.1
  have b1 := f _ _ _ (by omega) h.2.1
  have b2 := f _ _ _ (by omega) h.2.2.1
  refine ⟨b1.cell 0, b1.frozen 0, b0.far (by simp) _, b1.set_ 0 v2, b2.far (by simp) _, ?_⟩
  rw [List.length_append, chsCells_append, chsCells_one]
  exact rows_far hown (by simp) v2
theorem ChW.app {W A w4 : World} {B : Nat} {q : List UInt8} {o : Obj} {row : Option Nat} (h : ChW W B q A) (hB : B < W.heap.size) (hg : (A.alloc o).grownBy w4 row) (hr : ∀ k, row = some k → W.heap.size ≤ k) : ChW W B q w4 := by
  have h2 := h.under ((Below.refl _ A).alloc (Nat.le_refl _) o)
  refine ⟨(hg.block B h2.1.lt (fun e => by have := hr _ e.symm; omega)).trans h2.1, ⟨hg.os.trans h2.2.os, hg.tape.trans h2.2.tape, hg.output.trans h2.2.output, Nat.le_trans h2.2.size hg.size, fun k hk hne => ?_⟩⟩
  rw [hg.block k (Nat.lt_of_lt_of_le hk h2.2.size) (fun e => by have := hr _ e.symm; omega)]
  exact h2.2.block k hk hne
theorem ChW.trans {W A C : World} {B : Nat} {q s : List UInt8} (h : ChW W B q A) (k : ChW A B s C) : ChW W B s C := ⟨k.1, h.2.trans k.2⟩
theorem ChW.low {n₀ : Nat} {W A : World} {B : Nat} {q : List UInt8} (h : ChW W B q A) (hB : n₀ ≤ B) (hW : n₀ ≤ W.heap.size) : Below n₀ W A := ⟨h.2.os, h.2.tape, h.2.output, h.2.size, fun k hk => h.2.block k (by omega) (fun e => by cases e; omega)⟩
/-- What is wrong, as a sentinel. -/
def ErC (m v r : Addr) (c : Int) (a : Addr) : Prop := (c = 21 ∧ a = m) ∨ (c = 20 ∧ a = v) ∨ (c = 70 ∧ a = r)
/-- What bitmap answers. -/
def BmR (s : List UInt8) (m v r : Addr) (B : Nat) (W : World) (e : Ending) (w' : World) : Prop :=
  (∃ rs q y c, decZ s = (rs, q, 0) ∧ e = .returned (.tuple #[.agg #[.slice y rs.length c], .nilIface]) ∧ rs.length ≤ c ∧ c ≤ maxLen ∧ Chs w'.heap.size w' (.slice y rs.length c) rs ∧ (∀ b o, y = some ⟨b, o, none⟩ → W.heap.size ≤ b) ∧ ChW W B q w') ∨
  (∃ c a, decZ s = ([], s, c) ∧ ErC m v r c a ∧ e = .returned (.tuple #[.agg #[.slice none 0 0], eV a]) ∧ ∃ q, ChW W B q w')
theorem okCs_come {n k : Nat} {s q : List UInt8} {rs : List Ch} (_h : Come n s k rs q) (hp : OkCs rs) : OkCs (rs ++ [chGet q]) := fun c hc => by
  rcases List.mem_append.1 hc with hc | hc
  · exact hp c hc
  · rw [List.mem_singleton.1 hc]
    have h0 := byteC_lt q 0; have h1 := byteC_lt q 1; have h3 := chGet_ok q
    refine ⟨⟨?_, ?_⟩, ⟨?_, ?_⟩, by omega⟩
    · show (-9223372036854775808 : Int) ≤ ((byteC q 0 : Nat) : Int); omega
    · show ((byteC q 0 : Nat) : Int) ≤ 9223372036854775807; omega
    · show (-9223372036854775808 : Int) ≤ ((byteC q 1 : Nat) : Int); omega
    · show ((byteC q 1 : Nat) : Int) ≤ 9223372036854775807; omega

set_option maxRecDepth 100000 in
set_option maxHeartbeats 4000000 in
theorem bitmap_any {n₀ : Nat} (a b m v r : Addr) (s : List UInt8) (hs : s.length ≤ 9223372036854775807) (B : Nat) (W : World) (hS : Sent n₀ W a b) (hn₀ : n₀ ≤ B) (h : Sen3 n₀ W m v r) (hB : Blk W B 52 #[.string ⟨s.toArray⟩]) :
    Calls Tryd.prog 20 #[.pointer (some ⟨B, 0, none⟩)] W (BmR s m v r B W) := by
  have hBl := hB.lt
  have hnW : n₀ ≤ W.heap.size := by omega
  have hA : Below W.heap.size W (((W.alloc (.cells #[.slice none 0 0] 24)).alloc (.cells #[.slice none 0 0] 24)).alloc (.cells #[.int .i64 0, .int .i64 0, .string ⟨#[]⟩] 48)) := (((Below.refl _ W).alloc (Nat.le_refl _) _).alloc (by simp) _).alloc (by simp; omega) _
  have hS0 : BmS W (.slice none 0 0) [] (.int .i64 0) (.int .i64 0) (.string ⟨#[]⟩) (((W.alloc (.cells #[.slice none 0 0] 24)).alloc (.cells #[.slice none 0 0] 24)).alloc (.cells #[.int .i64 0, .int .i64 0, .string ⟨#[]⟩] 48)) := by
    have h1 := (Blk.new (W.alloc (.cells #[.slice none 0 0] 24)) 24 #[.slice none 0 0]).alloc (.cells #[.int .i64 0, .int .i64 0, .string ⟨#[]⟩] 48)
    have h2 := Blk.new ((W.alloc (.cells #[.slice none 0 0] 24)).alloc (.cells #[.slice none 0 0] 24)) 48 #[.int .i64 0, .int .i64 0, .string ⟨#[]⟩]
    rw [World.size_alloc] at h1
    rw [World.size_alloc, World.size_alloc] at h2
    exact ⟨((Blk.new W _ _).alloc _).alloc _, h1, h2, ⟨rfl, .inl ⟨rfl, rfl⟩⟩⟩
  have hC0 : ChW W B s (((W.alloc (.cells #[.slice none 0 0] 24)).alloc (.cells #[.slice none 0 0] 24)).alloc (.cells #[.int .i64 0, .int .i64 0, .string ⟨#[]⟩] 48)) := ChW.under ⟨hB, World.grownBy.refl W _⟩ hA
  have HS0 := Lib.hid hS0; have HC0 := Lib.hid hC0
  have HCn := Lib.hid (countR_any (n₀ := n₀) a b m v r s hs B _ (hS.below (hA.mono hnW)) (Nat.le_trans hnW hA.size) (h.below (hA.mono hnW)) hC0.1)
  have HCh := Lib.hid (fun A q (hq : q.length ≤ 9223372036854775807) (hA : ChW W B q A) => chunk_any (n₀ := n₀) m v r q hq B A (h.below (hA.low hn₀ hnW)) hn₀ hA.1)
  have HRt := Lib.hid (fun y len cap rs hk hm A hh => right_roar y len cap rs hk hm A hh)
  have HVr : Hid (∀ A q, ChW W B q A → A.cell? ⟨0, 0, none⟩ = some (eV r)) := Lib.hid fun A q hA => (h.below (hA.low hn₀ hnW)).vr
  clear hA hS0 hC0 h hS hB
  go_enter Tryd.func20, Tryd.ntmps20
  go_wp2
  refine wp_scope_over 0 rfl ?_
  go_wp2_with fail
  generalize (((W.alloc (.cells #[.slice none 0 0] 24)).alloc (.cells #[.slice none 0 0] 24)).alloc (.cells #[.int .i64 0, .int .i64 0, .string ⟨#[]⟩] 48)) = W0 at *
  refine HCn.out.mono ?_
  clear HCn
  rintro e w1 (⟨hc, rfl, hb⟩ | ⟨hc, rfl, hb⟩ | ⟨hc, hn, rfl, hb⟩ | ⟨hc, hn, rfl, w1, hb, rfl⟩)
  · -- the bytes end
    have HV := Lib.hid (show decZ s = ([], s, 21) by rw [decZ_err (by rw [hc]; decide), hc])
    have HEr : Hid (ErC m v r 21 m) := Lib.hid (.inl ⟨rfl, rfl⟩)
    have hS1 := HS0.out.grown (below_grownR hb (some B)) hBl
    have c0 := hS1.1.cell 0; have f0 := hS1.1.frozen 0
    dsimp at c0
    have HE := Lib.hid (hS1.1.set_ 0 (.slice none 0 0))
    have HW := Lib.hid ((HC0.out.under hb).far (p := ⟨W.heap.size, 0, none⟩) (Nat.le_refl _) (by show B ≠ W.heap.size; omega) (.slice none 0 0))
    clear hS1 hb HS0 HC0 HCh HRt
    unfold eV
    go_wp2
    go_step3
    refine ⟨rfl, ?_⟩
    go_wp2
    try rw [Exit.jump_ret]
    exact ret_roar2 rfl rfl HE.out rfl (.inr ⟨_, _, HV.out, HEr.out, rfl, _, HW.out⟩)
  · -- no varint
    have HV := Lib.hid (show decZ s = ([], s, 20) by rw [decZ_err (by rw [hc]; decide), hc])
    have HEr : Hid (ErC m v r 20 v) := Lib.hid (.inr (.inl ⟨rfl, rfl⟩))
    have hS1 := HS0.out.grown (below_grownR hb (some B)) hBl
    have c0 := hS1.1.cell 0; have f0 := hS1.1.frozen 0
    dsimp at c0
    have HE := Lib.hid (hS1.1.set_ 0 (.slice none 0 0))
    have HW := Lib.hid ((HC0.out.under hb).far (p := ⟨W.heap.size, 0, none⟩) (Nat.le_refl _) (by show B ≠ W.heap.size; omega) (.slice none 0 0))
    clear hS1 hb HS0 HC0 HCh HRt
    unfold eV
    go_wp2
    go_step3
    refine ⟨rfl, ?_⟩
    go_wp2
    try rw [Exit.jump_ret]
    exact ret_roar2 rfl rfl HE.out rfl (.inr ⟨_, _, HV.out, HEr.out, rfl, _, HW.out⟩)
  · -- too many
    have HV := Lib.hid (decZ_big hc hn)
    have HEr : Hid (ErC m v r 70 r) := Lib.hid (.inr (.inr ⟨rfl, rfl⟩))
    have hS1 := HS0.out.grown (below_grownR hb (some B)) hBl
    have c0 := hS1.1.cell 0; have f0 := hS1.1.frozen 0
    dsimp at c0
    have HE := Lib.hid (hS1.1.set_ 0 (.slice none 0 0))
    have HW := Lib.hid ((HC0.out.under hb).far (p := ⟨W.heap.size, 0, none⟩) (Nat.le_refl _) (by show B ≠ W.heap.size; omega) (.slice none 0 0))
    clear hS1 hb HS0 HC0 HCh HRt
    unfold eV
    go_wp2
    go_step3
    refine ⟨rfl, ?_⟩
    go_wp2
    try rw [Exit.jump_ret]
    exact ret_roar2 rfl rfl HE.out rfl (.inr ⟨_, _, HV.out, HEr.out, rfl, _, HW.out⟩)
  · have HDz := Lib.hid (decZ_go hc (by omega : ¬ 256 < vnum s))
    have HS1 := Lib.hid ((HS0.out.grown (below_grownR hb (some B)) hBl).grown (grownBy_setCell' w1 B (.string ⟨(s.drop (vsize s)).toArray⟩)) hBl)
    have HC1 := Lib.hid ((HC0.out.under hb).set (s.drop (vsize s)))
    have HQl : Hid ((s.drop (vsize s)).length ≤ 9223372036854775807) := Lib.hid (by rw [List.length_drop]; omega)
    clear HS0 HC0 hb
    generalize w1.setCell ⟨B, 0, none⟩ (.string ⟨(s.drop (vsize s)).toArray⟩) = w2 at *
    generalize s.drop (vsize s) = z at *
    generalize vnum s = n at *
    obtain ⟨i0, hi, hz0, hz1, hz2⟩ := info_parts info_chunk
    have HInf := Lib.hid hi; have HZ0 := Lib.hid hz0; have HZ1 := Lib.hid hz1; have HZ2 := Lib.hid hz2
    clear hi hz0 hz1 hz2
    go_wp2
    go_loopw [16] (fun i A => ∃ (k : Nat) (u x y z' : Value) (rs : List Ch) (q : List UInt8), k ≤ n ∧ i = .int .i64 (k : Nat) ∧ Come n z k rs q ∧ OkCs rs ∧ q.length ≤ 9223372036854775807 ∧ BmS W u rs x y z' A ∧ ChW W B q A) (fun i _ => n - (intOf i).toNat)
    case atStart => exact ⟨0, _, _, _, _, [], z, Nat.zero_le _, rfl, Come.start n z, (fun c hc => by cases hc), HQl.out, HS1.out, HC1.out⟩
    case round =>
      obtain ⟨k, u, x, y, z', rs, q, hk, rfl, hCo, hOk, hql, hBm, hCw⟩ := hrel
      clear HS1 HC1
      by_cases hlt : k < n
      · have hlt' : (k : Int) < n := by omega
        have hkl : rs.length < 256 := by have := hCo.2.2.1; omega
        go_wp2_with fail
        refine (HCh.out _ q hql hCw).mono ?_
        rintro e w3 (⟨ho, rfl, hcw⟩ | ⟨ho, rfl, q2, hcw⟩)
        · have hb3 := hBm.grown hcw.2 hBl
          have HCo2 := Lib.hid (hCo.step hlt ho)
          have HOk2 := Lib.hid (okCs_come hCo hOk)
          have HQ2 : Hid ((q.drop (chSize q)).length ≤ 9223372036854775807) := Lib.hid (by rw [List.length_drop]; omega)
          have hn256 : n ≤ 256 := hn
          have hC3 := hCw.trans hcw
          clear hBm hcw hCw hCo hOk ho
          generalize chGet q = c at *
          generalize q.drop (chSize q) = q3 at *
          obtain ⟨ck, f, d⟩ := c
          dsimp only at *
          have c0 := hb3.2.2.1.cell 0; have c1 := hb3.2.2.1.cell 1; have c2 := hb3.2.2.1.cell 2
          have f0 := hb3.2.2.1.frozen 0; have f1 := hb3.2.2.1.frozen 1; have f2 := hb3.2.2.1.frozen 2
          dsimp at c0 c1 c2
          have hb4 := hb3.setc (.int .i64 ck) (.int .i64 f) (.string ⟨d.toArray⟩)
          have hC4 := ((hC3.far (p := ⟨W.heap.size + 1 + 1, 0, none⟩) (by simp; omega) (by show B ≠ W.heap.size + 1 + 1; omega) (.int .i64 ck)).far (p := ⟨W.heap.size + 1 + 1, 1, none⟩) (by simp; omega) (by show B ≠ W.heap.size + 1 + 1; omega) (.int .i64 f)).far (p := ⟨W.heap.size + 1 + 1, 2, none⟩) (by simp; omega) (by show B ≠ W.heap.size + 1 + 1; omega) (.string ⟨d.toArray⟩)
          have u0 := hb3.2.1.cell 0
          dsimp at u0
          have HB4 := Lib.hid hb4; have HC4 := Lib.hid hC4
          have hw4 : (((w3.setCell ⟨W.heap.size + 1 + 1, 0, none⟩ (.int .i64 ck)).setCell ⟨W.heap.size + 1 + 1, 1, none⟩ (.int .i64 f)).setCell ⟨W.heap.size + 1 + 1, 2, none⟩ (.string ⟨d.toArray⟩)).heap.size = w3.heap.size := by simp
          have hsz3 : W.heap.size + 3 ≤ w3.heap.size := hb3.2.2.1.lt
          have HSz3 := Lib.hid hsz3
          clear hb3 hC3 hb4 hC4
          go_wp2_with (at_builtin; refine wpList_append_own _ rfl _ _ 22 rfl (W.heap.size + 3) 48 i0 (.agg #[.int .i64 0, .int .i64 0, .string ⟨#[]⟩]) 3 32 Tryd.underlying22 HInf.out HZ0.out HZ1.out HZ2.out rfl (by decide) _ _ _ rfl (HB4.out.2.2.2.alloc _) ⟨w3.heap.size, 0, none⟩ 1 1 [.int .i64 ck, .int .i64 f, .string ⟨d.toArray⟩] rfl rfl (by have := cells_three (((w3.setCell ⟨W.heap.size + 1 + 1, 0, none⟩ (.int .i64 ck)).setCell ⟨W.heap.size + 1 + 1, 1, none⟩ (.int .i64 f)).setCell ⟨W.heap.size + 1 + 1, 2, none⟩ (.string ⟨d.toArray⟩)) (.int .i64 ck) (.int .i64 f) (.string ⟨d.toArray⟩) 48; rwa [hw4] at this) (by simp [Value.oneCell']) (by unfold maxLen; omega) (by omega) (by rw [World.size_alloc, hw4]; omega) ?_; intro v2 w5 hown5 hgr5 _; obtain ⟨x2, k2, rfl⟩ := own_slice hown5; obtain ⟨e5, f5, hb5⟩ := HB4.out.app (c := (ck, f, d)) hgr5 hown5; have hC5 := (HC4.out.app hBl hgr5 (fun k e => by have := (HB4.out.2.2.2.lt k e).1; omega)).far (p := ⟨W.heap.size + 1, 0, none⟩) (by simp) (by show B ≠ W.heap.size + 1; omega) (.slice x2 (rs.length + 1) k2); have HB5 := Lib.hid hb5; have HC5 := Lib.hid hC5; clear hb5 hC5 hown5 hgr5)
          go_roundw
          case rel => exact ⟨k + 1, _, _, _, _, rs ++ [(ck, f, d)], q3, by omega, by simp, HCo2.out, HOk2.out, HQ2.out, HB5.out, HC5.out⟩
          case measure => simp [intOf]; omega
        · have HV := Lib.hid (show decZ s = ([], s, 21) by rw [HDz.out, hCo.none hlt ho]; rfl)
          have HEr : Hid (ErC m v r 21 m) := Lib.hid (.inl ⟨rfl, rfl⟩)
          have hb3 := hBm.grown hcw.2 hBl
          have c0 := hb3.2.2.1.cell 0; have c1 := hb3.2.2.1.cell 1; have c2 := hb3.2.2.1.cell 2
          have f0 := hb3.2.2.1.frozen 0; have f1 := hb3.2.2.1.frozen 1; have f2 := hb3.2.2.1.frozen 2
          dsimp at c0 c1 c2
          have hb4 := hb3.setc (.int .i64 0) (.int .i64 0) (.string ⟨#[]⟩)
          have r0 := hb4.1.cell 0; have g0 := hb4.1.frozen 0
          dsimp at r0
          have hC4 := (((hCw.trans hcw).far (p := ⟨W.heap.size + 1 + 1, 0, none⟩) (by simp; omega) (by show B ≠ W.heap.size + 1 + 1; omega) (.int .i64 0)).far (p := ⟨W.heap.size + 1 + 1, 1, none⟩) (by simp; omega) (by show B ≠ W.heap.size + 1 + 1; omega) (.int .i64 0)).far (p := ⟨W.heap.size + 1 + 1, 2, none⟩) (by simp; omega) (by show B ≠ W.heap.size + 1 + 1; omega) (.string ⟨#[]⟩)
          have HE := Lib.hid (hb4.1.set_ 0 (.slice none 0 0))
          have HW := Lib.hid (hC4.far (p := ⟨W.heap.size, 0, none⟩) (Nat.le_refl _) (by show B ≠ W.heap.size; omega) (.slice none 0 0))
          clear hb3 hb4 hC4 hcw hCw hBm hCo hOk HCh HRt
          unfold eV
          go_wp2
          go_step3
          refine ⟨rfl, ?_⟩
          go_wp2
          try rw [Exit.jump_ret]
          exact ret_roar2 rfl rfl HE.out rfl (.inr ⟨_, _, HV.out, HEr.out, rfl, _, HW.out⟩)
      · obtain rfl : k = n := by omega
        have hge : ¬ (k : Int) < k := by omega
        have hdz : decZ s = decTail s (some (rs, q)) := by rw [HDz.out, hCo.done]
        obtain ⟨y5, c5, rfl, h1, h2, h3, h4⟩ := chs_row rfl hBm.2.2.2
        have hR := HRt.out y5 rs.length c5 rs hOk (by unfold maxLen at h2; omega) wr h3
        have HR := Lib.hid hR
        have u0 := hBm.2.1.cell 0
        dsimp at u0
        have HB4 := Lib.hid hBm; have HC4 := Lib.hid hCw
        have H3 := Lib.hid h3; have H4 := Lib.hid h4
        clear hR hBm hCw h3 h4 hCo HCh HRt hOk HDz
        by_cases hr : RightZ rs
        · rw [decide_eq_true hr] at HR
          have HV : Hid (decZ s = (rs, q, 0)) := Lib.hid (by rw [hdz]; unfold decTail; exact if_pos hr)
          clear hr hdz
          go_wp2_with fail
          refine HR.out.mono ?_
          rintro e w6 ⟨rfl, hb6⟩
          have hb7 := HB4.out.grown (below_grownR hb6 (some B)) hBl
          have c0 := hb7.1.cell 0; have f0 := hb7.1.frozen 0
          have u1 := hb7.2.1.cell 0
          dsimp at c0 u1
          have HE := Lib.hid (hb7.1.set_ 0 (.slice y5 rs.length c5))
          have HW := Lib.hid ((HC4.out.under hb6).far (p := ⟨W.heap.size, 0, none⟩) (Nat.le_refl _) (by show B ≠ W.heap.size; omega) (.slice y5 rs.length c5))
          have HCs := Lib.hid (chs_set (g := W.heap.size) (u := .slice y5 rs.length c5) (H3.out.under hb6) (fun b o l c e => by cases e; have := H4.out b o rfl; omega))
          have HF : Hid (∀ b o, y5 = some ⟨b, o, none⟩ → W.heap.size ≤ b) := Lib.hid (fun b o e => by have := H4.out b o e; omega)
          clear hb6 hb7 HB4 HC4 u0
          go_wp2
          try rw [Exit.jump_ret]
          exact ret_roar2 rfl rfl HE.out rfl (.inl ⟨rs, q, y5, c5, HV.out, rfl, h1, h2, HCs.out, HF.out, HW.out⟩)
        · rw [decide_eq_false hr] at HR
          have HV := Lib.hid (show decZ s = ([], s, 70) by rw [hdz]; unfold decTail; exact if_neg hr)
          have HEr : Hid (ErC m v r 70 r) := Lib.hid (.inr (.inr ⟨rfl, rfl⟩))
          clear hr hdz
          go_wp2_with fail
          refine HR.out.mono ?_
          rintro e w6 ⟨rfl, hb6⟩
          have hb7 := HB4.out.grown (below_grownR hb6 (some B)) hBl
          have c0 := hb7.1.cell 0; have f0 := hb7.1.frozen 0
          dsimp at c0
          have vr := HVr.out _ _ (HC4.out.under hb6)
          have HE := Lib.hid (hb7.1.set_ 0 (.slice none 0 0))
          have HW := Lib.hid ((HC4.out.under hb6).far (p := ⟨W.heap.size, 0, none⟩) (Nat.le_refl _) (by show B ≠ W.heap.size; omega) (.slice none 0 0))
          clear hb6 hb7 HB4 HC4 u0
          unfold eV at vr
          go_wp2
          go_step3
          refine ⟨rfl, ?_⟩
          go_wp2
          try rw [Exit.jump_ret]
          exact ret_roar2 rfl rfl HE.out rfl (.inr ⟨_, _, HV.out, HEr.out, rfl, _, HW.out⟩)
end Go.Proofs.YtbfchlfagdhglaaDoor
