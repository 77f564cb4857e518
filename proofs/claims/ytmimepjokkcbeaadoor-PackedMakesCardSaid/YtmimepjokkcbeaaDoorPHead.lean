/- (*reader).head: how many numbers there are, and their width. -/
import Derived.Test.YtmimepjokkcbeaaDoorPEach
import Derived.Test.YtmimepjokkcbeaaDoorVGet
import Derived.Deep.RegionWith
namespace Go.Proofs.YtmimepjokkcbeaaDoor
open Go.RowKit

/-- The head's error. -/
def hcode (s : List UInt8) : Int :=
  if vcode s ≠ 0 then vcode s else if 1000 < vnum s then 40 else if s.length = vsize s then 21 else if 16 < pw s then 40 else 0
theorem pcode_head {s : List UInt8} (h : hcode s ≠ 0) : pcode s = hcode s := by
  unfold hcode at h ⊢
  unfold pcode
  split
  · rfl
  split
  · rfl
  split
  · rfl
  split
  · rfl
  · rename_i h1 h2 h3 h4
    rw [if_neg h1, if_neg h2, if_neg h3, if_neg h4] at h
    exact absurd rfl h
theorem pcode_body {s : List UInt8} (h : hcode s = 0) : pcode s = (if (pt s).length < szOf (vnum s) (pw s) then 21 else if pok s then 0 else 40) ∧ vcode s = 0 ∧ vnum s ≤ 1000 ∧ s.length ≠ vsize s ∧ pw s ≤ 16 := by
  unfold hcode at h
  unfold pcode
  split at h
  · contradiction
  split at h
  · contradiction
  split at h
  · contradiction
  split at h
  · contradiction
  · rename_i h1 h2 h3 h4
    rw [if_neg h1, if_neg h2, if_neg h3, if_neg h4]
    exact ⟨rfl, by omega, by omega, h3, by omega⟩

theorem grown_in {a w : World} (h : Below a.heap.size a w) (row : Option Nat) : a.grownBy w row := ⟨h.os, h.tape, h.output, h.size, fun i hi _ => h.block i hi⟩
/-- What a call of head leaves. -/
def HeadPost (B : Nat) (s : List UInt8) (w : World) (e : Ending) (w' : World) : Prop :=
  e = .returned (.int .i64 (hcode s)) ∧ w.grownBy w' (some B) ∧ (hcode s = 0 → Blk w' B 50 #[.string ⟨(pt s).toArray⟩, .int .i64 (vnum s), .int .i64 (pw s)])
theorem HeadPost.bad {B : Nat} {s : List UInt8} {w w' : World} {c : Int} (h : hcode s = c) (h0 : c ≠ 0) (hb : Below w.heap.size w w') : HeadPost B s w (.returned (.int .i64 c)) w' :=
  ⟨by rw [h], grown_in hb _, fun h' => absurd (h ▸ h') h0⟩

set_option maxRecDepth 100000 in
set_option maxHeartbeats 2000000 in
theorem head_any {n₀ : Nat} (a b : Addr) (B : Nat) (s : List UInt8) (hs : s.length ≤ 1000000) (w : World) (hS : Sent n₀ w a b) (hn₀ : n₀ ≤ w.heap.size) (bB : Blk w B 50 #[.string ⟨s.toArray⟩, .int .i64 0, .int .i64 0]) :
    Calls Tryd.prog 34 #[.pointer (some ⟨B, 0, none⟩)] w (HeadPost B s w) := by
  have hBlt := bB.lt
  have c0 := bB.cell 0
  dsimp at c0
  have HGet := Lib.hid (get_any a b s (by omega) w hS hn₀)
  go_enter Tryd.func34, Tryd.ntmps34
  go_wp2_with fail
  refine HGet.out.mono ?_
  rintro e w1 ⟨rfl, hb1⟩
  have hnl := vnum_lt s
  by_cases hc : vcode s = 0
  · have hvs := vsize_le s
    by_cases hbig : 1000 < vnum s
    · have hbig' : (1000 : Int) < (vnum s : Int) := by omega
      have HP : Hid (HeadPost B s w (.returned (.int .i64 40)) w1) := Lib.hid (.bad (by unfold hcode; rw [if_neg (by simp [hc]), if_pos hbig]) (by decide) hb1)
      rw [hc]
      clear hc
      go_wp2
      go_ret
      exact HP.out
    · have hbig' : ¬ (1000 : Int) < (vnum s : Int) := by omega
      have hq : (s.drop (vsize s)).length = s.length - vsize s := by simp
      by_cases hend : s.length = vsize s
      · have HP : Hid (HeadPost B s w (.returned (.int .i64 21)) w1) := Lib.hid (.bad (by unfold hcode; rw [if_neg (by simp [hc]), if_neg hbig, if_pos hend]) (by decide) hb1)
        have hq0 : s.drop (vsize s) = [] := List.eq_nil_of_length_eq_zero (by rw [hq]; omega)
        rw [hc, hq0]
        clear hc hq0 hq
        go_wp2
        go_ret
        exact HP.out
      · have hql : 0 < (s.drop (vsize s)).length := by rw [hq]; omega
        have hpw : byteAt (s.drop (vsize s)) 0 = pw s := rfl
        have hb0 := byte_get (s.drop (vsize s)) 0 hql
        rw [hpw] at hb0
        have hpl : pw s < 256 := UInt8.toNat_lt _
        have hne : (s.drop (vsize s)).isEmpty = false := by
          cases hd : s.drop (vsize s) with
          | nil => rw [hd] at hql; simp at hql
          | cons => rfl
        have hql' : (0 : Int) < (s.drop (vsize s)).length := by omega
        rw [hc]
        by_cases h16 : 16 < pw s
        · have HP : Hid (HeadPost B s w (.returned (.int .i64 40)) w1) := Lib.hid (.bad (by unfold hcode; rw [if_neg (by simp [hc]), if_neg hbig, if_neg hend, if_pos h16]) (by decide) hb1)
          have h16' : (16 : Int) < (pw s : Int) := by omega
          clear hc hq hpw
          generalize pw s = d at *
          generalize s.drop (vsize s) = q at *
          go_wp2
          go_ret
          exact HP.out
        · have h16' : ¬ (16 : Int) < (pw s : Int) := by omega
          have hhc : hcode s = 0 := by unfold hcode; rw [if_neg (by simp [hc]), if_neg hbig, if_neg hend, if_neg h16]
          have HG : Hid (∀ w', w.grownBy w' (some B) → Blk w' B 50 #[.string ⟨(s.drop (vsize s + 1)).toArray⟩, .int .i64 (vnum s), .int .i64 (pw s)] → HeadPost B s w (.returned (.int .i64 0)) w') := Lib.hid (fun w' h1 h2 => ⟨by rw [hhc], h1, fun _ => h2⟩)
          have hkk : (s.length : Int) - (s.drop (vsize s)).length + 1 = ((vsize s + 1 : Nat) : Int) := by rw [hq]; omega
          have hk1 : vsize s + 1 ≤ s.length := by omega
          have bB1 := bB.under hb1
          have f1 := bB1.frozen 1; have f2 := bB1.frozen 2
          have d0 := bB1.cell 0; have d1 := bB1.cell 1; have d2 := bB1.cell 2
          dsimp at d0 d1 d2
          have hn10 : vnum s ≤ 1000 := by omega
          clear hc hq hpw hhc
          generalize pw s = d at *
          generalize vnum s = n at *
          generalize vsize s + 1 = kk at *
          have hql2 : (s.drop (vsize s)).length ≤ s.length := by simp
          generalize s.drop (vsize s) = q at *
          have e1 : IntKind.i64.wrap ((s.length : Int) - q.length) = (s.length : Int) - q.length := by rw [IntKind.wrap_i64]; omega
          have e2 : IntKind.i64.wrap ((s.length : Int) - q.length + 1) = (kk : Int) := by rw [IntKind.wrap_i64]; omega
          have e3 : IntKind.i64.wrap (kk : Int) = (kk : Int) := by rw [IntKind.wrap_i64]; omega
          have hg1 := grown_in hb1 (some B)
          have bB2 := ((bB1.set_ 1 (.int .i64 n)).set_ 2 (.int .i64 d)).drew
          simp only [List.setIfInBounds_toArray, List.set_cons_succ, List.set_cons_zero] at bB2
          have hg2 : w.grownBy ((w1.setCell ⟨B, 1, none⟩ (.int .i64 n)).setCell ⟨B, 2, none⟩ (.int .i64 d)).drew (some B) :=
            ⟨hg1.os, hg1.tape, hg1.output, by simpa [World.setCell] using hg1.size, fun i hi hne => (Below.heap_setCell _ _ _ i (fun e => hne (by rw [e]))).trans ((Below.heap_setCell _ _ _ i (fun e => hne (by rw [e]))).trans (hg1.block i hi hne))⟩
          go_wp2
          go_region
          generalize ((w1.setCell ⟨B, 1, none⟩ (.int .i64 n)).setCell ⟨B, 2, none⟩ (.int .i64 d)).drew = w2 at *
          have c2 := bB2.cell 0
          dsimp at c2
          have HSk := Lib.hid (fun w' h => pskip_any B s (.int .i64 n) (.int .i64 d) kk hk1 hs w' h)
          have HBB := Lib.hid bB2.drew
          clear bB1 hb1 bB2 f1 f2 d0 d1 d2 hg1
          go_wp2_with fail
          go_region_with (go_at_call 36; refine (HSk.out _ HBB.out).mono ?_; rintro e w' ⟨⟨v, rfl⟩, rfl⟩)
          all_goals
            have hbl2 := (HBB.out.set_ 0 (.string ⟨(s.drop kk).toArray⟩))
            have hg3 : w.grownBy (w2.drew.setCell ⟨B, 0, none⟩ (.string ⟨(s.drop kk).toArray⟩)) (some B) :=
              ⟨hg2.os, hg2.tape, hg2.output, by simpa [World.setCell] using hg2.size, fun i hi hne => (Below.heap_setCell _ _ _ i (fun e => hne (by rw [e]))).trans (hg2.block i hi hne)⟩
            have HP := Lib.hid (HG.out _ hg3 hbl2)
            clear hbl2 hg3 hg2
            go_wp2
            go_ret
            exact HP.out
  · have hne : (vcode s != 0) = true := by simpa using hc
    have HP : Hid (HeadPost B s w (.returned (.int .i64 (vcode s))) w1) := Lib.hid (.bad (by unfold hcode; rw [if_pos hc]) hc hb1)
    clear hc
    generalize vcode s = cd at *
    go_wp2
    go_ret
    exact HP.out
end Go.Proofs.YtmimepjokkcbeaaDoor
