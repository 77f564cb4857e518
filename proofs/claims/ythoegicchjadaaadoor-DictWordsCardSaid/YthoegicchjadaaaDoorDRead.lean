/- The reader: upTo, take, word. -/
import Derived.Test.YthoegicchjadaaaDoorDCode
import Derived.Test.YthoegicchjadaaaDoorVGet
import Derived.Test.YthoegicchjadaaaDoorLOwn
import Derived.Deep.RegionWith
import Derived.Laws.Concat
import Derived.Laws.IdiomStrings
namespace Go.Proofs.YthoegicchjadaaaDoor
open Go.RowKit

/-- What tells a fault: none, or its number. -/
def flt (c : Int) : Value := if c = 0 then .nilIface else .iface 56 (.agg #[.int .i64 c])
theorem flt_zero : flt 0 = .nilIface := rfl
theorem flt_ne {c : Int} (h : c ≠ 0) : flt c = .iface 56 (.agg #[.int .i64 c]) := by unfold flt; rw [if_neg h]
/-- A reader with a text left. -/
abbrev Rd (R : Nat) (s : List UInt8) (W : World) : Prop := Blk W R 60 #[.string ⟨s.toArray⟩]
/-- What is told of a number that must not be greater than m; it; what is left. -/
def uc (m : Nat) (s : List UInt8) : Int := if vcode s ≠ 0 then vcode s else if m < vnum s then 50 else 0
def un (m : Nat) (s : List UInt8) : Nat := if uc m s = 0 then vnum s else 0
def ur (m : Nat) (s : List UInt8) : List UInt8 := if uc m s = 0 then vrest s else s
def UptoPost (R m : Nat) (s : List UInt8) (W : World) (e : Ending) (w' : World) : Prop :=
  e = .returned (.tuple #[.int .i64 (un m s : Nat), flt (uc m s)]) ∧ W.grownBy w' (some R) ∧ Rd R (ur m s) w'
theorem grown_of_below {W W' : World} (h : Below W.heap.size W W') (row : Option Nat) : W.grownBy W' row := ⟨h.os, h.tape, h.output, h.size, fun i hi _ => h.block i hi⟩
theorem grown_trans {A B C : World} {row : Option Nat} (h : A.grownBy B row) (k : B.grownBy C row) : A.grownBy C row :=
  ⟨k.os.trans h.os, k.tape.trans h.tape, k.output.trans h.output, Nat.le_trans h.size k.size, fun i hi hr => (k.block i (Nat.lt_of_lt_of_le hi h.size) hr).trans (h.block i hi hr)⟩

set_option maxRecDepth 100000 in
set_option maxHeartbeats 4000000 in
theorem upto_any {n₀ : Nat} (a b : Addr) (R m : Nat) (s : List UInt8) (hs : s.length ≤ 9223372036854775807) (hm : m ≤ 1000) (w : World) (hS : Sent n₀ w a b) (hn₀ : n₀ ≤ w.heap.size) (hR : Rd R s w) :
    Calls Tryd.prog 74 #[.pointer (some ⟨R, 0, none⟩), .int .i64 m] w (UptoPost R m s w) := by
  have c0 := hR.cell 0
  dsimp at c0
  have HG := Lib.hid (get_any a b s hs w hS hn₀)
  have hnl := vnum_lt s
  have hmw : IntKind.u64.wrap (m : Int) = (m : Int) := by rw [u64_wrap]; omega
  by_cases hc : vcode s = 0
  · by_cases hb : m < vnum s
    · have HP : Hid (∀ w', Below w.heap.size w w' → UptoPost R m s w (.returned (.tuple #[.int .i64 0, .iface 56 (.agg #[.int .i64 50])])) w') := Lib.hid (fun w' h => by
        have e : uc m s = 50 := by unfold uc; rw [if_neg (by simp [hc]), if_pos hb]
        refine ⟨?_, grown_of_below h _, ?_⟩
        · unfold un; rw [e, flt_ne (by decide), if_neg (by decide)]; rfl
        · unfold ur; rw [e, if_neg (by decide)]; exact hR.under h)
      unfold GetPost at HG
      rw [hc] at HG
      clear hR hS hc
      generalize vnum s = n at *
      generalize s.drop (vsize s) = r at *
      have hb' : (m : Int) < n := by omega
      go_enter Tryd.func74, Tryd.ntmps74
      go_wp2_with fail
      refine HG.out.mono ?_
      rintro e w1 ⟨rfl, hb1⟩
      go_wp2
      go_ret2
      exact HP.out _ hb1
    · have HP : Hid (∀ w1, Below w.heap.size w w1 → UptoPost R m s w (.returned (.tuple #[.int .i64 (vnum s : Nat), .nilIface])) (w1.setCell ⟨R, 0, none⟩ (.string ⟨(s.drop (vsize s)).toArray⟩))) := Lib.hid (fun w1 h => by
        have e : uc m s = 0 := by unfold uc; rw [if_neg (by simp [hc]), if_neg hb]
        refine ⟨?_, grown_trans (grown_of_below h _) (grownBy_setCell' _ _ _), ?_⟩
        · unfold un; rw [e, if_pos rfl]; rfl
        · unfold ur; rw [e, if_pos rfl]; exact (hR.under h).set_ 0 _)
      have HR := Lib.hid hR
      unfold GetPost at HG
      rw [hc] at HG
      clear hR hS hc
      generalize vnum s = n at *
      generalize s.drop (vsize s) = r at *
      have hb' : ¬ (m : Int) < n := by omega
      have hnw : IntKind.i64.wrap (n : Int) = (n : Int) := by rw [IntKind.wrap_i64]; omega
      go_enter Tryd.func74, Tryd.ntmps74
      go_wp2_with fail
      refine HG.out.mono ?_
      rintro e w1 ⟨rfl, hb1⟩
      have c1 := (HR.out.under hb1).cell 0
      have f1 := (HR.out.under hb1).frozen 0
      dsimp at c1
      go_wp2
      go_ret2
      exact HP.out _ hb1
  · have HP : Hid (∀ w', Below w.heap.size w w' → UptoPost R m s w (.returned (.tuple #[.int .i64 0, .iface 56 (.agg #[.int .i64 (vcode s)])])) w') := Lib.hid (fun w' h => by
      have e : uc m s = vcode s := by unfold uc; rw [if_pos hc]
      refine ⟨?_, grown_of_below h _, ?_⟩
      · unfold un; rw [e, flt_ne hc, if_neg hc]; rfl
      · unfold ur; rw [e, if_neg hc]; exact hR.under h)
    unfold GetPost at HG
    clear hR hS
    generalize vnum s = n at *
    generalize s.drop (vsize s) = r at *
    generalize vcode s = c at *
    have hb' : (c == 0) = false := by simpa using hc
    go_enter Tryd.func74, Tryd.ntmps74
    go_wp2_with fail
    refine HG.out.mono ?_
    rintro e w1 ⟨rfl, hb1⟩
    go_wp2
    go_ret2
    exact HP.out _ hb1

set_option maxRecDepth 100000 in
set_option maxHeartbeats 2000000 in
theorem take_any (R : Nat) (s : List UInt8) (k : Nat) (hk : k ≤ s.length) (hs : s.length ≤ 9223372036854775807) (w : World) (hR : Rd R s w) :
    Calls Tryd.prog 94 #[.pointer (some ⟨R, 0, none⟩), .int .i64 k] w fun e w' => e = .returned (.string ⟨(s.take k).toArray⟩) ∧ w' = w.setCell ⟨R, 0, none⟩ (.string ⟨(s.drop k).toArray⟩) := by
  have c0 := hR.cell 0; have f0 := hR.frozen 0
  dsimp at c0
  have hk' : (k : Int) ≤ s.length := by omega
  have hext := (ext_mk s k s.length).trans (mk_str (by rw [List.take_length]))
  have hext2 := (ext_mk s 0 k).trans (mk_str (by rw [List.drop_zero]))
  clear hR
  go_enter Tryd.func94, Tryd.ntmps94
  go_wp2
  go_ret
  exact ⟨rfl, rfl⟩

theorem uc_zero {m : Nat} {s : List UInt8} (h : uc m s = 0) : vcode s = 0 ∧ vnum s ≤ m := by
  unfold uc at h
  by_cases h1 : vcode s = 0
  · rw [if_neg (by simp [h1])] at h
    refine ⟨h1, ?_⟩
    by_cases h2 : m < vnum s
    · rw [if_pos h2] at h; cases h
    · omega
  · rw [if_pos h1] at h; exact absurd h h1
theorem uc_of {m : Nat} {s : List UInt8} (h1 : vcode s = 0) (h2 : vnum s ≤ m) : uc m s = 0 := by unfold uc; rw [if_neg (by simp [h1]), if_neg (by omega)]
theorem wc_a {last s : List UInt8} (h : uc last.length s ≠ 0) : wc last s = uc last.length s := by
  unfold wc uc at *
  by_cases h1 : vcode s = 0
  · rw [if_neg (by simp [h1])] at h ⊢
    by_cases h2 : last.length < vnum s
    · rw [if_pos h2, if_neg (by simp [h1]), if_pos h2]
    · rw [if_neg h2] at h; exact absurd rfl h
  · rw [if_pos h1, if_pos h1]
theorem wc_b {last s : List UInt8} (hl : last.length ≤ 100) (h0 : uc last.length s = 0) (h : uc (100 - vnum s) (vrest s) ≠ 0) : wc last s = uc (100 - vnum s) (vrest s) := by
  obtain ⟨a1, a2⟩ := uc_zero h0
  unfold wc
  rw [if_neg (by simp [a1]), if_neg (by omega)]
  unfold uc at h ⊢
  by_cases h1 : vcode (vrest s) = 0
  · rw [if_neg (by simp [h1])] at h ⊢
    by_cases h2 : 100 - vnum s < vnum (vrest s)
    · rw [if_pos (by omega), if_neg (by simp [h1]), if_pos h2]
    · rw [if_neg h2] at h; exact absurd rfl h
  · rw [if_pos h1, if_pos h1]
theorem wc_c {last s : List UInt8} (hl : last.length ≤ 100) (h0 : uc last.length s = 0) (h1 : uc (100 - vnum s) (vrest s) = 0) : wc last s = if (vrest (vrest s)).length < vnum (vrest s) then 21 else 0 := by
  obtain ⟨a1, a2⟩ := uc_zero h0
  obtain ⟨b1, b2⟩ := uc_zero h1
  unfold wc
  rw [if_neg (by simp [a1]), if_neg (by omega), if_neg (by simp [b1]), if_neg (by omega)]
theorem vrest_le (s : List UInt8) : (vrest s).length ≤ s.length := by unfold vrest; rw [List.length_drop]; omega

theorem grown_drew {A B : World} {row : Option Nat} (h : A.grownBy B row) : A.grownBy B.drew row := ⟨h.os, h.tape, h.output, h.size, h.block⟩
/-- The word, where there is one. -/
def wv (last s : List UInt8) : List UInt8 := if wc last s = 0 then ww last s else []
theorem wv_ok {last s : List UInt8} (h : wc last s = 0) : wv last s = ww last s := by unfold wv; rw [if_pos h]
theorem wv_bad {last s : List UInt8} (h : wc last s ≠ 0) : wv last s = [] := by unfold wv; rw [if_neg h]
/-- What word answers, and leaves. -/
def WordPost (R : Nat) (last s : List UInt8) (W : World) (e : Ending) (w' : World) : Prop :=
  e = .returned (.tuple #[.string ⟨(wv last s).toArray⟩, flt (wc last s)]) ∧ W.grownBy w' (some R) ∧ ∃ r, Rd R r w' ∧ r.length ≤ s.length ∧ (wc last s = 0 → r = wrr s)
theorem uc_cases (m : Nat) (s : List UInt8) : uc m s = 0 ∨ uc m s ≠ 0 := by by_cases h : uc m s = 0 <;> simp [h]

set_option maxRecDepth 100000 in
set_option maxHeartbeats 4000000 in
theorem word_any {n₀ : Nat} (a b : Addr) (R : Nat) (last s : List UInt8) (hs : s.length ≤ 9223372036854775807) (hl : last.length ≤ 100) (w : World) (hS : Sent n₀ w a b) (hn₀ : n₀ ≤ w.heap.size) (hn₁ : n₀ ≤ R) (hR : Rd R s w) :
    Calls Tryd.prog 89 #[.pointer (some ⟨R, 0, none⟩), .string ⟨last.toArray⟩] w (WordPost R last s w) := by
  have HU1 := Lib.hid (upto_any a b R last.length s hs (by omega) w hS hn₀ hR)
  have HS := Lib.hid hS
  rcases uc_cases last.length s with h0 | h0
  · obtain ⟨a1, a2⟩ := uc_zero h0
    have e1 : un last.length s = vnum s := by unfold un; rw [if_pos h0]
    have e2 : ur last.length s = vrest s := by unfold ur; rw [if_pos h0]
    unfold UptoPost at HU1
    rw [h0, e1, e2, flt_zero] at HU1
    have hvr := vrest_le s
    have HU2 : Hid (∀ w1 : World, w.grownBy w1 (some R) → Rd R (vrest s) w1 → Calls Tryd.prog 74 #[.pointer (some ⟨R, 0, none⟩), .int .i64 (100 - vnum s : Nat)] w1 (UptoPost R (100 - vnum s) (vrest s) w1)) := Lib.hid (fun w1 hg hr => upto_any a b R (100 - vnum s) (vrest s) (by omega) (by omega) w1 (HS.out.below (grown_below hg hn₁ hn₀)) (Nat.le_trans hn₀ hg.size) hr)
    have hsub : (100 : Int) - (vnum s : Int) = ((100 - vnum s : Nat) : Int) := by omega
    rcases uc_cases (100 - vnum s) (vrest s) with h1 | h1
    · obtain ⟨b1, b2⟩ := uc_zero h1
      have e3 : un (100 - vnum s) (vrest s) = vnum (vrest s) := by unfold un; rw [if_pos h1]
      have e4 : ur (100 - vnum s) (vrest s) = vrest (vrest s) := by unfold ur; rw [if_pos h1]
      unfold UptoPost at HU2
      rw [h1, e3, e4, flt_zero] at HU2
      have hvr2 := vrest_le (vrest s)
      have hwc := wc_c hl h0 h1
      by_cases hm : (vrest (vrest s)).length < vnum (vrest s)
      · rw [if_pos hm] at hwc
        have HP : Hid (∀ w2, w.grownBy w2 (some R) → Rd R (vrest (vrest s)) w2 → WordPost R last s w (.returned (.tuple #[.string ⟨#[]⟩, .iface 56 (.agg #[.int .i64 21])])) w2) := Lib.hid (fun w2 hg hr => by
          refine ⟨by rw [wv_bad (by rw [hwc]; decide), hwc, flt_ne (by decide)], hg, _, hr, by omega, fun h => ?_⟩
          rw [hwc] at h; cases h)
        have hm' : ((vrest (vrest s)).length : Int) < vnum (vrest s) := by omega
        clear hR hS h0 h1 e1 e2 e3 e4 hvr hvr2 hwc b1 HS
        generalize vrest (vrest s) = r2 at *
        generalize vnum (vrest s) = n2 at *
        generalize vrest s = r at *
        obtain ⟨m, hmd⟩ : ∃ m, m = 100 - vnum s := ⟨_, rfl⟩
        rw [← hmd] at HU2 hsub
        generalize vnum s = n at *
        clear hmd
        go_enter Tryd.func89, Tryd.ntmps89
        go_wp2
        refine wp_scope_over 0 rfl ?_
        go_wp2_with fail
        refine HU1.out.mono ?_
        rintro e w1 ⟨rfl, hg1, hr1⟩
        go_wp2_with fail
        refine (HU2.out w1 hg1 hr1).mono ?_
        rintro e w2 ⟨rfl, hg2, hr2⟩
        have c2 := hr2.cell 0
        dsimp at c2
        go_wp2
        go_step3
        refine ⟨rfl, ?_⟩
        go_wp2
        rw [Exit.jump_ret]
        go_ret2
        exact HP.out _ (grown_trans hg1 hg2) hr2
      · rw [if_neg hm] at hwc
        have hwl := ww_length hwc
        have HP : Hid (∀ w2 : World, w.grownBy w2 (some R) → Rd R (vrest (vrest s)) w2 → WordPost R last s w (.returned (.tuple #[.string ⟨(last.take (vnum s) ++ (vrest (vrest s)).take (vnum (vrest s))).toArray⟩, .nilIface])) (w2.setCell ⟨R, 0, none⟩ (.string ⟨((vrest (vrest s)).drop (vnum (vrest s))).toArray⟩))) := Lib.hid (fun w2 hg hr => by
          refine ⟨by rw [wv_ok hwc, hwc, flt_zero]; rfl, grown_trans hg (grownBy_setCell' _ _ _), _, hr.set_ 0 _, by rw [List.length_drop]; omega, fun _ => rfl⟩)
        have hm' : (vnum (vrest s) : Int) ≤ (vrest (vrest s)).length := by omega
        have HTk := Lib.hid (fun (W : World) h => take_any R (vrest (vrest s)) (vnum (vrest s)) (by omega) (by omega) W h)
        have hext := (ext_mk last 0 (vnum s)).trans (mk_str (by rw [List.drop_zero]))
        have hadd : ∀ W : World, (Op.stringOp .add ⟨(last.take (vnum s)).toArray⟩ ⟨((vrest (vrest s)).take (vnum (vrest s))).toArray⟩).run Tryd.prog W = .ok (.string ⟨(last.take (vnum s) ++ (vrest (vrest s)).take (vnum (vrest s))).toArray⟩) W := fun W => by
          rw [run_string_add_sum W _ _ (by simp [ByteArray.size]; omega), app_mk]
        have a2' : (vnum s : Int) ≤ last.length := by omega
        clear hR hS h0 h1 e1 e2 e3 e4 hvr hvr2 hwc b1 HS hwl
        generalize (vrest (vrest s)).drop (vnum (vrest s)) = r3 at *
        generalize last.take (vnum s) ++ (vrest (vrest s)).take (vnum (vrest s)) = o at *
        generalize (vrest (vrest s)).take (vnum (vrest s)) = o2 at *
        generalize last.take (vnum s) = o1 at *
        generalize vrest (vrest s) = r2 at *
        generalize vnum (vrest s) = n2 at *
        generalize vrest s = r at *
        obtain ⟨m, hmd⟩ : ∃ m, m = 100 - vnum s := ⟨_, rfl⟩
        rw [← hmd] at HU2 hsub
        generalize vnum s = n at *
        clear hmd
        go_enter Tryd.func89, Tryd.ntmps89
        go_wp2
        refine wp_scope_over 0 rfl ?_
        go_wp2_with fail
        refine HU1.out.mono ?_
        rintro e w1 ⟨rfl, hg1, hr1⟩
        go_wp2_with fail
        refine (HU2.out w1 hg1 hr1).mono ?_
        rintro e w2 ⟨rfl, hg2, hr2⟩
        have c2 := hr2.cell 0
        dsimp at c2
        go_wp2
        have HR2 := Lib.hid hr2
        have HG := Lib.hid (grown_drew (grown_trans hg1 hg2))
        clear hr1 hr2 hg1 hg2 HU1 HU2
        go_region_with (go_at_call 94; refine (HTk.out _ ?_).mono ?_; exact HR2.out; rintro e w3 ⟨rfl, rfl⟩)
        all_goals
          go_wp2
          rw [Exit.jump_ret]
          go_ret2
          exact HP.out _ HG.out HR2.out.drew
    · have HP : Hid (∀ w2, w.grownBy w2 (some R) → Rd R (ur (100 - vnum s) (vrest s)) w2 → WordPost R last s w (.returned (.tuple #[.string ⟨#[]⟩, flt (uc (100 - vnum s) (vrest s))])) w2) := Lib.hid (fun w2 hg hr => by
        have e := wc_b hl h0 h1
        have hne : wc last s ≠ 0 := by rw [e]; exact h1
        refine ⟨by rw [wv_bad hne, e], hg, _, hr, ?_, fun h => absurd h hne⟩
        have : ur (100 - vnum s) (vrest s) = vrest s := by unfold ur; rw [if_neg h1]
        rw [this]; exact hvr)
      unfold UptoPost at HU2
      rw [flt_ne h1] at HU2 HP
      clear hR hS h0 e1 e2 hvr
      generalize ur (100 - vnum s) (vrest s) = r2 at *
      generalize uc (100 - vnum s) (vrest s) = c at *
      generalize un (100 - vnum s) (vrest s) = n2 at *
      generalize vrest s = r at *
      obtain ⟨m, hm⟩ : ∃ m, m = 100 - vnum s := ⟨_, rfl⟩
      rw [← hm] at HU2 hsub
      generalize vnum s = n at *
      clear hm
      go_enter Tryd.func89, Tryd.ntmps89
      go_wp2
      refine wp_scope_over 0 rfl ?_
      go_wp2_with fail
      refine HU1.out.mono ?_
      rintro e w1 ⟨rfl, hg1, hr1⟩
      go_wp2_with fail
      refine (HU2.out w1 hg1 hr1).mono ?_
      rintro e w2 ⟨rfl, hg2, hr2⟩
      go_wp2
      go_step3
      refine ⟨rfl, ?_⟩
      go_wp2
      rw [Exit.jump_ret]
      go_ret2
      exact HP.out _ (grown_trans hg1 hg2) hr2
  · have HP : Hid (∀ w1, w.grownBy w1 (some R) → Rd R (ur last.length s) w1 → WordPost R last s w (.returned (.tuple #[.string ⟨#[]⟩, flt (uc last.length s)])) w1) := Lib.hid (fun w1 hg hr => by
      have e := wc_a h0
      have hne : wc last s ≠ 0 := by rw [e]; exact h0
      refine ⟨by rw [wv_bad hne, e], hg, _, hr, ?_, fun h => absurd h hne⟩
      have : ur last.length s = s := by unfold ur; rw [if_neg h0]
      rw [this]; exact Nat.le_refl _)
    unfold UptoPost at HU1
    rw [flt_ne h0] at HU1 HP
    clear hR hS h0 HS
    generalize ur last.length s = r2 at *
    generalize uc last.length s = c at *
    generalize un last.length s = n2 at *
    go_enter Tryd.func89, Tryd.ntmps89
    go_wp2
    refine wp_scope_over 0 rfl ?_
    go_wp2_with fail
    refine HU1.out.mono ?_
    rintro e w1 ⟨rfl, hg1, hr1⟩
    go_wp2
    go_step3
    refine ⟨rfl, ?_⟩
    go_wp2
    rw [Exit.jump_ret]
    go_ret2
    exact HP.out _ hg1 hr1
end Go.Proofs.YthoegicchjadaaaDoor
