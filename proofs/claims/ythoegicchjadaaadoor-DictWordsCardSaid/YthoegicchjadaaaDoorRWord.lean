/- The document's word. -/
import Derived.Test.YthoegicchjadaaaDoorDDec
import Derived.Test.YthoegicchjadaaaDoorVRefG
import Derived.BigQuiet
import Derived.Deep.QuietTactic
namespace Go.Proofs.YthoegicchjadaaaDoor
open Go.RowKit

/-- What stands behind the word, where there is one. -/
def wrs (last s : List UInt8) : List UInt8 := if wc last s = 0 then wrr s else s
theorem wrs_ok {last s : List UInt8} (h : wc last s = 0) : wrs last s = wrr s := by unfold wrs; rw [if_pos h]
theorem wrs_bad {last s : List UInt8} (h : wc last s ≠ 0) : wrs last s = s := by unfold wrs; rw [if_neg h]
def RWordPost (last s : List UInt8) (w : World) (e : Ending) (w' : World) : Prop :=
  e = .returned (.tuple #[.string ⟨(wv last s).toArray⟩, .string ⟨(wrs last s).toArray⟩, .int .i64 (wc last s)]) ∧ Below w.heap.size w w'
theorem RWordPost.bad {last s : List UInt8} {w w' : World} {c : Int} (h : wc last s = c) (h0 : c ≠ 0) (hb : Below w.heap.size w w') : RWordPost last s w (.returned (.tuple #[.string ⟨#[]⟩, .string ⟨s.toArray⟩, .int .i64 c])) w' := by
  subst h
  exact ⟨by rw [wv_bad h0, wrs_bad h0], hb⟩
theorem wc_1 {last s : List UInt8} (h : vcode s ≠ 0) : wc last s = vcode s := by unfold wc; rw [if_pos h]
theorem wc_2 {last s : List UInt8} (h : vcode s = 0) (h2 : last.length < vnum s) : wc last s = 50 := by unfold wc; rw [if_neg (by simp [h]), if_pos h2]
theorem wc_3 {last s : List UInt8} (h : vcode s = 0) (h2 : ¬ last.length < vnum s) (h3 : vcode (vrest s) ≠ 0) : wc last s = vcode (vrest s) := by unfold wc; rw [if_neg (by simp [h]), if_neg h2, if_pos h3]
theorem wc_4 {last s : List UInt8} (h : vcode s = 0) (h2 : ¬ last.length < vnum s) (h3 : vcode (vrest s) = 0) (h4 : 100 < vnum s + vnum (vrest s)) : wc last s = 50 := by unfold wc; rw [if_neg (by simp [h]), if_neg h2, if_neg (by simp [h3]), if_pos h4]
theorem wc_5 {last s : List UInt8} (h : vcode s = 0) (h2 : ¬ last.length < vnum s) (h3 : vcode (vrest s) = 0) (h4 : ¬ 100 < vnum s + vnum (vrest s)) : wc last s = if (vrest (vrest s)).length < vnum (vrest s) then 21 else 0 := by unfold wc; rw [if_neg (by simp [h]), if_neg h2, if_neg (by simp [h3]), if_neg h4]

set_option maxRecDepth 100000 in
set_option maxHeartbeats 8000000 in
theorem rword_any (last s : List UInt8) (hs : s.length ≤ 9223372036854775807) (hl : last.length ≤ 100) (w : World) :
    Calls Tryd.prog 43 #[.string ⟨s.toArray⟩, .string ⟨last.toArray⟩] w (RWordPost last s w) := by
  have HG := Lib.hid (ref_get_any s hs w)
  have hnl := vnum_lt s
  unfold GetPost at HG
  by_cases h1 : vcode s = 0
  · rw [h1] at HG
    by_cases h2 : last.length < vnum s
    · have HP : Hid (∀ w', Below w.heap.size w w' → RWordPost last s w (.returned (.tuple #[.string ⟨#[]⟩, .string ⟨s.toArray⟩, .int .i64 50])) w') := Lib.hid (fun w' h => RWordPost.bad (wc_2 h1 h2) (by decide) h)
      have h2' : (last.length : Int) < vnum s := by omega
      have elw : IntKind.u64.wrap (last.length : Int) = last.length := by rw [u64_wrap]; omega
      clear h1
      generalize vnum s = n at *
      generalize s.drop (vsize s) = r at *
      go_enter Tryd.func43, Tryd.ntmps43
      go_wp2_with fail
      refine HG.out.mono ?_
      rintro e w1 ⟨rfl, hb1⟩
      go_wp2
      go_ret3
      exact HP.out _ hb1
    · have hvr := vrest_le s
      have HG2 := Lib.hid (fun W => ref_get_any (vrest s) (by omega) W)
      have hn2 := vnum_lt (vrest s)
      unfold GetPost at HG2
      have h2' : ¬ (last.length : Int) < vnum s := by omega
      have elw : IntKind.u64.wrap (last.length : Int) = last.length := by rw [u64_wrap]; omega
      have hvd : s.drop (vsize s) = vrest s := rfl
      rw [hvd] at HG
      clear hvd
      by_cases h3 : vcode (vrest s) = 0
      · rw [h3] at HG2
        have hvd : (vrest s).drop (vsize (vrest s)) = vrest (vrest s) := rfl
        rw [hvd] at HG2
        clear hvd
        by_cases h4 : 100 < vnum s + vnum (vrest s)
        · have HP : Hid (∀ w', Below w.heap.size w w' → RWordPost last s w (.returned (.tuple #[.string ⟨#[]⟩, .string ⟨s.toArray⟩, .int .i64 50])) w') := Lib.hid (fun w' h => RWordPost.bad (wc_4 h1 h2 h3 h4) (by decide) h)
          by_cases h5 : 100 < vnum (vrest s)
          · have h5' : (100 : Int) < vnum (vrest s) := by omega
            clear h1 h2 h3 h4 hvr
            generalize vrest (vrest s) = r2 at *
            generalize vnum (vrest s) = k at *
            generalize vrest s = r at *
            generalize vnum s = n at *
            go_enter Tryd.func43, Tryd.ntmps43
            go_wp2_with fail
            refine HG.out.mono ?_
            rintro e w1 ⟨rfl, hb1⟩
            go_wp2_with fail
            refine (HG2.out _).mono ?_
            rintro e w2 ⟨rfl, hb2⟩
            have hB := hb1.trans (hb2.mono hb1.size)
            go_wp2
            go_ret3
            exact HP.out _ hB
          · have h5' : ¬ (100 : Int) < vnum (vrest s) := by omega
            have h6' : (100 : Int) < (vnum s : Int) + vnum (vrest s) := by omega
            have ew : IntKind.u64.wrap ((vnum s : Int) + vnum (vrest s)) = (vnum s : Int) + vnum (vrest s) := by rw [u64_wrap]; omega
            clear h1 h2 h3 h4 hvr
            generalize vrest (vrest s) = r2 at *
            generalize vnum (vrest s) = k at *
            generalize vrest s = r at *
            generalize vnum s = n at *
            go_enter Tryd.func43, Tryd.ntmps43
            go_wp2_with fail
            refine HG.out.mono ?_
            rintro e w1 ⟨rfl, hb1⟩
            go_wp2_with fail
            refine (HG2.out _).mono ?_
            rintro e w2 ⟨rfl, hb2⟩
            have hB := hb1.trans (hb2.mono hb1.size)
            go_wp2
            go_ret3
            exact HP.out _ hB
        · have h5' : ¬ (100 : Int) < vnum (vrest s) := by omega
          have h6' : ¬ (100 : Int) < (vnum s : Int) + vnum (vrest s) := by omega
          have ew : IntKind.u64.wrap ((vnum s : Int) + vnum (vrest s)) = (vnum s : Int) + vnum (vrest s) := by rw [u64_wrap]; omega
          have hwc := wc_5 h1 h2 h3 h4
          have hvr2 := vrest_le (vrest s)
          have erw : IntKind.u64.wrap ((vrest (vrest s)).length : Int) = ((vrest (vrest s)).length : Int) := by rw [u64_wrap]; omega
          by_cases h7 : (vrest (vrest s)).length < vnum (vrest s)
          · rw [if_pos h7] at hwc
            have HP : Hid (∀ w', Below w.heap.size w w' → RWordPost last s w (.returned (.tuple #[.string ⟨#[]⟩, .string ⟨s.toArray⟩, .int .i64 21])) w') := Lib.hid (fun w' h => RWordPost.bad hwc (by decide) h)
            have h7' : ((vrest (vrest s)).length : Int) < vnum (vrest s) := by omega
            clear h1 h2 h3 h4 hvr hvr2 hwc
            generalize vrest (vrest s) = r2 at *
            generalize vnum (vrest s) = k at *
            generalize vrest s = r at *
            generalize vnum s = n at *
            go_enter Tryd.func43, Tryd.ntmps43
            go_wp2_with fail
            refine HG.out.mono ?_
            rintro e w1 ⟨rfl, hb1⟩
            go_wp2_with fail
            refine (HG2.out _).mono ?_
            rintro e w2 ⟨rfl, hb2⟩
            have hB := hb1.trans (hb2.mono hb1.size)
            go_wp2
            go_ret3
            exact HP.out _ hB
          · rw [if_neg h7] at hwc
            have HP : Hid (∀ w', Below w.heap.size w w' → RWordPost last s w (.returned (.tuple #[.string ⟨(last.take (vnum s) ++ (vrest (vrest s)).take (vnum (vrest s))).toArray⟩, .string ⟨((vrest (vrest s)).drop (vnum (vrest s))).toArray⟩, .int .i64 0])) w') := Lib.hid (fun w' h => ⟨by rw [wv_ok hwc, wrs_ok hwc, hwc]; rfl, h⟩)
            have h7' : ¬ ((vrest (vrest s)).length : Int) < vnum (vrest s) := by omega
            have h8 : (vnum (vrest s) : Int) ≤ ((vrest (vrest s)).length : Int) := by omega
            have h9 : (vnum s : Int) ≤ (last.length : Int) := by omega
            have hwl : (last.take (vnum s) ++ (vrest (vrest s)).take (vnum (vrest s))).length ≤ 100 := ww_length hwc
            have hx1 := (ext_mk last 0 (vnum s)).trans (mk_str (by rw [List.drop_zero]))
            have hx2 := (ext_mk (vrest (vrest s)) 0 (vnum (vrest s))).trans (mk_str (by rw [List.drop_zero]))
            have hx3 := (ext_mk (vrest (vrest s)) (vnum (vrest s)) (vrest (vrest s)).length).trans (mk_str (by rw [List.take_length]))
            have hadd : ∀ W : World, (Op.stringOp .add ⟨(last.take (vnum s)).toArray⟩ ⟨((vrest (vrest s)).take (vnum (vrest s))).toArray⟩).run Tryd.prog W = .ok (.string ⟨(last.take (vnum s) ++ (vrest (vrest s)).take (vnum (vrest s))).toArray⟩) W := fun W => by
              rw [run_string_add_sum W _ _ (by rw [List.length_append] at hwl; simp [ByteArray.size] at hwl ⊢; omega), app_mk]
            clear h1 h2 h3 h4 hvr hvr2 hwc hwl h7
            generalize (vrest (vrest s)).drop (vnum (vrest s)) = o3 at *
            generalize last.take (vnum s) ++ (vrest (vrest s)).take (vnum (vrest s)) = o at *
            generalize (vrest (vrest s)).take (vnum (vrest s)) = o2 at *
            generalize last.take (vnum s) = o1 at *
            generalize vrest (vrest s) = r2 at *
            generalize vnum (vrest s) = k at *
            generalize vrest s = r at *
            generalize vnum s = n at *
            go_enter Tryd.func43, Tryd.ntmps43
            go_wp2_with fail
            refine HG.out.mono ?_
            rintro e w1 ⟨rfl, hb1⟩
            go_wp2_with fail
            refine (HG2.out _).mono ?_
            rintro e w2 ⟨rfl, hb2⟩
            have hB := hb1.trans (hb2.mono hb1.size)
            go_wp2
            go_quiet (fail)
            go_wp2
            go_ret3
            exact HP.out _ (below_drewN hB _)
      · have HP : Hid (∀ w', Below w.heap.size w w' → RWordPost last s w (.returned (.tuple #[.string ⟨#[]⟩, .string ⟨s.toArray⟩, .int .i64 (vcode (vrest s))])) w') := Lib.hid (fun w' h => RWordPost.bad (wc_3 h1 h2 h3) h3 h)
        have h3' : (vcode (vrest s) == 0) = false := by simpa using h3
        clear h1 h2 hvr
        generalize vcode (vrest s) = c at *
        generalize vnum (vrest s) = k at *
        generalize (vrest s).drop (vsize (vrest s)) = r2 at *
        generalize vrest s = r at *
        generalize vnum s = n at *
        go_enter Tryd.func43, Tryd.ntmps43
        go_wp2_with fail
        refine HG.out.mono ?_
        rintro e w1 ⟨rfl, hb1⟩
        go_wp2_with fail
        refine (HG2.out _).mono ?_
        rintro e w2 ⟨rfl, hb2⟩
        have hB := hb1.trans (hb2.mono hb1.size)
        go_wp2
        go_ret3
        exact HP.out _ hB
  · have HP : Hid (∀ w', Below w.heap.size w w' → RWordPost last s w (.returned (.tuple #[.string ⟨#[]⟩, .string ⟨s.toArray⟩, .int .i64 (vcode s)])) w') := Lib.hid (fun w' h => RWordPost.bad (wc_1 h1) h1 h)
    have h1' : (vcode s == 0) = false := by simpa using h1
    generalize vcode s = c at *
    generalize vnum s = n at *
    generalize s.drop (vsize s) = r at *
    go_enter Tryd.func43, Tryd.ntmps43
    go_wp2_with fail
    refine HG.out.mono ?_
    rintro e w1 ⟨rfl, hb1⟩
    go_wp2
    go_ret3
    exact HP.out _ hb1
end Go.Proofs.YthoegicchjadaaaDoor
