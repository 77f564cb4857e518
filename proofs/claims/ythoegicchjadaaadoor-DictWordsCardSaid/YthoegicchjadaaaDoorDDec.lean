/- (*reader).dictionary, Decode. -/
import Derived.Test.YthoegicchjadaaaDoorDList
import Derived.Test.YthoegicchjadaaaDoorDEnc
import Derived.Test.YthoegicchjadaaaDoorDAs
namespace Go.Proofs.YthoegicchjadaaaDoor
open Go.RowKit

theorem dcode_eq (s : List UInt8) : dcode s = if lc s ≠ 0 then lc s else if dok s then 0 else 50 := by
  have hu : uc 1000 s = if vcode s ≠ 0 then vcode s else if 1000 < vnum s then 50 else 0 := rfl
  unfold dcode lc
  by_cases h1 : vcode s = 0
  · have g1 : ¬ (vcode s ≠ 0) := fun h => h h1
    rw [if_neg g1] at hu ⊢
    by_cases h2 : 1000 < vnum s
    · rw [if_pos h2] at hu ⊢
      have g : (if uc 1000 s ≠ 0 then uc 1000 s else rcodes (vnum s) [] (vrest s)) = 50 := by rw [hu]; rfl
      rw [g]; rfl
    · rw [if_neg h2] at hu ⊢
      have g : (if uc 1000 s ≠ 0 then uc 1000 s else rcodes (vnum s) [] (vrest s)) = rcodes (vnum s) [] (vrest s) := by rw [hu]; rfl
      rw [g]
  · rw [if_pos h1] at hu ⊢
    have g : (if uc 1000 s ≠ 0 then uc 1000 s else rcodes (vnum s) [] (vrest s)) = vcode s := by rw [hu, if_pos h1]
    rw [g, if_pos h1]
theorem dcode_lc {s : List UInt8} (h : lc s ≠ 0) : dcode s = lc s := by rw [dcode_eq, if_pos h]
theorem dcode_ok {s : List UInt8} (h : lc s = 0) (hd : dok s) : dcode s = 0 := by rw [dcode_eq, if_neg (by simp [h]), if_pos hd]
theorem dcode_no {s : List UInt8} (h : lc s = 0) (hd : ¬ dok s) : dcode s = 50 := by rw [dcode_eq, if_neg (by simp [h]), if_neg hd]

/-- What dictionary answers, and leaves. -/
def DictPost (R : Nat) (s : List UInt8) (w : World) (e : Ending) (w' : World) : Prop :=
  ∃ v, e = .returned (.tuple #[v, flt (dcode s)]) ∧ w.grownBy w' (some R) ∧ (dcode s = 0 → OwnS w.heap.size w' v (dlist s) ∧ Rd R (drest s) w')

set_option maxRecDepth 100000 in
set_option maxHeartbeats 8000000 in
theorem dictionary_any {n₀ : Nat} (a b : Addr) (R : Nat) (s : List UInt8) (hs : s.length ≤ 9223372036854775807) (w : World) (hS : Sent n₀ w a b) (hn₀ : n₀ ≤ w.heap.size) (hn₁ : n₀ ≤ R) (hR : Rd R s w) :
    Calls Tryd.prog 40 #[.pointer (some ⟨R, 0, none⟩)] w (DictPost R s w) := by
  have c0 := hR.cell 0
  dsimp at c0
  have HLi := Lib.hid (list_any a b R s hs w hS hn₀ hn₁ hR)
  have hRl := hR.lt
  by_cases hl : lc s = 0
  · unfold ListPost at HLi
    rw [hl, flt_zero] at HLi
    have hrl := rlist_length (vnum s) [] (vrest s)
    have hvn : vnum s ≤ 1000 := by
      rcases lc_cases s with ⟨h, e, _⟩ | ⟨_, _, _, _, h⟩
      · rw [e] at hl; exact absurd hl h
      · exact h
    have hsf := (drest_suffix s).length_le
    have HDO : Hid (dok s ↔ RightL (rlist (vnum s) [] (vrest s)) ∧ encD (rlist (vnum s) [] (vrest s)) = s.take (s.length - (rrests (vnum s) [] (vrest s)).length)) := Lib.hid Iff.rfl
    have HDL : Hid (dcode s = 0 → dlist s = rlist (vnum s) [] (vrest s) ∧ drest s = rrests (vnum s) [] (vrest s)) := Lib.hid (fun h => ⟨by unfold dlist; rw [if_pos h], by unfold drest; rw [if_pos h]⟩)
    have hext := (ext_mk s 0 (s.length - (rrests (vnum s) [] (vrest s)).length)).trans (mk_str (List.drop_zero ..))
    have HOK := Lib.hid (fun h => dcode_ok (s := s) hl h)
    have HNO := Lib.hid (fun h => dcode_no (s := s) hl h)
    clear hS hR hl
    generalize rlist (vnum s) [] (vrest s) = l at *
    generalize rrests (vnum s) [] (vrest s) = r at *
    obtain ⟨k, hk⟩ : ∃ k, k = s.length - r.length := ⟨_, rfl⟩
    rw [← hk] at HDO hext
    have hsub : (s.length : Int) - (r.length : Int) = (k : Int) := by omega
    have hk' : (k : Int) ≤ s.length := by omega
    have hk0 : k ≤ s.length := by omega
    clear hk hsf
    go_enter Tryd.func40, Tryd.ntmps40
    go_wp2_with fail
    refine HLi.out.mono ?_
    rintro e w1 ⟨v, rfl, hg, ho⟩
    obtain ⟨hown, hr1⟩ := ho trivial
    obtain ⟨hSt, x, cap, rfl⟩ := strs_own hown
    have HE := Lib.hid (encode_any x l.length cap l rfl (by omega) w1 hSt)
    have HOW := Lib.hid hown
    have HR1 := Lib.hid hr1
    have HG := Lib.hid hg
    clear hown hr1 hg hSt ho
    by_cases hri : RightL l
    · have e1 : encCode l = 0 := by unfold encCode; rw [if_pos hri]
      have e2 : encText l = encD l := by unfold encText; rw [if_pos hri]
      rw [e1, e2] at HE
      clear e1 e2
      by_cases hb : encD l = s.take k
      · have hd : dok s := HDO.out.2 ⟨hri, hb⟩
        have HP : Hid (∀ w2, Below w1.heap.size w1 w2 → DictPost R s w (.returned (.tuple #[.slice x l.length cap, .nilIface])) w2) := Lib.hid (fun w2 h => by
          have hc := HOK.out hd
          obtain ⟨d1, d2⟩ := HDL.out hc
          refine ⟨_, by rw [hc]; rfl, grown_below' HG.out h HG.out.size, fun _ => ?_⟩
          rw [d1, d2]
          exact ⟨own_below HOW.out h, HR1.out.under h⟩)
        have hbe : (encD l == s.take k) = true := by simpa using hb
        have HR2 : Hid (∀ w2, Below w1.heap.size w1 w2 → w2.cell? ⟨R, 0, none⟩ = some (.string ⟨r.toArray⟩)) := Lib.hid (fun w2 h => (HR1.out.under h).cell 0)
        clear hri hb hd
        generalize encD l = o at *
        generalize s.take k = q at *
        generalize l.length = n at *
        go_wp2_with fail
        refine HE.out.mono ?_
        rintro e w2 ⟨rfl, hb2⟩
        have c2 := HR2.out w2 hb2
        go_wp2
        go_ret2
        exact HP.out _ hb2
      · have hd : ¬ dok s := fun h => hb (HDO.out.1 h).2
        have HP : Hid (∀ w2, Below w1.heap.size w1 w2 → DictPost R s w (.returned (.tuple #[.slice none 0 0, .iface 56 (.agg #[.int .i64 50])])) w2) := Lib.hid (fun w2 h => by
          have hc := HNO.out hd
          refine ⟨_, by rw [hc]; rfl, grown_below' HG.out h HG.out.size, fun h0 => ?_⟩
          rw [hc] at h0; cases h0)
        have hbe : (encD l == s.take k) = false := by simpa using hb
        have HR2 : Hid (∀ w2, Below w1.heap.size w1 w2 → w2.cell? ⟨R, 0, none⟩ = some (.string ⟨r.toArray⟩)) := Lib.hid (fun w2 h => (HR1.out.under h).cell 0)
        clear hri hb hd
        generalize encD l = o at *
        generalize s.take k = q at *
        generalize l.length = n at *
        go_wp2_with fail
        refine HE.out.mono ?_
        rintro e w2 ⟨rfl, hb2⟩
        have c2 := HR2.out w2 hb2
        go_wp2
        go_ret2
        exact HP.out _ hb2
    · have e1 : encCode l = 50 := by unfold encCode; rw [if_neg hri]
      have hd : ¬ dok s := fun h => hri (HDO.out.1 h).1
      have HP : Hid (∀ w2, Below w1.heap.size w1 w2 → DictPost R s w (.returned (.tuple #[.slice none 0 0, .iface 56 (.agg #[.int .i64 50])])) w2) := Lib.hid (fun w2 h => by
        have hc := HNO.out hd
        refine ⟨_, by rw [hc]; rfl, grown_below' HG.out h HG.out.size, fun h0 => ?_⟩
        rw [hc] at h0; cases h0)
      rw [e1] at HE
      clear hri hd e1
      generalize encText l = o at *
      generalize l.length = n at *
      go_wp2_with fail
      refine HE.out.mono ?_
      rintro e w2 ⟨rfl, hb2⟩
      go_wp2
      go_ret2
      exact HP.out _ hb2
  · have HP : Hid (∀ w1, w.grownBy w1 (some R) → DictPost R s w (.returned (.tuple #[.slice none 0 0, .iface 56 (.agg #[.int .i64 (lc s)])])) w1) := Lib.hid (fun w1 hg => by
      have hc := dcode_lc hl
      refine ⟨_, by rw [hc, flt_ne hl], hg, fun h0 => ?_⟩
      rw [hc] at h0; exact absurd h0 hl)
    unfold ListPost at HLi
    rw [flt_ne hl] at HLi
    clear hS hR hl
    generalize lc s = c at *
    go_enter Tryd.func40, Tryd.ntmps40
    go_wp2_with fail
    refine HLi.out.mono ?_
    rintro e w1 ⟨v, rfl, hg, _⟩
    go_wp2
    go_ret2
    exact HP.out _ hg

/-- The handle of error's type lies as start-up laid it. -/
structure Ety (n₀ : Nat) (w : World) : Prop where
  lt : 0 < n₀
  cell : w.cell? ⟨0, 0, none⟩ = some (.iface 115 (.agg #[.pointer (some ⟨3, 62, none⟩)]))
theorem Ety.below {n₀ : Nat} {w w' : World} (h : Ety n₀ w) (hb : Below n₀ w w') : Ety n₀ w' := ⟨h.lt, (hb.cell (p := ⟨0, 0, none⟩) h.lt).trans h.cell⟩

/-- What Decode answers. -/
def DecPost (s : List UInt8) (w : World) (e : Ending) (w' : World) : Prop := Below w.heap.size w w' ∧
  ∃ v, e = .returned (.tuple #[v, .string ⟨(drest s).toArray⟩, .int .i64 (dcode s)]) ∧ Lst w'.heap.size w' v (dlist s)

set_option maxRecDepth 100000 in
set_option maxHeartbeats 8000000 in
theorem decode_any {n₀ : Nat} (a b : Addr) (s : List UInt8) (hs : s.length ≤ 9223372036854775807) (w : World) (hS : Sent n₀ w a b) (hE : Ety n₀ w) (hn₀ : n₀ ≤ w.heap.size) :
    Calls Tryd.prog 25 #[.string ⟨s.toArray⟩] w (DecPost s w) := by
  have hb0 : Below w.heap.size w ((w.alloc (.cells #[.int .i64 0] 56)).alloc (.cells #[.string ⟨s.toArray⟩] 60)) := ((Below.refl _ w).alloc (Nat.le_refl _) _).alloc (by simp) _
  have bT := (Blk.new w 56 #[.int .i64 0]).alloc (.cells #[.string ⟨s.toArray⟩] 60)
  have bR := Blk.new (w.alloc (.cells #[.int .i64 0] 56)) 60 #[.string ⟨s.toArray⟩]
  simp only [World.size_alloc] at bR
  have hsz : ((w.alloc (.cells #[.int .i64 0] 56)).alloc (.cells #[.string ⟨s.toArray⟩] 60)).heap.size = w.heap.size + 2 := by simp
  have HD := Lib.hid (dictionary_any a b (w.heap.size + 1) s hs _ (hS.below (hb0.mono hn₀)) (by rw [hsz]; omega) (by omega) bR)
  have HE := Lib.hid (fun w1 (h : Below n₀ w w1) => hE.below h)
  have HB0 := Lib.hid hb0
  have HT := Lib.hid bT
  have HSZ := Lib.hid hsz
  clear hb0 bR hsz bT hS hE
  by_cases hc : dcode s = 0
  · unfold DictPost at HD
    rw [hc, flt_zero] at HD
    have HC := Lib.hid hc
    clear hc
    go_enter Tryd.func25, Tryd.ntmps25
    go_wp2_with fail
    refine HD.out.mono ?_
    rintro e w1 ⟨v, rfl, hg, ho⟩
    obtain ⟨hown, hR1⟩ := ho trivial
    have c1 := hR1.cell 0
    dsimp at c1
    have hB1 : Below w.heap.size w w1 := HB0.out.trans (grown_below hg (by omega) (by rw [HSZ.out]; omega))
    have HP : Hid (∀ w', Below w1.heap.size w1 w' → DecPost s w (.returned (.tuple #[v, .string ⟨(drest s).toArray⟩, .int .i64 0])) w') := Lib.hid (fun w' h => ⟨hB1.trans (h.mono hB1.size), v, by rw [HC.out], lst_own (own_below hown h)⟩)
    obtain ⟨x, cap, rfl⟩ := (strs_own hown).2
    clear hown hR1 hg ho hB1
    generalize drest s = r at *
    generalize (dlist s).length = n at *
    go_wp2_with (go_at_call 41; refine (as_nil _ _).mono ?_; rintro e w' ⟨rfl, rfl⟩)
    go_region
    all_goals
      go_wp2
      go_ret3
      have := HP.out _ (Below.refl _ _).drew
      exact this
  · have HP : Hid (∀ w', Below w.heap.size w w' → DecPost s w (.returned (.tuple #[.slice none 0 0, .string ⟨s.toArray⟩, .int .i64 (dcode s)])) w') := Lib.hid (fun w' h => by
      have h1 : drest s = s := by unfold drest; rw [if_neg hc]
      have h2 : dlist s = [] := by unfold dlist; rw [if_neg hc]
      refine ⟨h, _, by rw [h1], ?_⟩
      rw [h2]
      exact Lst.none)
    unfold DictPost at HD
    rw [flt_ne hc] at HD
    clear hc
    generalize dcode s = c at *
    go_enter Tryd.func25, Tryd.ntmps25
    go_wp2_with fail
    refine HD.out.mono ?_
    rintro e w1 ⟨v, rfl, hg, _⟩
    have hB1 : Below w.heap.size w w1 := HB0.out.trans (grown_below hg (by omega) (by rw [HSZ.out]; omega))
    have hT1 : Blk w1 w.heap.size 56 #[.int .i64 0] := (hg.block _ HT.out.lt (by simp)).trans HT.out
    have HA := Lib.hid (as_hit w.heap.size c 0 w1 (HE.out w1 (hB1.mono hn₀)).cell hT1)
    have HB1 := Lib.hid hB1
    clear hg hT1 hB1
    go_wp2_with (go_at_call 41; refine HA.out.mono ?_; rintro e w2 ⟨rfl, hT2, hg2⟩)
    have c2 := hT2.cell 0
    dsimp at c2
    have HB2 := Lib.hid (HB1.out.trans (grown_below hg2 (Nat.le_refl _) HB1.out.size))
    clear hT2 hg2
    go_region
    all_goals
      go_wp2
      go_ret3
      have := HP.out _ HB2.out.drew
      exact this
end Go.Proofs.YthoegicchjadaaaDoor
