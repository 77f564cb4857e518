/- (*reader).list, packed.Unpack, packed.At. -/
import Derived.Test.YtmimepjokkcbeaaDoorPHead
import Derived.Test.YtmimepjokkcbeaaDoorPNums
import Derived.Test.YtmimepjokkcbeaaDoorPWidth
namespace Go.Proofs.YtmimepjokkcbeaaDoor
open Go.RowKit

/-- The list that bytes begin with, as numbers with a sign. -/
def plistZ (s : List UInt8) : List Int := (plist s).map fun (n : Nat) => (n : Int)
theorem plistZ_length (s : List UInt8) : (plistZ s).length = vnum s := by unfold plistZ; rw [List.length_map, plist_length]
theorem plistZ_get (s : List UInt8) (j : Nat) : (plistZ s)[j]?.getD 0 = ((plist s).getD j 0 : Nat) := by
  unfold plistZ
  rw [List.getD_eq_getElem?_getD, List.getElem?_map]
  cases (plist s)[j]? <;> rfl
theorem nats_plistZ (s : List UInt8) : nats (plistZ s) = plist s := by
  unfold nats plistZ
  rw [List.map_map]
  have : (Int.toNat ∘ fun (n : Nat) => (n : Int)) = id := by funext n; simp
  rw [this, List.map_id]
theorem okz_plistZ {s : List UInt8} (h1 : vnum s ≤ 1000) (h2 : pw s ≤ 16) : Okz (plistZ s) := ⟨by rw [plistZ_length]; exact h1, fun z hz => by
  unfold plistZ at hz
  obtain ⟨n, hn, rfl⟩ := List.mem_map.1 hz
  have := plist_small h2 n hn
  omega⟩
theorem in64_ok {zs : List Int} (h : Okz zs) : In64 zs := fun j => by
  by_cases hj : j < zs.length
  · rw [List.getElem?_eq_getElem hj]
    have := h.2 _ (List.getElem_mem hj)
    simp only [Option.getD_some]
    omega
  · rw [List.getElem?_eq_none (by omega)]; decide

/-- What a call of list leaves. -/
def ListPost (B : Nat) (s : List UInt8) (w : World) (e : Ending) (w' : World) : Prop :=
  w.grownBy w' (some B) ∧ ((pcode s = 0 ∧ ∃ g, e = .returned (.tuple #[.slice (some ⟨g, 0, none⟩) (vnum s) (vnum s), .int .i64 0]) ∧ Ints w'.heap.size w' (.slice (some ⟨g, 0, none⟩) (vnum s) (vnum s)) (plistZ s) ∧
      w'.cell? ⟨B, 0, none⟩ = some (.string ⟨(prest s).toArray⟩)) ∨
    (pcode s ≠ 0 ∧ e = .returned (.tuple #[.slice none 0 0, .int .i64 (pcode s)])))
theorem ListPost.bad {B : Nat} {s : List UInt8} {w w' : World} {c : Int} (h : pcode s = c) (h0 : c ≠ 0) (hg : w.grownBy w' (some B)) : ListPost B s w (.returned (.tuple #[.slice none 0 0, .int .i64 c])) w' :=
  ⟨hg, .inr ⟨by rw [h]; exact h0, by rw [h]⟩⟩
theorem grown_then {a b c : World} {R : Nat} (h : a.grownBy b (some R)) (k : Below b.heap.size b c) : a.grownBy c (some R) :=
  ⟨k.os.trans h.os, k.tape.trans h.tape, k.output.trans h.output, Nat.le_trans h.size k.size, fun i hi hne => (k.block i (Nat.lt_of_lt_of_le hi h.size)).trans (h.block i hi hne)⟩

set_option maxRecDepth 100000 in
set_option maxHeartbeats 2000000 in
theorem plist_any {n₀ : Nat} (a b : Addr) (B : Nat) (s : List UInt8) (hs : s.length ≤ 1000000) (w : World) (hS : Sent n₀ w a b) (hn₀ : n₀ ≤ w.heap.size) (bB : Blk w B 50 #[.string ⟨s.toArray⟩, .int .i64 0, .int .i64 0]) :
    Calls Tryd.prog 27 #[.pointer (some ⟨B, 0, none⟩)] w (ListPost B s w) := by
  have hBlt := bB.lt
  have HHd := Lib.hid (head_any a b B s hs w hS hn₀ bB)
  go_enter Tryd.func27, Tryd.ntmps27
  go_wp2
  refine wp_scope_over 0 rfl ?_
  go_wp2_with fail
  refine HHd.out.mono ?_
  rintro e w1 ⟨rfl, hg1, hok⟩
  by_cases hh : hcode s = 0
  · obtain ⟨hpc, hvc, hn, hend, hpw⟩ := pcode_body hh
    have bB1 := hok hh
    rw [hh]
    clear hok hh HHd bB
    have d0 := bB1.cell 0; have d1 := bB1.cell 1; have d2 := bB1.cell 2
    dsimp at d0 d1 d2
    have HSz := Lib.hid (size_nat (vnum s) (pw s) (by omega) (by omega))
    go_wp2_with fail
    go_cut [5] from 14 to 22 (fun s5 wx => s5 = .int .i64 (szOf (vnum s) (pw s) : Nat) ∧ Below w1.heap.size w1 wx)
    case first =>
      go_region_with (go_at_call 20; refine (HSz.out _).mono ?_; rintro e w' ⟨rfl, hb⟩)
      all_goals (go_wp2_with fail; go_meet; exact ⟨rfl, ((Below.refl _ w1).drew).trans hb⟩)
    case rest =>
      obtain ⟨rfl, hb2⟩ := hcut
      have hg2 := grown_then hg1 hb2
      have bB2 := bB1.under hb2
      have hwc := hg2.size
      clear bB1 hg1 hb2 d0 d1 d2
      have d0 := bB2.cell 0; have d1 := bB2.cell 1; have d2 := bB2.cell 2
      dsimp at d0 d1 d2
      have hsz2 : szOf (vnum s) (pw s) ≤ 2001 := by
        have h2 : vnum s * pw s ≤ 1000 * 16 := Nat.mul_le_mul hn hpw
        unfold szOf; omega
      by_cases hshort : (pt s).length < szOf (vnum s) (pw s)
      · have HP : Hid (ListPost B s w (.returned (.tuple #[.slice none 0 0, .int .i64 21])) wc) := Lib.hid (.bad (by rw [hpc, if_pos hshort]) (by decide) hg2)
        have hshort' : ((pt s).length : Int) < (szOf (vnum s) (pw s) : Nat) := by omega
        go_wp2
        go_step3
        refine ⟨rfl, ?_⟩
        go_wp2
        try rw [Exit.jump_ret]
        go_ret2
        exact HP.out
      · have hlong : ¬ ((pt s).length : Int) < (szOf (vnum s) (pw s) : Nat) := by omega
        have hptl : (pt s).length ≤ 1000000 := by unfold pt; simp; omega
        have HNm := Lib.hid (numbers_any B (vnum s) (pw s) (pt s) hptl hn hpw (by omega) wc bB2)
        have hbl := behindOf_lt (pw s) (vnum s) (pt s)
        have hpk : pok s ↔ behindOf (pw s) (vnum s) (pt s) = 0 ∧ wdl (plist s) = pw s := Iff.rfl
        have hOk := okz_plistZ hn hpw
        have hwl : wdl (plist s) ≤ 16 := wdl_le (k := 16) (plist_small hpw)
        generalize behindOf (pw s) (vnum s) (pt s) = bh at *
        go_wp2_with fail
        refine HNm.out.mono ?_
        rintro e w3 ⟨g, rfl, hgw, hgl, hcells, hb3⟩
        have hg3 := grown_then hg2 hb3
        have bB3 := bB2.under hb3
        clear bB2 hg2 HNm d0 d1 d2
        have d0 := bB3.cell 0; have d1 := bB3.cell 1; have d2 := bB3.cell 2
        dsimp at d0 d1 d2
        have hI3 : Ints w3.heap.size w3 (.slice (some ⟨g, 0, none⟩) (vnum s) (vnum s)) (plistZ s) := .inr ⟨g, 0, vnum s, by rw [plistZ_length], hgl, fun j hj => by
          rw [plistZ_length] at hj
          rw [Nat.zero_add, hcells j hj, plistZ_get]; rfl⟩
        have HWd := Lib.hid (widthOf_any (some ⟨g, 0, none⟩) (vnum s) (vnum s) (plistZ s) (plistZ_length s) (by omega) (in64_ok hOk) w3 hI3)
        unfold WidthPost at HWd
        rw [wval_ok hOk, wcode_ok hOk, nats_plistZ] at HWd
        go_wp2_with fail
        refine HWd.out.mono ?_
        rintro e w4 ⟨rfl, hb4⟩
        have hg4 := grown_then hg3 hb4
        have bB4 := bB3.under hb4
        have hI4 := (hI3.below hb4).more hb4.size
        clear bB3 hg3 HWd d0 d1 d2 hI3 hcells
        have d0 := bB4.cell 0; have d1 := bB4.cell 1; have d2 := bB4.cell 2
        dsimp at d0 d1 d2
        by_cases hb0 : bh = 0
        · by_cases hwd : wdl (plist s) = pw s
          · have hp0 : pcode s = 0 := by rw [hpc, if_neg hshort, if_pos (hpk.2 ⟨hb0, hwd⟩)]
            rw [hwd]
            subst hb0
            have HSk := Lib.hid (fun w' h => pskip_any B (pt s) (.int .i64 (vnum s)) (.int .i64 (pw s)) (szOf (vnum s) (pw s)) (by omega) hptl w' h)
            have HG : Hid (∀ w', w.grownBy w' (some B) → Ints w'.heap.size w' (.slice (some ⟨g, 0, none⟩) (vnum s) (vnum s)) (plistZ s) → w'.cell? ⟨B, 0, none⟩ = some (.string ⟨((pt s).drop (szOf (vnum s) (pw s))).toArray⟩) → ListPost B s w (.returned (.tuple #[.slice (some ⟨g, 0, none⟩) (vnum s) (vnum s), .int .i64 0])) w') := Lib.hid (fun w' h1 h2 h3 => ⟨h1, .inl ⟨hp0, g, rfl, h2, h3⟩⟩)
            have hgB : g ≠ B := by omega
            clear hpc hpk hwl hp0 hwd hOk
            go_wp2_with (go_at_call 36; refine (HSk.out _ bB4).mono ?_; rintro e w' ⟨⟨v, rfl⟩, rfl⟩)
            try rw [Exit.jump_ret]
            go_ret2
            refine HG.out _ ⟨hg4.os, hg4.tape, hg4.output, by simpa [World.setCell] using hg4.size, fun i hi hne => (Below.heap_setCell _ _ _ i (fun e => hne (by rw [e]))).trans (hg4.block i hi hne)⟩ ?_ ?_
            · refine .inr ⟨g, 0, vnum s, by rw [plistZ_length], by simpa [World.setCell] using Nat.lt_of_lt_of_le hgl hb4.size, fun j hj => ?_⟩
              obtain ⟨b', o', e', _, hc'⟩ := hI4.at_ (j := j) (by rwa [plistZ_length] at hj)
              cases e'
              rw [World.cell?_setCell_other _ _ _ _ (fun e => hgB (congrArg Addr.block e).symm)]
              exact hc'
            · exact (bB4.set_ 0 (.string ⟨((pt s).drop (szOf (vnum s) (pw s))).toArray⟩)).cell 0
          · have hne : ((wdl (plist s) : Int) != (pw s : Int)) = true := by simp; omega
            have HP : Hid (ListPost B s w (.returned (.tuple #[.slice none 0 0, .int .i64 40])) w4) := Lib.hid (.bad (by rw [hpc, if_neg hshort, if_neg (fun h => hwd (hpk.1 h).2)]) (by decide) hg4)
            subst hb0
            clear hpc hpk hwd hOk
            generalize wdl (plist s) = q at *
            go_wp2
            go_step3
            refine ⟨rfl, ?_⟩
            go_wp2
            try rw [Exit.jump_ret]
            go_ret2
            exact HP.out
        · have hne : ((bh : Int) != 0) = true := by simp; omega
          have HP : Hid (ListPost B s w (.returned (.tuple #[.slice none 0 0, .int .i64 40])) w4) := Lib.hid (.bad (by rw [hpc, if_neg hshort, if_neg (fun h => hb0 (hpk.1 h).1)]) (by decide) hg4)
          clear hpc hpk hOk
          generalize wdl (plist s) = q at *
          go_wp2
          go_step3
          refine ⟨rfl, ?_⟩
          go_wp2
          try rw [Exit.jump_ret]
          go_ret2
          exact HP.out
  · have HP : Hid (ListPost B s w (.returned (.tuple #[.slice none 0 0, .int .i64 (hcode s)])) w1) := Lib.hid (.bad (pcode_head hh) hh hg1)
    have hne : (hcode s != 0) = true := by simpa using hh
    clear hh hok HHd
    generalize hcode s = cd at *
    go_wp2
    go_step3
    refine ⟨rfl, ?_⟩
    go_wp2
    try rw [Exit.jump_ret]
    go_ret2
    exact HP.out

/-- What Unpack answers. -/
def UnpackPost (s : List UInt8) (w : World) (e : Ending) (w' : World) : Prop :=
  Below w.heap.size w w' ∧ ((pcode s = 0 ∧ ∃ g, e = .returned (.tuple #[.slice (some ⟨g, 0, none⟩) (vnum s) (vnum s), .string ⟨(prest s).toArray⟩, .int .i64 0]) ∧ Ints w'.heap.size w' (.slice (some ⟨g, 0, none⟩) (vnum s) (vnum s)) (plistZ s)) ∨
    (pcode s ≠ 0 ∧ e = .returned (.tuple #[.slice none 0 0, .string ⟨s.toArray⟩, .int .i64 (pcode s)])))

set_option maxRecDepth 100000 in
set_option maxHeartbeats 2000000 in
theorem unpack_any {n₀ : Nat} (a b : Addr) (s : List UInt8) (hs : s.length ≤ 1000000) (w : World) (hS : Sent n₀ w a b) (hn₀ : n₀ ≤ w.heap.size) : Calls Tryd.prog 15 #[.string ⟨s.toArray⟩] w (UnpackPost s w) := by
  have hb0 := Blk.new w 50 #[.string ⟨s.toArray⟩, .int .i64 0, .int .i64 0]
  have hB0 : Below w.heap.size w (w.alloc (.cells #[.string ⟨s.toArray⟩, .int .i64 0, .int .i64 0] 50)) := (Below.refl _ w).alloc (Nat.le_refl _) _
  have hS0 := hS.below (hB0.mono hn₀)
  have HLs := Lib.hid (plist_any a b w.heap.size s hs _ hS0 (by simp; omega) hb0)
  have HB0 := Lib.hid hB0
  clear hb0 hB0 hS0
  go_enter Tryd.func15, Tryd.ntmps15
  go_wp2_with fail
  refine HLs.out.mono ?_
  rintro e w1 ⟨hg1, ⟨hc, g, rfl, hI, hc1⟩ | ⟨hc, rfl⟩⟩
  · have hB1 : Below w.heap.size w w1 := HB0.out.trans ((Below.refl _ _).grown hg1 (by simp) (fun k e => by cases e; exact Nat.le_refl _))
    have HG : Hid (∀ w', Below w.heap.size w w' → Ints w'.heap.size w' (.slice (some ⟨g, 0, none⟩) (vnum s) (vnum s)) (plistZ s) → UnpackPost s w (.returned (.tuple #[.slice (some ⟨g, 0, none⟩) (vnum s) (vnum s), .string ⟨(prest s).toArray⟩, .int .i64 0])) w') := Lib.hid (fun w' h1 h2 => ⟨h1, .inl ⟨hc, g, rfl, h2⟩⟩)
    have HGG := Lib.hid (HG.out _ hB1.drew (show Ints w1.drew.heap.size w1.drew _ _ from hI))
    clear hc hI HG
    generalize prest s = q at *
    go_wp2
    go_region
    all_goals
      go_wp2
      go_ret3
      have HG' := HGG.out
      go_simp
  · have hB1 : Below w.heap.size w w1 := HB0.out.trans ((Below.refl _ _).grown hg1 (by simp) (fun k e => by cases e; exact Nat.le_refl _))
    have HE : Hid (UnpackPost s w (.returned (.tuple #[.slice none 0 0, .string ⟨s.toArray⟩, .int .i64 (pcode s)])) w1) := Lib.hid ⟨hB1, .inr ⟨hc, rfl⟩⟩
    have hne : (pcode s != 0) = true := by simpa using hc
    clear hc
    generalize pcode s = cd at *
    go_wp2
    go_ret3
    exact HE.out

/-- Unpack where its text's list is known. -/
theorem unpack_good {n₀ : Nat} (a b : Addr) (s : List UInt8) (hs : s.length ≤ 1000000) (h0 : pcode s = 0) (zs : List Int) (r : List UInt8) (h1 : plistZ s = zs) (h2 : prest s = r) (k : Nat) (hk : zs.length = k) (w : World) (hS : Sent n₀ w a b) (hn₀ : n₀ ≤ w.heap.size) :
    Calls Tryd.prog 15 #[.string ⟨s.toArray⟩] w fun e w' => ∃ g, e = .returned (.tuple #[.slice (some ⟨g, 0, none⟩) k k, .string ⟨r.toArray⟩, .int .i64 0]) ∧ Ints w'.heap.size w' (.slice (some ⟨g, 0, none⟩) k k) zs ∧ Below w.heap.size w w' := by
  subst h1; subst h2; subst hk
  rw [plistZ_length]
  refine (unpack_any a b s hs w hS hn₀).mono ?_
  rintro e w' ⟨hb, ⟨_, g, rfl, hI⟩ | ⟨h, _⟩⟩
  · exact ⟨g, rfl, hI, hb⟩
  · exact absurd h0 h
/-- Unpack where it finds fault. -/
theorem unpack_bad {n₀ : Nat} (a b : Addr) (s : List UInt8) (hs : s.length ≤ 1000000) (h0 : pcode s ≠ 0) (w : World) (hS : Sent n₀ w a b) (hn₀ : n₀ ≤ w.heap.size) :
    Calls Tryd.prog 15 #[.string ⟨s.toArray⟩] w fun e w' => e = .returned (.tuple #[.slice none 0 0, .string ⟨s.toArray⟩, .int .i64 (pcode s)]) ∧ Below w.heap.size w w' := by
  refine (unpack_any a b s hs w hS hn₀).mono ?_
  rintro e w' ⟨hb, ⟨h, _⟩ | ⟨_, rfl⟩⟩
  · exact absurd h h0
  · exact ⟨rfl, hb⟩

/-- The number at a place, and the error. -/
def acode (s : List UInt8) (p : Int) : Int := if pcode s ≠ 0 then pcode s else if 0 ≤ p ∧ p < vnum s then 0 else 40
def aval (s : List UInt8) (p : Int) : Int := if acode s p = 0 then (plistZ s)[p.toNat]?.getD 0 else 0
theorem acode_err {s : List UInt8} {p : Int} (h : pcode s ≠ 0) : acode s p = pcode s ∧ aval s p = 0 := by
  have e : acode s p = pcode s := if_pos h
  exact ⟨e, by unfold aval; rw [e, if_neg h]⟩
theorem acode_no {s : List UInt8} {p : Int} (h : pcode s = 0) (hp : ¬ (0 ≤ p ∧ p < vnum s)) : acode s p = 40 ∧ aval s p = 0 := by
  have e : acode s p = 40 := by unfold acode; rw [if_neg (by simp [h]), if_neg hp]
  exact ⟨e, by unfold aval; rw [e]; rfl⟩
theorem acode_in {s : List UInt8} {p : Int} (h : pcode s = 0) (hp : 0 ≤ p ∧ p < vnum s) : acode s p = 0 ∧ aval s p = (plistZ s)[p.toNat]?.getD 0 := by
  have e : acode s p = 0 := by unfold acode; rw [if_neg (by simp [h]), if_pos hp]
  exact ⟨e, by unfold aval; rw [if_pos e]⟩

set_option maxRecDepth 100000 in
set_option maxHeartbeats 2000000 in
theorem at_any {n₀ : Nat} (a b : Addr) (s : List UInt8) (hs : s.length ≤ 1000000) (p : Int) (h1 : -9223372036854775808 ≤ p) (h2 : p ≤ 9223372036854775807) (w : World) (hS : Sent n₀ w a b) (hn₀ : n₀ ≤ w.heap.size) :
    Calls Tryd.prog 18 #[.string ⟨s.toArray⟩, .int .i64 p] w fun e w' => e = .returned (.tuple #[.int .i64 (aval s p), .int .i64 (acode s p)]) ∧ Below w.heap.size w w' := by
  by_cases hc : pcode s = 0
  · have HU := Lib.hid (unpack_good a b s hs hc (plistZ s) (prest s) rfl rfl (vnum s) (plistZ_length s) w hS hn₀)
    by_cases hp : 0 ≤ p ∧ p < vnum s
    · obtain ⟨e1, e2⟩ := acode_in hc hp
      rw [e1, e2]
      obtain ⟨k, rfl⟩ := Int.eq_ofNat_of_zero_le hp.1
      rw [Int.toNat_natCast]
      have hk : k < vnum s := by omega
      have hk' : (k : Int) < vnum s := hp.2
      clear hc hp e1 e2
      go_enter Tryd.func18, Tryd.ntmps18
      go_wp2_with fail
      refine HU.out.mono ?_
      rintro e w1 ⟨g, rfl, hI, hB1⟩
      obtain ⟨b', o', e', _, hc'⟩ := hI.at_ hk
      cases e'
      rw [Nat.zero_add] at hc'
      go_wp2
      go_ret2
      exact ⟨rfl, hB1⟩
    · obtain ⟨e1, e2⟩ := acode_no hc hp
      rw [e1, e2]
      have hcs : p < 0 ∨ (¬ p < 0 ∧ (vnum s : Int) ≤ p) := by omega
      clear hc hp e1 e2
      rcases hcs with h | ⟨h, h'⟩
      all_goals
        go_enter Tryd.func18, Tryd.ntmps18
        go_wp2_with fail
        refine HU.out.mono ?_
        rintro e w1 ⟨g, rfl, hI, hB1⟩
        go_wp2
        go_ret2
        exact ⟨rfl, hB1⟩
  · have HU := Lib.hid (unpack_bad a b s hs hc w hS hn₀)
    obtain ⟨e1, e2⟩ := acode_err (p := p) hc
    rw [e1, e2]
    have hne : (pcode s != 0) = true := by simpa using hc
    clear hc e1 e2
    generalize pcode s = cd at *
    go_enter Tryd.func18, Tryd.ntmps18
    go_wp2_with fail
    refine HU.out.mono ?_
    rintro e w1 ⟨rfl, hB1⟩
    go_wp2
    go_ret2
    exact ⟨rfl, hB1⟩
end Go.Proofs.YtmimepjokkcbeaaDoor
