import Derived.Test.YtbfchlfagdhglaaMG24
import Derived.BigQuiet
import Derived.StillTailTactics
/- RoarPlaces: the number of a place has that rank, and one; numbers rise. No condition beyond the row's. -/
namespace Go.Proofs.Ytbfchlfagdhglaa.roarPlaces
open Go.ChangeShapes Go.WideShapes Go.ChangeAt Go.RowKit Go.Joins

/-- What is known of a place that has a number. -/
theorem place_all {r : List Ch} {k : Nat} (hk : k < (valsZ r).length) : ∃ n : Nat, n < 65536 ∧ (zsOf (valsZ r))[k]?.getD 0 = n ∧ selZ r k = .tuple #[.int .i64 (n : Nat), .bool true] ∧ hasZ r n = true ∧ rankN (readZ r) 65536 n = k + 1 ∧ rankN (readZ r) 65536 ((n : Int) - 1) = k := by
  obtain ⟨n, hn⟩ : ∃ n, (valsZ r)[k]? = some n := ⟨_, List.getElem?_eq_getElem hk⟩
  have hz : (zsOf (valsZ r))[k]?.getD 0 = n := by rw [zsOf_get, List.getD_eq_getElem?_getD, hn]; rfl
  have hn' := hn
  rw [valsZ_read] at hn'
  obtain ⟨h1, h2, _⟩ := placeN _ _ hn'
  obtain ⟨h4, h5⟩ := placeN_rank _ _ hn'
  refine ⟨n, h1, hz, ?_, ?_, h4, h5⟩
  · unfold selZ
    rw [if_pos ⟨by omega, by omega⟩, Int.toNat_natCast, hz]
  · unfold hasZ goodQ
    rw [Int.toNat_natCast, h2, decide_eq_true (by omega), decide_eq_true (by omega)]; rfl
theorem sel_none {r : List Ch} {p : Int} (h : p < 0 ∨ (valsZ r).length ≤ p) : selZ r p = .tuple #[.int .i64 0, .bool false] := by
  unfold selZ
  rw [if_neg (by omega)]
theorem vals_rise {r : List Ch} {k : Nat} (hk : k + 1 < (valsZ r).length) : (zsOf (valsZ r))[k]?.getD 0 < (zsOf (valsZ r))[k + 1]?.getD 0 := by
  rw [zsOf_get, zsOf_get, List.getD_eq_getElem?_getD, List.getD_eq_getElem?_getD, List.getElem?_eq_getElem (by omega), List.getElem?_eq_getElem hk]
  have ha : (valsZ r).Pairwise (· < ·) := by rw [valsZ_read]; exact vals_asc _ _
  have := List.pairwise_iff_getElem.1 ha k (k + 1) (by omega) hk (by omega)
  simp only [Option.getD_some]
  omega
theorem vals_nil7 : (valsZ []).length = 0 := by
  rw [valsZ_good right_nil]
  have : valsTo (setZ []) 65536 = valsTo (fun _ => false) 65536 := valsTo_congr fun n _ => setZ_nil n
  rw [this, valsTo_none]; rfl
theorem below_drewN (w : World) (n : Nat) : Below w.heap.size w (w.drewN n) := ⟨rfl, rfl, rfl, Nat.le_refl _, fun _ _ => rfl⟩
set_option maxRecDepth 100000 in
set_option maxHeartbeats 8000000 in
theorem walk (x0 : Option Addr) (len cap : Nat) (zs : List Int) (hlc : len ≤ cap) (hcm : cap ≤ 9223372036854775807) (hln : zs.length = len) (hz : In64 zs) (p : Int) (lp : -9223372036854775808 ≤ p) (up : p ≤ 9223372036854775807) (w : World) (hI : Ints w.heap.size w (.slice x0 len cap) zs) :
    Calls Try.prog 6 #[.slice x0 len cap, .int .i64 p] w fun e w' => e = .returned (.bool true) ∧ Below w.heap.size w w' := by
  have HI := Lib.hid (ints_cut hI 300 hln)
  have hlz : (zs.take 300).length = min len 300 := by rw [List.length_take, hln, Nat.min_comm]
  have hz3 := in64_take hz 300
  clear hI
  generalize zs.take 300 = zt at *
  have HM := Lib.hid (fun W h => make_prog x0 (min len 300) cap zt hlz (by omega) hcm hz3 W h)
  have hcase : (makeZ zt).2 = 0 ∨ ((makeZ zt).2 = 70 ∧ (makeZ zt).1 = []) := by
    by_cases hq : AllQ zt
    · rw [makeZ_good hq]; exact .inl rfl
    · rw [makeZ_bad hq]; exact .inr ⟨rfl, rfl⟩
  have hOk := okCh_make zt
  obtain ⟨R, fz, hR⟩ : ∃ R fz, makeZ zt = (R, fz) := ⟨_, _, rfl⟩
  rw [hR] at HM hcase hOk
  dsimp only at hcase hOk
  clear hR
  have HSe := Lib.hid (fun (y : Option Addr) (c : Nat) (h1 : R.length ≤ c) (h2 : c ≤ 9223372036854775807) W h => select_prog y R.length c R ⟨h1, h2, hOk⟩ W h p lp up)
  have HCo := Lib.hid (fun (y : Option Addr) (c : Nat) (h1 : R.length ≤ c) (h2 : c ≤ 9223372036854775807) W h => count_prog y R.length c R ⟨h1, h2, hOk⟩ W h)
  have HVa := Lib.hid (fun (y : Option Addr) (c : Nat) (h1 : R.length ≤ c) (h2 : c ≤ 9223372036854775807) W h => values_prog y R.length c R ⟨h1, h2, hOk⟩ W h)
  have HHa := Lib.hid (fun (y : Option Addr) (c : Nat) (h1 : R.length ≤ c) (h2 : c ≤ 9223372036854775807) W h (n : Int) l u => has_prog y R.length c R ⟨h1, h2, hOk⟩ W h n l u)
  have HRa := Lib.hid (fun (y : Option Addr) (c : Nat) (h1 : R.length ≤ c) (h2 : c ≤ 9223372036854775807) W h (n : Int) l u => rank_prog y R.length c R ⟨h1, h2, hOk⟩ W h n l u)
  go_enter Try.func6, Try.ntmps6
  go_wp2_with fail
  refine (shownz_any _).mono ?_
  rintro e w1 ⟨rfl, hb1⟩
  have HI2 := (HI.out.below hb1).more hb1.size
  go_wp2_with fail
  refine (fewz_any x0 len cap hlc hcm _).mono ?_
  rintro e w' ⟨rfl, rfl⟩
  go_wp2_with fail
  refine (HM.out _ HI2).mono ?_
  rintro e w3 ⟨yr, cr, rfl, r1, r2, r3, hb3, -⟩
  dsimp only at r1 r3
  have r2' : cr ≤ 9223372036854775807 := by unfold maxLen at r2; omega
  have bR := BoxR.new r3
  have hB4 := hb1.trans (hb3.mono hb1.size)
  have hB5 := hB4.alloc hB4.size (.cells #[.slice yr R.length cr] 24)
  clear HI HI2 hb1 hb3 hB4 r3 HM r2 hOk
  have c0 := bR.1.cell 0
  dsimp at c0
  go_wp2_with fail
  generalize w3.alloc (.cells #[.slice yr R.length cr] 24) = w3' at *
  generalize w3.heap.size = gr at *
  refine (HSe.out yr cr r1 r2' _ bR.2).mono ?_
  rintro e w4 ⟨rfl, hb4⟩
  have bR4 := bR.under hb4
  have hB6 := hB5.trans (hb4.mono hB5.size)
  clear bR hB5 hb4 HSe c0
  have c0 := bR4.1.cell 0
  dsimp at c0
  have HCo4 := Lib.hid (HCo.out yr cr r1 r2' _ bR4.2)
  have hcs : (fz = 70 ∧ R = []) ∨ (fz = 0 ∧ p < 0) ∨ (fz = 0 ∧ ¬ p < 0 ∧ ((valsZ R).length : Int) ≤ p) ∨ (fz = 0 ∧ ∃ k : Nat, p = k ∧ k < (valsZ R).length) := by
    rcases hcase with h | h
    · by_cases h1 : p < 0
      · exact .inr (.inl ⟨h, h1⟩)
      · by_cases h2 : ((valsZ R).length : Int) ≤ p
        · exact .inr (.inr (.inl ⟨h, h1, h2⟩))
        · exact .inr (.inr (.inr ⟨h, p.toNat, by omega, by omega⟩))
    · exact .inl h
  clear hcase
  rcases hcs with ⟨rfl, rfl⟩ | ⟨rfl, h1⟩ | ⟨rfl, h1, h2⟩ | ⟨rfl, k, rfl, hk⟩
  · rw [sel_none (by rw [vals_nil7]; omega)]
    have HB := Lib.hid hB6
    clear hB6 HCo HCo4 HVa HHa HRa bR4
    go_wp2
    go_ret
    exact ⟨rfl, HB.out⟩
  · rw [sel_none (.inl h1)]
    have HB := Lib.hid hB6
    clear hB6 HCo HCo4 HVa HHa HRa bR4
    go_wp2
    go_ret
    exact ⟨rfl, HB.out⟩
  · rw [sel_none (.inr h2)]
    generalize (valsZ R).length = cnt at *
    go_wp2_with fail
    refine HCo4.out.mono ?_
    rintro e w5 ⟨rfl, hb5⟩
    have HB := Lib.hid (hB6.trans (hb5.mono hB6.size))
    have h2' : p ≥ (cnt : Int) := by omega
    clear hB6 hb5 HCo HCo4 HVa HHa HRa bR4 c0
    go_wp2
    go_ret
    exact ⟨rfl, HB.out⟩
  · obtain ⟨n, hn, hzn, hsel, hhas, hrk1, hrk2⟩ := place_all hk
    rw [hsel]
    have hk' : ¬ (k : Int) ≥ ((valsZ R).length : Nat) := by omega
    have hle := valsZ_le R
    have HRise := Lib.hid (fun j (h : j + 1 < (valsZ R).length) => vals_rise (r := R) h)
    have HHa2 := Lib.hid (fun W h => HHa.out yr cr r1 r2' W h (n : Int) (by omega) (by omega))
    have HRa2 := Lib.hid (fun W h => HRa.out yr cr r1 r2' W h (n : Int) (by omega) (by omega))
    have HRa3 := Lib.hid (fun W h => HRa.out yr cr r1 r2' W h ((n : Int) - 1) (by omega) (by omega))
    have HVa2 := Lib.hid (fun W h => HVa.out yr cr r1 r2' W h)
    unfold ValsRes at HVa2
    rw [hhas] at HHa2
    rw [hrk1] at HRa2
    rw [hrk2] at HRa3
    have hwn : IntKind.i64.wrap ((n : Int) - 1) = (n : Int) - 1 := by rw [IntKind.wrap_i64]; omega
    have hwk : IntKind.i64.wrap ((k : Int) + 1) = (((k + 1 : Nat)) : Int) := by rw [IntKind.wrap_i64]; omega
    clear hhas hrk1 hrk2 hsel hzn HHa HRa HVa HCo
    have hzl : (zsOf (valsZ R)).length = (valsZ R).length := zsOf_length _
    generalize zsOf (valsZ R) = zv at *
    generalize (valsZ R).length = cnt at *
    go_wp2_with fail
    refine HCo4.out.mono ?_
    rintro e w5 ⟨rfl, hb5⟩
    have bR5 := bR4.under hb5
    have hB7 := hB6.trans (hb5.mono hB6.size)
    clear bR4 hB6 hb5 c0 HCo4
    have c0 := bR5.1.cell 0
    dsimp at c0
    go_wp2_with fail
    refine (HVa2.out _ bR5.2).mono ?_
    rintro e w6 ⟨x6, c6, rfl, hI6, hb6⟩
    have bR6 := bR5.under hb6
    have hB8 := hB7.trans (hb6.mono hB7.size)
    have HS := Lib.hid (And.intro bR6 (And.intro hI6 hB8))
    clear bR5 hB7 hb6 c0 HVa2 bR6 hI6 hB8
    have hcn : cnt ≤ 9223372036854775807 := by omega
    go_wp2
    go_loopw [11] (fun i wr => ∃ j : Nat, (j + 1 ≤ cnt ∨ j = 0) ∧ i = .int .i64 ((j + 1 : Nat) : Int) ∧ BoxR gr (.slice yr R.length cr) R wr ∧ Ints wr.heap.size wr (.slice x6 cnt c6) zv ∧ Below w.heap.size w wr) (fun i _ => cnt + 1 - (intOf i).toNat)
    case atStart => exact ⟨0, .inr rfl, rfl, HS.out.1, HS.out.2.1, HS.out.2.2⟩
    case round =>
      obtain ⟨j, hj, rfl, bR, hI, hB⟩ := hrel
      clear HS
      obtain ⟨q, hq⟩ : ∃ q : Nat, q = j + 1 := ⟨_, rfl⟩
      rw [← hq]
      by_cases hlt : j + 1 < cnt
      · have hlt' : (q : Int) < cnt := by omega
        have hw1 : IntKind.i64.wrap ((q : Int) - 1) = (j : Int) := by rw [IntKind.wrap_i64]; omega
        have hjc : (j : Int) < cnt := by omega
        obtain ⟨b, o, rfl, hb, d1⟩ := hI.at_ (j := j) (by omega)
        obtain ⟨b', o', e', _, d2⟩ := hI.at_ (j := q) (by omega)
        cases e'
        have hr := HRise.out j hlt
        rw [← hq] at hr
        have hr' : ¬ zv[j]?.getD 0 ≥ zv[q]?.getD 0 := by omega
        have HN : Hid (BoxR gr (.slice yr R.length cr) R wr ∧ Ints wr.heap.size wr (.slice (some ⟨b, o, none⟩) cnt c6) zv ∧ Below w.heap.size w wr) := Lib.hid ⟨bR, hI, hB⟩
        have HQ : Hid (j + 1 + 1 = q + 1 ∧ q + 1 ≤ cnt) := Lib.hid ⟨by omega, by omega⟩
        clear hr hq bR hI hB
        generalize zv[j]?.getD 0 = z1 at *
        generalize zv[q]?.getD 0 = z2 at *
        go_wp2
        go_quiet (fail)
        go_wp2
        go_roundw
        case rel => exact ⟨j + 1, .inl (by have := HQ.out; omega), by rw [HQ.out.1]; simp, HN.out.1.under (below_drewN _ _), ints_on HN.out.2.1 (below_drewN _ _), HN.out.2.2.trans ((below_drewN _ _).mono HN.out.2.2.size)⟩
        case measure => simp [intOf]; omega
      · have hge : ¬ (q : Int) < cnt := by omega
        have c0 := bR.1.cell 0
        dsimp at c0
        clear hI hq hj
        go_wp2_with fail
        refine (HHa2.out _ bR.2).mono ?_
        rintro e w7 ⟨rfl, hb7⟩
        have bR7 := bR.under hb7
        have hB7 := hB.trans (hb7.mono hB.size)
        clear bR hB hb7 c0 HHa2
        have c0 := bR7.1.cell 0
        dsimp at c0
        go_wp2_with fail
        refine (HRa2.out _ bR7.2).mono ?_
        rintro e w8 ⟨rfl, hb8⟩
        have bR8 := bR7.under hb8
        have hB8 := hB7.trans (hb8.mono hB7.size)
        clear bR7 hB7 hb8 c0 HRa2
        have c0 := bR8.1.cell 0
        dsimp at c0
        go_wp2_with fail
        refine (HRa3.out _ bR8.2).mono ?_
        rintro e w9 ⟨rfl, hb9⟩
        have HB := Lib.hid (hB8.trans (hb9.mono hB8.size))
        clear bR8 hB8 hb9 c0 HRa3
        go_wp2
        go_ret
        exact ⟨rfl, HB.out⟩
set_option maxRecDepth 100000 in
theorem lifted (os : Os) (started : os.Started) (H : Type) (enc : TypeId × Value → H) :
    ReturnsInHanded {} Try.checked os 6 .any (Rows.roarPlacesSpec.pre6 enc Try.prog Try.f6 Rows.roarPlacesRow.domain false) (Rows.roarPlacesSpec.post enc Try.prog Try.f6 false true false false) := by
  refine returnsInHanded_of_change (C := Try.checked) own started (by kernel_rfl) Try.func6
    (ChangeSpec.witness6 (enc := enc) (C := Try.checked) false ⟨#[], #[.slice none 0 0, .int .i64 0], []⟩ 8 (by kernel_rfl) (by kernel_rfl) (by kernel_rfl) (by kernel_rfl)) ?_
  intro W base args ds gs before hval0 hW hcnd _
  have hval : ∀ (j : Nat) t v, Try.f6.params[j]? = some t → args[j]? = some v → Value.okWide Try.prog W .any base t v := hval0
  have hW' := hW
  obtain ⟨p, q, hA0, hV, rfl, hfz, hnd⟩ := hW
  have hA : DataW.TrodAll enc Try.prog W 0 (fun _ => true) true Try.f6.params.toList args.toList ds p := hA0
  rw [Try.params6] at hA hval
  obtain ⟨v0, vs0, d0, ds0, p0, q0, hargs, rfl, rfl, h0, r0⟩ := trodAll_cons hA
  obtain ⟨v1, vs1, d1, ds1, p1, q1, rfl, rfl, rfl, h1, r1⟩ := trodAll_cons r0
  obtain ⟨rfl, rfl, rfl⟩ := trodAll_nil r1
  obtain rfl : args = #[v0, v1] := by cases args; simp_all
  obtain ⟨rfl, rfl⟩ := trodVars_none hV
  obtain ⟨x0, len0, cap0, zs0, rfl, hlc0, hcm0, hln0, hz0, hI0, hr0⟩ := open_numbers (hval 0 25 v0 rfl rfl) h0 (fun q hq => hW'.lt q (by simp [hq]))
  obtain ⟨a1, rfl, rfl, rfl, w1⟩ := open_int Try.underlying3 (hval 1 3 v1 rfl rfl) h1
  obtain ⟨l1, u1⟩ := i64_of_wf w1
  clear hA0 hval0
  simp only [List.append_nil] at hW'
  refine (walk x0 len0 cap0 zs0 hlc0 hcm0 hln0 hz0 a1 l1 u1 W hI0).mono fun e W' ⟨he, hg⟩ => ?_
  subst he
  exact ⟨_, rfl, post_below (pa := _) (pv := []) hW' (fun _ _ _ => (trodAll_cons_mk (shut_bool Try.underlying4 _) trodAll_mk0)) (fun sp hsp => (trodAll_cons_mk (hr0 _ hg sp (fun p hp => hsp p (by simp [hp]))) (trodAll_cons_mk (shut_int Try.underlying3 w1) trodAll_mk0))) (fun _ _ => rfl) (by simp)
    hg (ok_one (by kernel_rfl) rfl (okWide_bool_mk Try.underlying4 _))⟩

theorem over : Rows.roarPlacesRow.holds Try.pinned (OpenSpec.ofChange Rows.roarPlacesSpec) :=
  OpenClaim.holds_of_wide 6 Try.f6 rfl rfl rfl rfl rfl rfl rfl ⟨rfl, rfl, rfl, rfl, rfl⟩ rfl rfl rfl rfl rfl (by kernel_rfl) Try.func6 (by kernel_rfl)
    (of_decide_eq_true (by kernel_rfl)) (by unfold Func.isWrapper; first | (rw [if_pos (by decide +kernel)]; kernel_rfl) | (rw [if_neg (by decide +kernel)]; exact ⟨rfl, rfl⟩))
    (fun os started H enc _ => lifted os started H enc)

/-- The statement. -/
theorem proved : Rows.RoarPlacesSaid :=
  over
#print axioms proved
end Go.Proofs.Ytbfchlfagdhglaa.roarPlaces
