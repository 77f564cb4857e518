/- PackedWidths: the width is enough for each number, and the least one: for any numbers (the first thousand and ten). No condition beyond the row's: package varint's two errors lie as start-up laid them (tied to the program's text). -/
import Derived.Test.YtmimepjokkcbeaaDoorPRow
import Derived.Test.YtmimepjokkcbeaaDoorPShown
namespace Go.Proofs.YtmimepjokkcbeaaDoor.packedWidths
open Go.ChangeShapes Go.WideShapes Go.ChangeAt Go.RowKit Go.Joins

theorem most_div {l : List Nat} : mostN l / 2 ^ wdl l = 0 := Nat.div_eq_of_lt (lt_wd _)
theorem most_top {l : List Nat} {q : Nat} (h : wdl l = q + 1) : mostN l / 2 ^ q = 1 := by
  have h1 : mostN l < 2 ^ (q + 1) := wd_le.1 (Nat.le_of_eq h)
  have h2 : ¬ mostN l < 2 ^ q := fun h' => by have := wd_le.2 h'; unfold wdl at h; omega
  rw [Nat.pow_succ] at h1
  have hp : 0 < 2 ^ q := Nat.pow_pos (by decide)
  have h3 : 1 ≤ mostN l / 2 ^ q := (Nat.le_div_iff_mul_le hp).2 (by omega)
  have h4 : mostN l / 2 ^ q < 2 := (Nat.div_lt_iff_lt_mul hp).2 (by omega)
  omega
theorem put_len {n : Nat} (h : n ≤ 1000) : (vput n).length = if 127 < n then 2 else 1 := by
  by_cases h1 : n < 128
  · rw [vput_lo h1, if_neg (by omega)]; rfl
  · rw [vput_hi h1, vput_lo (by omega), if_pos (by omega)]; rfl

set_option maxRecDepth 100000 in
set_option maxHeartbeats 4000000 in
theorem walk {n₀ : Nat} (a b : Addr) (x : Option Addr) (len cap : Nat) (zs : List Int) (hlc : len ≤ cap) (hcm : cap ≤ 9223372036854775807) (hln : zs.length = len) (hz : In64 zs)
    (w : World) (hI : Ints w.heap.size w (.slice x len cap) zs) (hS : Sent n₀ w a b) (hn₀ : n₀ ≤ w.heap.size) :
    Calls Tryd.prog 7 #[.slice x len cap] w fun e w' => e = .returned (.bool true) ∧ Below w.heap.size w w' := by
  have hJ := ints_cut hI 1010 hln
  have hzt := in64_take hz 1010
  have hzl : (zs.take 1010).length = min len 1010 := by rw [List.length_take, hln]; omega
  have HF := Lib.hid (few_any x len cap hlc hcm)
  have hm : min len 1010 ≤ 1010 := by omega
  clear hln hI hz hlc hcm
  generalize zs.take 1010 = ys at *
  generalize min len 1010 = m at *
  have HJ := Lib.hid hJ; have HL := Lib.hid hzl
  have HWd := Lib.hid (fun w' h => width_any x m cap ys hzl (by omega) hzt w' h)
  unfold WidthPost at HWd
  clear hJ hzl
  by_cases hO : Okz ys
  · rw [wval_ok hO, wcode_ok hO] at HWd
    have hm1000 : m ≤ 1000 := by rw [← HL.out]; exact hO.1
    have HO := Lib.hid hO
    have HPk := Lib.hid (fun w' h => pack_any x m cap ys HL.out (by omega) hzt w' h)
    unfold PackPost at HPk
    rw [packZ_ok hO, wcode_ok hO] at HPk
    have hpl := packP_length (nats ys)
    rw [nats_length, HL.out, put_len hm1000] at hpl
    have hq16 := wdl_16 hO
    have hd0 := most_div (l := nats ys)
    have hd1 := fun q h => most_top (l := nats ys) (q := q) h
    have hM : mostN (nats ys) < 65536 := mostN_lt (by decide) (nats_small hO)
    have HM : Hid (mostN (nats ys) = mostN (nats (ys.take m))) := Lib.hid (by rw [← HL.out, List.take_length])
    have HSz := Lib.hid (size_nat m (wdl (nats ys)) (by omega) (by omega))
    have hs2 : szOf m (wdl (nats ys)) ≤ 2001 := by
      have h2 : m * wdl (nats ys) ≤ 1000 * 16 := Nat.mul_le_mul hm1000 hq16
      unfold szOf; omega
    clear hO
    generalize packP (nats ys) = pb at *
    generalize wdl (nats ys) = q at *
    generalize szOf m q = S at *
    have hs0 := shr_at (mostN (nats ys)) q
    rw [hd0] at hs0
    have hs1 : ∀ r, q = r + 1 → ((mostN (nats ys) : Nat) : Int) / 2 ^ r = 1 := fun r h => by rw [shr_at, hd1 r h]; rfl
    have HS1 := Lib.hid hs1
    have HS0 := Lib.hid hs0
    clear hd0 hd1 hs1 hs0
    go_enter Tryd.func7, Tryd.ntmps7
    go_wp2_with fail
    refine (shown_any a b _ hS hn₀).mono ?_
    rintro e w1 ⟨rfl, hB1⟩
    go_wp2_with fail
    refine (HF.out _).mono ?_
    rintro e w' ⟨rfl, rfl⟩
    go_wp2_with fail
    refine (HWd.out _ ((HJ.out.below hB1).more hB1.size)).mono ?_
    rintro e w2 ⟨rfl, hb2⟩
    have hB2 := hB1.trans (hb2.mono hB1.size)
    have HJ2 := Lib.hid ((HJ.out.below hB2).more hB2.size)
    go_wp2_with fail
    go_loop [6, 7] (fun v i => ∃ k : Nat, k ≤ m ∧ i = .int .i64 k ∧ v = .int .i64 (mostN (nats (ys.take k)) : Nat) ∧ Hid (mostN (nats (ys.take k)) < 65536))
      (fun _ i => m - (intOf i).toNat)
    case atStart => exact ⟨0, Nat.zero_le _, rfl, by simp [nats, mostN], Lib.hid (by simp [nats, mostN])⟩
    case round =>
      obtain ⟨k, hk, rfl, rfl, HV⟩ := hrel
      have hv16 := HV.out
      by_cases hlt : k < m
      · obtain ⟨b', off, rfl, hb', hc1⟩ := HJ2.out.at_ hlt
        have hlt' : (k : Int) < m := by omega
        have hk1 : k < ys.length := by rw [HL.out]; exact hlt
        have HSt := Lib.hid (most_step hk1)
        have hng := nats_get HO.out k
        have hn16 : 0 ≤ ys[k]?.getD 0 ∧ ys[k]?.getD 0 ≤ 65535 := by
          have := HO.out.2 _ (List.getElem_mem hk1)
          rwa [List.getElem?_eq_getElem hk1]
        clear hng
        generalize ys[k]?.getD 0 = z at *
        generalize mostN (nats (ys.take k)) = v at *
        obtain ⟨hz0, hz1⟩ := hn16
        have HNx : Hid (mostN (nats (ys.take (k + 1))) < 65536) := Lib.hid (by rw [HSt.out]; omega)
        have hneg : ¬ z < 0 := by omega
        have hgt : ¬ 65535 < z := by omega
        go_wp2
        go_round
        case rel => exact ⟨k + 1, by omega, by simp, by rw [HSt.out]; congr 1; omega, HNx⟩
        case measure => simp [intOf]; omega
      · obtain rfl : k = m := by omega
        have hge : ¬ (k : Int) < k := by omega
        rw [← HM.out] at hv16 ⊢
        have hs0 := HS0.out
        have hs1 := HS1.out
        generalize mostN (nats ys) = M at *
        have h1000 : ¬ (1000 : Int) < k := by omega
        have HB2 := Lib.hid hB2
        have hpc : (127 < k ∧ (pb.length : Int) = 3 + S ∧ (127 : Int) < k) ∨ (¬ 127 < k ∧ (pb.length : Int) = 2 + S ∧ ¬ (127 : Int) < k) := by
          by_cases h127 : 127 < k
          · rw [if_pos h127] at hpl; omega
          · rw [if_neg h127] at hpl; omega
        clear hpl
        have hqc : q = 0 ∨ ∃ r, q = r + 1 := by
          cases q with
          | zero => exact .inl rfl
          | succ r => exact .inr ⟨r, rfl⟩
        rcases hqc with rfl | ⟨r, rfl⟩ <;> rcases hpc with ⟨_, hpl, h127⟩ | ⟨_, hpl, h127⟩
        all_goals
          try have hs1' := hs1 _ rfl
          clear hs1
          go_wp2_with fail
          refine (HPk.out _ HJ2.out).mono ?_
          rintro e w3 ⟨rfl, hb3⟩
          have hB3 := HB2.out.trans (hb3.mono HB2.out.size)
          go_wp2_with fail
          refine (HSz.out _).mono ?_
          rintro e w4 ⟨rfl, hb4⟩
          have hB4 := hB3.trans (hb4.mono hB3.size)
          go_wp2
          go_ret
          exact ⟨rfl, hB4⟩
  · rw [wval_no hO, wcode_no hO] at HWd
    have HO := Lib.hid hO
    clear hO
    go_enter Tryd.func7, Tryd.ntmps7
    go_wp2_with fail
    refine (shown_any a b _ hS hn₀).mono ?_
    rintro e w1 ⟨rfl, hB1⟩
    go_wp2_with fail
    refine (HF.out _).mono ?_
    rintro e w' ⟨rfl, rfl⟩
    go_wp2_with fail
    refine (HWd.out _ ((HJ.out.below hB1).more hB1.size)).mono ?_
    rintro e w2 ⟨rfl, hb2⟩
    have hB2 := hB1.trans (hb2.mono hB1.size)
    have HJ2 := Lib.hid ((HJ.out.below hB2).more hB2.size)
    go_wp2_with fail
    go_loop [6, 7] (fun v i => ∃ k : Nat, k ≤ m ∧ i = .int .i64 k ∧ v = .int .i64 (mostN (nats (ys.take k)) : Nat) ∧ Hid (Small ys k) ∧ Hid (mostN (nats (ys.take k)) < 65536))
      (fun _ i => m - (intOf i).toNat)
    case atStart => exact ⟨0, Nat.zero_le _, rfl, by simp [nats, mostN], Lib.hid (fun j hj => by omega), Lib.hid (by simp [nats, mostN])⟩
    case round =>
      obtain ⟨k, hk, rfl, rfl, HSm, HV⟩ := hrel
      have hv16 := HV.out
      by_cases hlt : k < m
      · obtain ⟨b', off, rfl, hb', hc1⟩ := HJ2.out.at_ hlt
        have hlt' : (k : Int) < m := by omega
        have hk1 : k < ys.length := by rw [HL.out]; exact hlt
        have HSt := Lib.hid (most_step hk1)
        have hzk := hzt k
        have HU := Lib.hid (fun h1 h2 => small_succ HSm.out (k := k) h1 h2)
        generalize ys[k]?.getD 0 = z at *
        generalize mostN (nats (ys.take k)) = v at *
        by_cases hneg : z < 0
        · go_wp2
          go_ret
          exact ⟨rfl, hB2⟩
        · by_cases hgt : 65535 < z
          · go_wp2
            go_ret
            exact ⟨rfl, hB2⟩
          · have HU2 := Lib.hid (HU.out (by omega) (by omega))
            have HNx : Hid (mostN (nats (ys.take (k + 1))) < 65536) := Lib.hid (by rw [HSt.out]; omega)
            go_wp2
            go_round
            case rel => exact ⟨k + 1, by omega, by simp, by rw [HSt.out]; congr 1; omega, HU2, HNx⟩
            case measure => simp [intOf]; omega
      · obtain rfl : k = m := by omega
        have hge : ¬ (k : Int) < k := by omega
        have hbig : 1000 < k := by
          rcases Nat.lt_or_ge 1000 k with h | h
          · exact h
          · exact absurd (ok_of_small (by rw [HL.out]; exact h) (by rw [HL.out]; exact HSm.out)) HO.out
        have hbig' : (1000 : Int) < k := by omega
        generalize mostN (nats (ys.take k)) = v at *
        go_wp2
        go_ret
        exact ⟨rfl, hB2⟩

set_option maxRecDepth 100000 in
set_option maxHeartbeats 1000000 in
theorem lifted (os : Os) (started : os.Started) (H : Type) (enc : TypeId × Value → H) :
    ReturnsInHanded {} Tryd.checked os 7 .any (fun w args => (Rows.packedWidthsSpec.pre enc Tryd.prog Tryd.f7 [] false w args ∧ laidMetH Tryd.prog laid2 w) ∧ sizedMet enc Tryd.prog Tryd.f7 (OpenSpec.ofChange Rows.packedWidthsSpec) false w args)
      (Rows.packedWidthsSpec.post enc Tryd.prog Tryd.f7 false true false false) := by
  refine returnsInHanded_of_change_and (C := Tryd.checked) (X := fun w _ => laidMetH Tryd.prog laid2 w) (fun _ _ _ hh h => h.of_heap hh) own started (by kernel_rfl) Tryd.func7
    (ChangeSpec.witness_shaped (enc := enc) (C := Tryd.checked) (os := os) (X := fun w _ => laidMetH Tryd.prog laid2 w) false (World.doorLaid Tryd.prog 47 os) #[.slice none 0 0] 8 rfl (World.shaped_of_RefB (by kernel_rfl) (by kernel_rfl)) (by kernel_rfl) (by kernel_rfl) (by kernel_rfl) (door_met os _)) ?_
  intro W base args ds gs before hval0 hW _ _ hL _
  rw [laid_plain] at hL
  obtain ⟨a, b, hS⟩ := sent_of_laid hL
  have hval : ∀ (j : Nat) t v, Tryd.f7.params[j]? = some t → args[j]? = some v → Value.okWide Tryd.prog W .any base t v := hval0
  have hW' := hW
  obtain ⟨p, q, hA0, hV, rfl, hfz, hnd⟩ := hW
  have hA : DataW.TrodAll enc Tryd.prog W 0 (fun _ => true) true Tryd.f7.params.toList args.toList ds p := hA0
  rw [Tryd.params7] at hA hval
  obtain ⟨v0, vs0, d0, ds0, p0, q0, hargs, rfl, rfl, h0, r0⟩ := trodAll_cons hA
  obtain ⟨rfl, rfl, rfl⟩ := trodAll_nil r0
  obtain rfl : args = #[v0] := by cases args; simp_all
  obtain ⟨rfl, rfl⟩ := trodVars_none hV
  obtain ⟨x0, len0, cap0, zs0, rfl, hlc0, hcm0, hln0, hz0, hI0, hr0⟩ := open_numbers (hval 0 22 v0 rfl rfl) h0 (fun q hq => hW'.lt q (by simp [hq]))
  clear hA0 hval0
  simp only [List.append_nil] at hW'
  refine (walk a b x0 len0 cap0 zs0 hlc0 hcm0 hln0 hz0 W hI0 hS (Nat.le_refl _)).mono fun e W' ⟨he, hg⟩ => ?_
  subst he
  exact ⟨_, rfl, post_below (pa := _) (pv := []) hW' (fun _ _ _ => (trodAll_cons_mk (shut_bool Tryd.underlying4 _) trodAll_mk0)) (fun sp hsp => (trodAll_cons_mk (hr0 _ hg sp (fun p hp => hsp p (by simp [hp]))) trodAll_mk0)) (fun _ _ => rfl) (by simp)
    hg (ok_one (by kernel_rfl) rfl (okWide_bool_mk Tryd.underlying4 _))⟩

theorem over : Rows.PackedWidthsSaid :=
  OpenClaim.holds_of_wide 7 Tryd.f7 rfl rfl rfl rfl rfl rfl rfl ⟨rfl, rfl, rfl, rfl, rfl⟩ rfl rfl rfl rfl rfl (by kernel_rfl) Tryd.func7 (by kernel_rfl)
    (of_decide_eq_true (by kernel_rfl)) (by unfold Func.isWrapper; first | (rw [if_pos (by decide +kernel)]; kernel_rfl) | (rw [if_neg (by decide +kernel)]; exact ⟨rfl, rfl⟩))
    (fun os started H enc _ => lifted os started H enc)

/-- The statement: the tied card. -/
theorem proved : Rows.PackedWidthsCardSaid :=
  Claim7.holds_tied_plain_at .later [] [.sentinel, .sentinel] true _ true
    over (fun _ h => by cases h) (by kernel_rfl) (fun _ h => by cases h) packedWidths_row_tie rfl ⟨rfl, rfl⟩ (by kernel_rfl) rfl
    (fun f fn hf hfn => by
      obtain rfl : f = 7 := Option.some.inj ((show Tryd.prog.funcNamed "tesserae/tesseraelaw04.PackedWidths" = some 7 by kernel_rfl).symm.trans hf) |>.symm
      obtain rfl : fn = Tryd.f7 := (Option.some.inj (Tryd.func7.symm.trans hfn)).symm
      exact ⟨by kernel_rfl, fun j t ht => by
        rw [Tryd.params7] at ht
        have hm : t ∈ [22] := by simpa using Array.mem_of_getElem? ht
        have hall : ([22].all fun u => !Tryd.prog.wantsStandIn u) = true := by kernel_rfl
        exact (show Tryd.prog.wantsStandIn t = false by simpa using List.all_eq_true.1 hall t hm)⟩)
    (by kernel_rfl)
#print axioms proved
end Go.Proofs.YtmimepjokkcbeaaDoor.packedWidths
