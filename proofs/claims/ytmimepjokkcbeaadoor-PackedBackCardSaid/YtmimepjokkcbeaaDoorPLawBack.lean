/- PackedBack: lists and their bytes are one to one, whatever stands behind: for any numbers (the first thousand; modulo 65536), bytes (the first two thousand and ten). No condition beyond the row's: package varint's two errors lie as start-up laid them (tied to the program's text). -/
import Derived.Test.YtmimepjokkcbeaaDoorPRow
import Derived.Test.YtmimepjokkcbeaaDoorPShown
import Derived.Test.YtmimepjokkcbeaaDoorPOwn
import Derived.Test.YtmimepjokkcbeaaDoorPSame
import Derived.OwnWalk
import Derived.Laws.Concat
namespace Go.Proofs.YtmimepjokkcbeaaDoor.packedBack
open Go.ChangeShapes Go.WideShapes Go.ChangeAt Go.RowKit Go.Joins

set_option maxRecDepth 100000 in
set_option maxHeartbeats 4000000 in
theorem walk {n₀ : Nat} (a b : Addr) (x : Option Addr) (len cap : Nat) (zs : List Int) (hlc : len ≤ cap) (hcm : cap ≤ 9223372036854775807) (hln : zs.length = len) (hz : In64 zs) (t : List UInt8) (_ : t.length ≤ 9223372036854775807)
    (w : World) (hI : Ints w.heap.size w (.slice x len cap) zs) (hS : Sent n₀ w a b) (hn₀ : n₀ ≤ w.heap.size) :
    Calls Tryd.prog 5 #[.slice x len cap, .string ⟨t.toArray⟩] w fun e w' => e = .returned (.bool true) ∧ Below w.heap.size w w' := by
  have HI := Lib.hid hI
  have HC := Lib.hid (cut_any t)
  have hcl : (t.take 2010).length ≤ 2010 := List.length_take_le _ _
  generalize t.take 2010 = c at *
  obtain ⟨i0, hi, hz0, hz1, hz2⟩ := info_parts info_int
  have HInf := Lib.hid hi; have HZ0 := Lib.hid hz0; have HZ1 := Lib.hid hz1; have HZ2 := Lib.hid hz2
  clear hI hi hz0 hz1 hz2
  go_enter Tryd.func5, Tryd.ntmps5
  go_wp2_with fail
  refine (shown_any a b _ hS hn₀).mono ?_
  rintro e w1 ⟨rfl, hB1⟩
  go_wp2_with fail
  go_loopw [6, 7] (fun v i wr => ∃ k : Nat, k ≤ len ∧ k ≤ 1000 ∧ i = .int .i64 k ∧ wr.ownsRow w.heap.size 3 1 v k (nvs (fl (lows zs) k)) ∧ Below w.heap.size w wr)
    (fun _ i _ => 1000 - (intOf i).toNat)
  case atStart => exact ⟨0, Nat.zero_le _, Nat.zero_le _, rfl, by simpa [fl, nvs] using World.ownsRow_nil w1 _ _ _, hB1⟩
  case round =>
    obtain ⟨k, hk, hk2, rfl, hown, hB⟩ := hrel
    by_cases hlt : k < len ∧ k < 1000
    · obtain ⟨hlt1, hlt2⟩ := hlt
      obtain ⟨b', off, rfl, hb', hcell⟩ := HI.out.at_ hlt1
      have hc1 : wr.cell? ⟨b', off + k, none⟩ = some (.int .i64 (zs[k]?.getD 0)) := (hB.cell (p := ⟨b', off + k, none⟩) hb').trans hcell
      have hlt1' : (k : Int) < len := by omega
      have hlt2' : (k : Int) < 1000 := by omega
      have HF : Hid (fl (lows zs) (k + 1) = fl (lows zs) k ++ [low (zs[k]?.getD 0)]) := Lib.hid (fl_succ _ _)
      have hand := and_low (zs[k]?.getD 0)
      have hl6 := low_lt (zs[k]?.getD 0)
      have hzk := hz k
      generalize zs[k]?.getD 0 = z at *
      generalize low z = d at *
      clear hcell
      go_wp2_with (at_builtin; refine wpList_append_own _ rfl _ _ 22 rfl w.heap.size 3 i0 (.int .i64 0) 1 8 Tryd.underlying22 HInf.out HZ0.out HZ1.out HZ2.out rfl (by decide) _ _ _ rfl (hown.alloc _) ⟨wr.heap.size, 0, none⟩ 1 1 [.int .i64 d] rfl rfl (cell_one_new _ _ _) (by simp [Value.oneCell']) (by unfold maxLen; omega) (by omega) (by have := hB.size; simp; omega) ?_; intro v2 w2 hown2 hgrow2 _)
      have hB2 : Below w.heap.size w w2 := (hB.alloc hB.size _).grown hgrow2 (by have := hB.size; simp; omega) (fun j e => (hown.lt j e).1)
      rw [← nvs_snoc, ← HF.out] at hown2
      go_roundw
      case rel => exact ⟨k + 1, by omega, by omega, by simp, hown2, hB2⟩
      case measure => simp [intOf]; omega
    · obtain ⟨x2, cap2, rfl⟩ := own_form hown
      have hI2 := row_zs (fl_length _ _) hown
      have hsm := lows_lt zs k
      have hll := fl_length (lows zs) k
      generalize fl (lows zs) k = l at *
      have HPk := Lib.hid (fun w' h => pack_zs x2 k cap2 l hll hk2 hsm w' h)
      obtain ⟨hp0, hpl, hpr⟩ := pack_unpack (l := l) (by omega) hsm c
      have hpb := packP_bound (l := l) (by omega) hsm
      have HU := Lib.hid (fun w' hs hn => unpack_good a b (packP l ++ c) (by simp; omega) hp0 (zsOf l) c (by rw [plistZ_zsOf, hpl]) hpr k (by rw [zsOf_length, hll]) w' (n₀ := n₀) hs hn)
      have hadd : ∀ W : World, (Op.stringOp .add ⟨(packP l).toArray⟩ ⟨c.toArray⟩).run Tryd.prog W = .ok (.string ⟨(packP l ++ c).toArray⟩) W := fun W => by
        rw [run_string_add_sum W _ _ (by simp [ByteArray.size]; omega), app_mk]
      clear hp0 hpl hpr hown hsm hz
      generalize packP l = pb at *
      have HI2 := Lib.hid hI2
      have hcond : (¬ (k : Int) < len) ∨ ((k : Int) < len ∧ ¬ (k : Int) < 1000) := by omega
      by_cases hc0 : pcode c = 0
      · have hup := unpack_pack hc0
        obtain ⟨_, hn2, _, hw2, _, _⟩ := pcode_ok hc0
        have hsm2 := plist_small (s := c) hw2
        have hlen2 : (plist c).length = vnum c := plist_length c
        have HUc := Lib.hid (fun w' hs hn => unpack_good a b c (by omega) hc0 (zsOf (plist c)) (prest c) rfl rfl (vnum c) (plistZ_length c) w' (n₀ := n₀) hs hn)
        have HPc := Lib.hid (fun x3 w' h => pack_zs x3 (vnum c) (vnum c) (plist c) hlen2 hn2 hsm2 w' h)
        have hpb2 := packP_bound (l := plist c) (by omega) hsm2
        have hrl := prest_more (s := c)
        have hadd2 : ∀ W : World, (Op.stringOp .add ⟨(packP (plist c)).toArray⟩ ⟨(prest c).toArray⟩).run Tryd.prog W = .ok (.string ⟨c.toArray⟩) W := fun W => by
          rw [run_string_add_sum W _ _ (by simp [ByteArray.size]; omega), app_mk, hup]
        clear hup hsm2 hlen2 hw2 hc0
        generalize packP (plist c) = pc at *
        generalize zsOf (plist c) = zc at *
        generalize prest c = rc at *
        generalize vnum c = nc at *
        rcases hcond with hc1 | ⟨hc1, hc2⟩
        all_goals
          go_wp2_with fail
          refine (HPk.out _ HI2.out).mono ?_
          rintro e w2 ⟨rfl, hb2⟩
          have hB2 := hB.trans (hb2.mono hB.size)
          have hI3 := (HI2.out.below hb2).more hb2.size
          go_wp2_with fail
          refine (HC.out _).mono ?_
          rintro e w' ⟨rfl, rfl⟩
          go_wp2_with fail
          refine (HU.out _ (hS.below (hB2.mono hn₀)) (Nat.le_trans hn₀ hB2.size)).mono ?_
          rintro e w3 ⟨g3, rfl, hI4, hb3⟩
          have hB3 := hB2.trans (hb3.mono hB2.size)
          have hI5 := (hI3.below hb3).more hb3.size
          go_wp2_with fail
          refine (HC.out _).mono ?_
          rintro e w' ⟨rfl, rfl⟩
          go_wp2_with fail
          refine (HUc.out _ (hS.below (hB3.mono hn₀)) (Nat.le_trans hn₀ hB3.size)).mono ?_
          rintro e w4 ⟨g4, rfl, hI6, hb4⟩
          have hB4 := hB3.trans (hb4.mono hB3.size)
          go_wp2_with fail
          refine (HPc.out _ _ hI6).mono ?_
          rintro e w5 ⟨rfl, hb5⟩
          have hB5 := hB4.trans (hb5.mono hB4.size)
          have hb45 := hb4.trans (hb5.mono hb4.size)
          have hI7 := (hI4.below hb45).more hb45.size
          have hI8 := (hI5.below hb45).more hb45.size
          go_wp2_with fail
          refine (same_any _ _ k _ _ (zsOf l) (by omega) _ hI7 hI8).mono ?_
          rintro e w6 ⟨rfl, hb6⟩
          have hB6 := hB5.trans (hb6.mono hB5.size)
          go_wp2_with fail
          refine (HC.out _).mono ?_
          rintro e w' ⟨rfl, rfl⟩
          go_wp2_with fail
          refine (HC.out _).mono ?_
          rintro e w' ⟨rfl, rfl⟩
          go_wp2
          go_ret
          exact ⟨rfl, hB6⟩
      · have HUc := Lib.hid (fun w' hs hn => unpack_bad a b c (by omega) hc0 w' (n₀ := n₀) hs hn)
        have HPc := Lib.hid (fun w' h => pack_zs none 0 0 [] rfl (by decide) (fun n hn => by cases hn) w' h)
        have hne : (pcode c == 0) = false := by simpa using hc0
        have hne2 : (pcode c != 0) = true := by simpa using hc0
        clear hc0
        generalize packP [] = pc at *
        generalize pcode c = uc at *
        rcases hcond with hc1 | ⟨hc1, hc2⟩
        all_goals
          go_wp2_with fail
          refine (HPk.out _ HI2.out).mono ?_
          rintro e w2 ⟨rfl, hb2⟩
          have hB2 := hB.trans (hb2.mono hB.size)
          have hI3 := (HI2.out.below hb2).more hb2.size
          go_wp2_with fail
          refine (HC.out _).mono ?_
          rintro e w' ⟨rfl, rfl⟩
          go_wp2_with fail
          refine (HU.out _ (hS.below (hB2.mono hn₀)) (Nat.le_trans hn₀ hB2.size)).mono ?_
          rintro e w3 ⟨g3, rfl, hI4, hb3⟩
          have hB3 := hB2.trans (hb3.mono hB2.size)
          have hI5 := (hI3.below hb3).more hb3.size
          go_wp2_with fail
          refine (HC.out _).mono ?_
          rintro e w' ⟨rfl, rfl⟩
          go_wp2_with fail
          refine (HUc.out _ (hS.below (hB3.mono hn₀)) (Nat.le_trans hn₀ hB3.size)).mono ?_
          rintro e w4 ⟨rfl, hb4⟩
          have hB4 := hB3.trans (hb4.mono hB3.size)
          go_wp2_with fail
          refine (HPc.out _ (.inl ⟨⟨none, 0, rfl⟩, rfl⟩)).mono ?_
          rintro e w5 ⟨rfl, hb5⟩
          have hB5 := hB4.trans (hb5.mono hB4.size)
          have hb45 := hb4.trans (hb5.mono hb4.size)
          have hI7 := (hI4.below hb45).more hb45.size
          have hI8 := (hI5.below hb45).more hb45.size
          go_wp2_with fail
          refine (same_any _ _ k _ _ (zsOf l) (by omega) _ hI7 hI8).mono ?_
          rintro e w6 ⟨rfl, hb6⟩
          have hB6 := hB5.trans (hb6.mono hB5.size)
          go_wp2_with fail
          refine (HC.out _).mono ?_
          rintro e w' ⟨rfl, rfl⟩
          go_wp2
          go_ret
          exact ⟨rfl, hB6⟩

set_option maxRecDepth 100000 in
set_option maxHeartbeats 1000000 in
theorem lifted (os : Os) (started : os.Started) (H : Type) (enc : TypeId × Value → H) :
    ReturnsInHanded {} Tryd.checked os 5 .any (fun w args => (Rows.packedBackSpec.pre enc Tryd.prog Tryd.f5 [] false w args ∧ laidMetH Tryd.prog laid2 w) ∧ sizedMet enc Tryd.prog Tryd.f5 (OpenSpec.ofChange Rows.packedBackSpec) false w args)
      (Rows.packedBackSpec.post enc Tryd.prog Tryd.f5 false true false false) := by
  refine returnsInHanded_of_change_and (C := Tryd.checked) (X := fun w _ => laidMetH Tryd.prog laid2 w) (fun _ _ _ hh h => h.of_heap hh) own started (by kernel_rfl) Tryd.func5
    (ChangeSpec.witness_shaped (enc := enc) (C := Tryd.checked) (os := os) (X := fun w _ => laidMetH Tryd.prog laid2 w) false (World.doorLaid Tryd.prog 47 os) #[.slice none 0 0, .string ⟨#[]⟩] 8 rfl (World.shaped_of_RefB (by kernel_rfl) (by kernel_rfl)) (by kernel_rfl) (by kernel_rfl) (by kernel_rfl) (door_met os _)) ?_
  intro W base args ds gs before hval0 hW _ _ hL _
  rw [laid_plain] at hL
  obtain ⟨a, b, hS⟩ := sent_of_laid hL
  have hval : ∀ (j : Nat) t v, Tryd.f5.params[j]? = some t → args[j]? = some v → Value.okWide Tryd.prog W .any base t v := hval0
  have hW' := hW
  obtain ⟨p, q, hA0, hV, rfl, hfz, hnd⟩ := hW
  have hA : DataW.TrodAll enc Tryd.prog W 0 (fun _ => true) true Tryd.f5.params.toList args.toList ds p := hA0
  rw [Tryd.params5] at hA hval
  obtain ⟨v0, vs0, d0, ds0, p0, q0, hargs, rfl, rfl, h0, r0⟩ := trodAll_cons hA
  obtain ⟨v1, vs1, d1, ds1, p1, q1, rfl, rfl, rfl, h1, r1⟩ := trodAll_cons r0
  obtain ⟨rfl, rfl, rfl⟩ := trodAll_nil r1
  obtain rfl : args = #[v0, v1] := by cases args; simp_all
  obtain ⟨rfl, rfl⟩ := trodVars_none hV
  obtain ⟨x0, len0, cap0, zs0, rfl, hlc0, hcm0, hln0, hz0, hI0, hr0⟩ := open_numbers (hval 0 22 v0 rfl rfl) h0 (fun q hq => hW'.lt q (by simp [hq]))
  obtain ⟨z1, rfl, l1, rfl, hr1⟩ := open_text (hval 1 9 v1 rfl rfl) h1
  clear hA0 hval0
  simp only [List.append_nil] at hW'
  refine (walk a b x0 len0 cap0 zs0 hlc0 hcm0 hln0 hz0 z1 l1 W hI0 hS (Nat.le_refl _)).mono fun e W' ⟨he, hg⟩ => ?_
  subst he
  exact ⟨_, rfl, post_below (pa := _) (pv := []) hW' (fun _ _ _ => (trodAll_cons_mk (shut_bool Tryd.underlying4 _) trodAll_mk0)) (fun sp hsp => (trodAll_cons_mk (hr0 _ hg sp (fun p hp => hsp p (by simp [hp]))) (trodAll_cons_mk (hr1 _ _ _ _) trodAll_mk0))) (fun _ _ => rfl) (by simp)
    hg (ok_one (by kernel_rfl) rfl (okWide_bool_mk Tryd.underlying4 _))⟩

theorem over : Rows.PackedBackSaid :=
  OpenClaim.holds_of_wide 5 Tryd.f5 rfl rfl rfl rfl rfl rfl rfl ⟨rfl, rfl, rfl, rfl, rfl⟩ rfl rfl rfl rfl rfl (by kernel_rfl) Tryd.func5 (by kernel_rfl)
    (of_decide_eq_true (by kernel_rfl)) (by unfold Func.isWrapper; first | (rw [if_pos (by decide +kernel)]; kernel_rfl) | (rw [if_neg (by decide +kernel)]; exact ⟨rfl, rfl⟩))
    (fun os started H enc _ => lifted os started H enc)

/-- The statement: the tied card. -/
theorem proved : Rows.PackedBackCardSaid :=
  Claim7.holds_tied_plain_at .later [] [.sentinel, .sentinel] true _ true
    over (fun _ h => by cases h) (by kernel_rfl) (fun _ h => by cases h) packedBack_row_tie rfl ⟨rfl, rfl⟩ (by kernel_rfl) rfl
    (fun f fn hf hfn => by
      obtain rfl : f = 5 := Option.some.inj ((show Tryd.prog.funcNamed "tesserae/tesseraelaw04.PackedBack" = some 5 by kernel_rfl).symm.trans hf) |>.symm
      obtain rfl : fn = Tryd.f5 := (Option.some.inj (Tryd.func5.symm.trans hfn)).symm
      exact ⟨by kernel_rfl, fun j t ht => by
        rw [Tryd.params5] at ht
        have hm : t ∈ [22, 9] := by simpa using Array.mem_of_getElem? ht
        have hall : ([22, 9].all fun u => !Tryd.prog.wantsStandIn u) = true := by kernel_rfl
        exact (show Tryd.prog.wantsStandIn t = false by simpa using List.all_eq_true.1 hall t hm)⟩)
    (by kernel_rfl)
#print axioms proved
end Go.Proofs.YtmimepjokkcbeaaDoor.packedBack
