/- PackedPlaces: each number stands at its place; none stands behind the last one: for any numbers (the first thousand; modulo 65536), place. No condition beyond the row's: package varint's two errors lie as start-up laid them (tied to the program's text). -/
import Derived.Test.YtmimepjokkcbeaaDoorPRow
import Derived.Test.YtmimepjokkcbeaaDoorPShown
import Derived.Test.YtmimepjokkcbeaaDoorPOwn
import Derived.OwnWalk
namespace Go.Proofs.YtmimepjokkcbeaaDoor.packedPlaces
open Go.ChangeShapes Go.WideShapes Go.ChangeAt Go.RowKit Go.Joins

set_option maxRecDepth 100000 in
set_option maxHeartbeats 4000000 in
theorem walk {n₀ : Nat} (a b : Addr) (x : Option Addr) (len cap : Nat) (zs : List Int) (hlc : len ≤ cap) (hcm : cap ≤ 9223372036854775807) (hln : zs.length = len) (hz : In64 zs) (p : Int) (h1 : -9223372036854775808 ≤ p) (h2 : p ≤ 9223372036854775807)
    (w : World) (hI : Ints w.heap.size w (.slice x len cap) zs) (hS : Sent n₀ w a b) (hn₀ : n₀ ≤ w.heap.size) :
    Calls Tryd.prog 8 #[.slice x len cap, .int .i64 p] w fun e w' => e = .returned (.bool true) ∧ Below w.heap.size w w' := by
  have HI := Lib.hid hI
  obtain ⟨i0, hi, hz0, hz1, hz2⟩ := info_parts info_int
  have HInf := Lib.hid hi; have HZ0 := Lib.hid hz0; have HZ1 := Lib.hid hz1; have HZ2 := Lib.hid hz2
  clear hI hi hz0 hz1 hz2
  go_enter Tryd.func8, Tryd.ntmps8
  go_wp2_with fail
  refine (shown_any a b _ hS hn₀).mono ?_
  rintro e w1 ⟨rfl, hB1⟩
  go_wp2_with fail
  go_loopw [6, 7] (fun v i wr => ∃ k : Nat, k ≤ len ∧ k ≤ 1000 ∧ i = .int .i64 k ∧ wr.ownsRow w.heap.size 3 1 v k (nvs (fl (lows zs) k)) ∧ Below w.heap.size w wr)
    (fun _ i _ => 1000 - (intOf i).toNat)
  case atStart => exact ⟨0, Nat.zero_le _, Nat.zero_le _, rfl, by simpa [fl, nvs] using World.ownsRow_nil w1 _ _ _, hB1⟩
  case round =>
    obtain ⟨k, hk, hk2, rfl, hown, hB⟩ := hrel
    by_cases hlt : k < len ∧ k < 1000
    · obtain ⟨hlt1, hlt2⟩ := hlt
      obtain ⟨b', off, rfl, hb', hcell⟩ := HI.out.at_ hlt1
      have hc1 : wr.cell? ⟨b', off + k, none⟩ = some (.int .i64 (zs[k]?.getD 0)) := (hB.cell (p := ⟨b', off + k, none⟩) hb').trans hcell
      have hlt1' : (k : Int) < len := by omega
      have hlt2' : (k : Int) < 1000 := by omega
      have HF : Hid (fl (lows zs) (k + 1) = fl (lows zs) k ++ [low (zs[k]?.getD 0)]) := Lib.hid (fl_succ _ _)
      have hand := and_low (zs[k]?.getD 0)
      have hl6 := low_lt (zs[k]?.getD 0)
      have hzk := hz k
      generalize zs[k]?.getD 0 = z at *
      generalize low z = d at *
      clear hcell
      go_wp2_with (at_builtin; refine wpList_append_own _ rfl _ _ 22 rfl w.heap.size 3 i0 (.int .i64 0) 1 8 Tryd.underlying22 HInf.out HZ0.out HZ1.out HZ2.out rfl (by decide) _ _ _ rfl (hown.alloc _) ⟨wr.heap.size, 0, none⟩ 1 1 [.int .i64 d] rfl rfl (cell_one_new _ _ _) (by simp [Value.oneCell']) (by unfold maxLen; omega) (by omega) (by have := hB.size; simp; omega) ?_; intro v2 w2 hown2 hgrow2 _)
      have hB2 : Below w.heap.size w w2 := (hB.alloc hB.size _).grown hgrow2 (by have := hB.size; simp; omega) (fun j e => (hown.lt j e).1)
      rw [← nvs_snoc, ← HF.out] at hown2
      go_roundw
      case rel => exact ⟨k + 1, by omega, by omega, by simp, hown2, hB2⟩
      case measure => simp [intOf]; omega
    · obtain ⟨x2, cap2, rfl⟩ := own_form hown
      have hI2 := row_zs (fl_length _ _) hown
      have hsm := lows_lt zs k
      have hll := fl_length (lows zs) k
      generalize fl (lows zs) k = l at *
      have HPk := Lib.hid (fun w' h => pack_zs x2 k cap2 l hll hk2 hsm w' h)
      obtain ⟨hp0, hpl, _⟩ := pack_unpack (l := l) (by omega) hsm []
      obtain ⟨_, _, hpn, _⟩ := pack_parts (l := l) (by omega) hsm []
      rw [List.append_nil] at hp0 hpl hpn
      have hpb := packP_bound (l := l) (by omega) hsm
      have HAt := Lib.hid (fun w' hs hn => at_any a b (packP l) (by omega) p h1 h2 w' (n₀ := n₀) hs hn)
      have hai := fun h => acode_in (s := packP l) (p := p) hp0 h
      have han := fun h => acode_no (s := packP l) (p := p) hp0 h
      rw [hpn, hll] at hai han
      have hpz : plistZ (packP l) = zsOf l := by rw [plistZ_zsOf, hpl]
      rw [hpz] at hai
      clear hp0 hpl hpn hown hsm hz hpz
      generalize packP l = pb at *
      have HI2 := Lib.hid hI2
      have hcond : (¬ (k : Int) < len) ∨ ((k : Int) < len ∧ ¬ (k : Int) < 1000) := by omega
      by_cases hin : 0 ≤ p ∧ p < k
      · obtain ⟨ea, ev⟩ := hai hin
        rw [ea, ev] at HAt
        obtain ⟨j, rfl⟩ := Int.eq_ofNat_of_zero_le hin.1
        rw [Int.toNat_natCast] at HAt
        have hjk : j < k := by omega
        have hjk' : (j : Int) < k := hin.2
        clear hai han ea ev hin
        rcases hcond with hc1 | ⟨hc1, hc2⟩
        all_goals
          go_wp2_with fail
          refine (HPk.out _ HI2.out).mono ?_
          rintro e w2 ⟨rfl, hb2⟩
          have hB2 := hB.trans (hb2.mono hB.size)
          go_wp2_with fail
          refine (HAt.out _ (hS.below (hB2.mono hn₀)) (Nat.le_trans hn₀ hB2.size)).mono ?_
          rintro e w3 ⟨rfl, hb3⟩
          have hB3 := hB2.trans (hb3.mono hB2.size)
          obtain ⟨g, off, rfl, hg, hcj⟩ := ((HI2.out.below hb2).more hb2.size).at_ hjk
          have hcj3 : w3.cell? ⟨g, off + j, none⟩ = some (.int .i64 ((zsOf l)[j]?.getD 0)) := (hb3.cell (p := ⟨g, off + j, none⟩) hg).trans hcj
          generalize (zsOf l)[j]?.getD 0 = z at *
          clear hcj
          go_wp2
          go_ret
          exact ⟨rfl, hB3⟩
      · obtain ⟨ea, ev⟩ := han hin
        rw [ea, ev] at HAt
        have hpc : p < 0 ∨ (¬ p < 0 ∧ (k : Int) ≤ p) := by omega
        clear hai han ea ev hin
        rcases hpc with hp1 | ⟨hp1, hp2⟩ <;> rcases hcond with hc1 | ⟨hc1, hc2⟩
        all_goals
          go_wp2_with fail
          refine (HPk.out _ HI2.out).mono ?_
          rintro e w2 ⟨rfl, hb2⟩
          have hB2 := hB.trans (hb2.mono hB.size)
          go_wp2_with fail
          refine (HAt.out _ (hS.below (hB2.mono hn₀)) (Nat.le_trans hn₀ hB2.size)).mono ?_
          rintro e w3 ⟨rfl, hb3⟩
          have hB3 := hB2.trans (hb3.mono hB2.size)
          go_wp2
          go_ret
          exact ⟨rfl, hB3⟩

set_option maxRecDepth 100000 in
set_option maxHeartbeats 1000000 in
theorem lifted (os : Os) (started : os.Started) (H : Type) (enc : TypeId × Value → H) :
    ReturnsInHanded {} Tryd.checked os 8 .any (fun w args => (Rows.packedPlacesSpec.pre enc Tryd.prog Tryd.f8 [] false w args ∧ laidMetH Tryd.prog laid2 w) ∧ sizedMet enc Tryd.prog Tryd.f8 (OpenSpec.ofChange Rows.packedPlacesSpec) false w args)
      (Rows.packedPlacesSpec.post enc Tryd.prog Tryd.f8 false true false false) := by
  refine returnsInHanded_of_change_and (C := Tryd.checked) (X := fun w _ => laidMetH Tryd.prog laid2 w) (fun _ _ _ hh h => h.of_heap hh) own started (by kernel_rfl) Tryd.func8
    (ChangeSpec.witness_shaped (enc := enc) (C := Tryd.checked) (os := os) (X := fun w _ => laidMetH Tryd.prog laid2 w) false (World.doorLaid Tryd.prog 47 os) #[.slice none 0 0, .int .i64 0] 8 rfl (World.shaped_of_RefB (by kernel_rfl) (by kernel_rfl)) (by kernel_rfl) (by kernel_rfl) (by kernel_rfl) (door_met os _)) ?_
  intro W base args ds gs before hval0 hW _ _ hL _
  rw [laid_plain] at hL
  obtain ⟨a, b, hS⟩ := sent_of_laid hL
  have hval : ∀ (j : Nat) t v, Tryd.f8.params[j]? = some t → args[j]? = some v → Value.okWide Tryd.prog W .any base t v := hval0
  have hW' := hW
  obtain ⟨p, q, hA0, hV, rfl, hfz, hnd⟩ := hW
  have hA : DataW.TrodAll enc Tryd.prog W 0 (fun _ => true) true Tryd.f8.params.toList args.toList ds p := hA0
  rw [Tryd.params8] at hA hval
  obtain ⟨v0, vs0, d0, ds0, p0, q0, hargs, rfl, rfl, h0, r0⟩ := trodAll_cons hA
  obtain ⟨v1, vs1, d1, ds1, p1, q1, rfl, rfl, rfl, h1, r1⟩ := trodAll_cons r0
  obtain ⟨rfl, rfl, rfl⟩ := trodAll_nil r1
  obtain rfl : args = #[v0, v1] := by cases args; simp_all
  obtain ⟨rfl, rfl⟩ := trodVars_none hV
  obtain ⟨x0, len0, cap0, zs0, rfl, hlc0, hcm0, hln0, hz0, hI0, hr0⟩ := open_numbers (hval 0 22 v0 rfl rfl) h0 (fun q hq => hW'.lt q (by simp [hq]))
  obtain ⟨a1, rfl, rfl, rfl, w1⟩ := open_int Tryd.underlying3 (hval 1 3 v1 rfl rfl) h1
  obtain ⟨l1, u1⟩ := i64_of_wf w1
  clear hA0 hval0
  simp only [List.append_nil] at hW'
  refine (walk a b x0 len0 cap0 zs0 hlc0 hcm0 hln0 hz0 a1 l1 u1 W hI0 hS (Nat.le_refl _)).mono fun e W' ⟨he, hg⟩ => ?_
  subst he
  exact ⟨_, rfl, post_below (pa := _) (pv := []) hW' (fun _ _ _ => (trodAll_cons_mk (shut_bool Tryd.underlying4 _) trodAll_mk0)) (fun sp hsp => (trodAll_cons_mk (hr0 _ hg sp (fun p hp => hsp p (by simp [hp]))) (trodAll_cons_mk (shut_int Tryd.underlying3 w1) trodAll_mk0))) (fun _ _ => rfl) (by simp)
    hg (ok_one (by kernel_rfl) rfl (okWide_bool_mk Tryd.underlying4 _))⟩

theorem over : Rows.PackedPlacesSaid :=
  OpenClaim.holds_of_wide 8 Tryd.f8 rfl rfl rfl rfl rfl rfl rfl ⟨rfl, rfl, rfl, rfl, rfl⟩ rfl rfl rfl rfl rfl (by kernel_rfl) Tryd.func8 (by kernel_rfl)
    (of_decide_eq_true (by kernel_rfl)) (by unfold Func.isWrapper; first | (rw [if_pos (by decide +kernel)]; kernel_rfl) | (rw [if_neg (by decide +kernel)]; exact ⟨rfl, rfl⟩))
    (fun os started H enc _ => lifted os started H enc)

/-- The statement: the tied card. -/
theorem proved : Rows.PackedPlacesCardSaid :=
  Claim7.holds_tied_plain_at .later [] [.sentinel, .sentinel] true _ true
    over (fun _ h => by cases h) (by kernel_rfl) (fun _ h => by cases h) packedPlaces_row_tie rfl ⟨rfl, rfl⟩ (by kernel_rfl) rfl
    (fun f fn hf hfn => by
      obtain rfl : f = 8 := Option.some.inj ((show Tryd.prog.funcNamed "tesserae/tesseraelaw04.PackedPlaces" = some 8 by kernel_rfl).symm.trans hf) |>.symm
      obtain rfl : fn = Tryd.f8 := (Option.some.inj (Tryd.func8.symm.trans hfn)).symm
      exact ⟨by kernel_rfl, fun j t ht => by
        rw [Tryd.params8] at ht
        have hm : t ∈ [22, 3] := by simpa using Array.mem_of_getElem? ht
        have hall : ([22, 3].all fun u => !Tryd.prog.wantsStandIn u) = true := by kernel_rfl
        exact (show Tryd.prog.wantsStandIn t = false by simpa using List.all_eq_true.1 hall t hm)⟩)
    (by kernel_rfl)
#print axioms proved
end Go.Proofs.YtmimepjokkcbeaaDoor.packedPlaces
