/- PackedMore: fewer bytes of a list's ask for more: for any numbers (the first thousand and ten), place. No condition beyond the row's: package varint's two errors lie as start-up laid them (tied to the program's text). -/
import Derived.Test.YtmimepjokkcbeaaDoorPRow
import Derived.Test.YtmimepjokkcbeaaDoorPShown
namespace Go.Proofs.YtmimepjokkcbeaaDoor.packedMore
open Go.ChangeShapes Go.WideShapes Go.ChangeAt Go.RowKit Go.Joins

set_option maxRecDepth 100000 in
set_option maxHeartbeats 4000000 in
theorem walk {n₀ : Nat} (a b : Addr) (x : Option Addr) (len cap : Nat) (zs : List Int) (hlc : len ≤ cap) (hcm : cap ≤ 9223372036854775807) (hln : zs.length = len) (hz : In64 zs) (p : Int) (h1 : -9223372036854775808 ≤ p) (h2 : p ≤ 9223372036854775807)
    (w : World) (hI : Ints w.heap.size w (.slice x len cap) zs) (hS : Sent n₀ w a b) (hn₀ : n₀ ≤ w.heap.size) :
    Calls Tryd.prog 6 #[.slice x len cap, .int .i64 p] w fun e w' => e = .returned (.bool true) ∧ Below w.heap.size w w' := by
  have hJ := ints_cut hI 1010 hln
  have hzt := in64_take hz 1010
  have hzl : (zs.take 1010).length = min len 1010 := by rw [List.length_take, hln]; omega
  have HF := Lib.hid (few_any x len cap hlc hcm)
  have hm : min len 1010 ≤ 1010 := by omega
  clear hln hI hz hlc hcm
  generalize zs.take 1010 = ys at *
  generalize min len 1010 = m at *
  have HJ := Lib.hid hJ; have HL := Lib.hid hzl
  have HPk := Lib.hid (fun w' h => pack_any x m cap ys hzl (by omega) hzt w' h)
  unfold PackPost at HPk
  clear hJ hzl
  by_cases hO : Okz ys
  · rw [packZ_ok hO, wcode_ok hO] at HPk
    have hlen1 : (nats ys).length ≤ 1000 := by rw [nats_length]; exact hO.1
    have hpl := packP_bound hlen1 (nats_small hO)
    have hmore := fun k (hk : k < (packP (nats ys)).length) => pack_more hlen1 (nats_small hO) hk
    clear hO hlen1
    generalize packP (nats ys) = pb at *
    by_cases hneg : p < 0
    · go_enter Tryd.func6, Tryd.ntmps6
      go_wp2_with fail
      refine (shown_any a b _ hS hn₀).mono ?_
      rintro e w1 ⟨rfl, hB1⟩
      go_wp2_with fail
      refine (HF.out _).mono ?_
      rintro e w' ⟨rfl, rfl⟩
      go_wp2_with fail
      refine (HPk.out _ ((HJ.out.below hB1).more hB1.size)).mono ?_
      rintro e w2 ⟨rfl, hb2⟩
      have hB2 := hB1.trans (hb2.mono hB1.size)
      go_wp2
      go_ret
      exact ⟨rfl, hB2⟩
    · by_cases hbig : (pb.length : Int) ≤ p
      · go_enter Tryd.func6, Tryd.ntmps6
        go_wp2_with fail
        refine (shown_any a b _ hS hn₀).mono ?_
        rintro e w1 ⟨rfl, hB1⟩
        go_wp2_with fail
        refine (HF.out _).mono ?_
        rintro e w' ⟨rfl, rfl⟩
        go_wp2_with fail
        refine (HPk.out _ ((HJ.out.below hB1).more hB1.size)).mono ?_
        rintro e w2 ⟨rfl, hb2⟩
        have hB2 := hB1.trans (hb2.mono hB1.size)
        go_wp2
        go_ret
        exact ⟨rfl, hB2⟩
      · obtain ⟨k, rfl⟩ := Int.eq_ofNat_of_zero_le (show 0 ≤ p by omega)
        have hk : k < pb.length := by omega
        have hkl : (k : Int) < pb.length := by omega
        have hk2 : k ≤ pb.length := by omega
        have hc := hmore k hk
        have HU := Lib.hid (fun w' hs hn => unpack_bad a b (pb.take k) (by simp; omega) (by rw [hc]; decide) w' (n₀ := n₀) hs hn)
        rw [hc] at HU
        have hext : (ByteArray.mk pb.toArray).extract 0 k = ⟨(pb.take k).toArray⟩ := (ext_mk pb 0 k).trans (mk_str (by rw [List.drop_zero]))
        clear hmore hc
        generalize pb.take k = tk at *
        go_enter Tryd.func6, Tryd.ntmps6
        go_wp2_with fail
        refine (shown_any a b _ hS hn₀).mono ?_
        rintro e w1 ⟨rfl, hB1⟩
        go_wp2_with fail
        refine (HF.out _).mono ?_
        rintro e w' ⟨rfl, rfl⟩
        go_wp2_with fail
        refine (HPk.out _ ((HJ.out.below hB1).more hB1.size)).mono ?_
        rintro e w2 ⟨rfl, hb2⟩
        have hB2 := hB1.trans (hb2.mono hB1.size)
        go_wp2_with fail
        refine (HU.out _ (hS.below (hB2.mono hn₀)) (Nat.le_trans hn₀ hB2.size)).mono ?_
        rintro e w3 ⟨rfl, hb3⟩
        have hB3 := hB2.trans (hb3.mono hB2.size)
        go_wp2
        go_ret
        exact ⟨rfl, hB3⟩
  · rw [packZ_no hO, wcode_no hO] at HPk
    clear hO
    go_enter Tryd.func6, Tryd.ntmps6
    go_wp2_with fail
    refine (shown_any a b _ hS hn₀).mono ?_
    rintro e w1 ⟨rfl, hB1⟩
    go_wp2_with fail
    refine (HF.out _).mono ?_
    rintro e w' ⟨rfl, rfl⟩
    go_wp2_with fail
    refine (HPk.out _ ((HJ.out.below hB1).more hB1.size)).mono ?_
    rintro e w2 ⟨rfl, hb2⟩
    have hB2 := hB1.trans (hb2.mono hB1.size)
    go_wp2
    go_ret
    exact ⟨rfl, hB2⟩

set_option maxRecDepth 100000 in
set_option maxHeartbeats 1000000 in
theorem lifted (os : Os) (started : os.Started) (H : Type) (enc : TypeId × Value → H) :
    ReturnsInHanded {} Tryd.checked os 6 .any (fun w args => (Rows.packedMoreSpec.pre enc Tryd.prog Tryd.f6 [] false w args ∧ laidMetH Tryd.prog laid2 w) ∧ sizedMet enc Tryd.prog Tryd.f6 (OpenSpec.ofChange Rows.packedMoreSpec) false w args)
      (Rows.packedMoreSpec.post enc Tryd.prog Tryd.f6 false true false false) := by
  refine returnsInHanded_of_change_and (C := Tryd.checked) (X := fun w _ => laidMetH Tryd.prog laid2 w) (fun _ _ _ hh h => h.of_heap hh) own started (by kernel_rfl) Tryd.func6
    (ChangeSpec.witness_shaped (enc := enc) (C := Tryd.checked) (os := os) (X := fun w _ => laidMetH Tryd.prog laid2 w) false (World.doorLaid Tryd.prog 47 os) #[.slice none 0 0, .int .i64 0] 8 rfl (World.shaped_of_RefB (by kernel_rfl) (by kernel_rfl)) (by kernel_rfl) (by kernel_rfl) (by kernel_rfl) (door_met os _)) ?_
  intro W base args ds gs before hval0 hW _ _ hL _
  rw [laid_plain] at hL
  obtain ⟨a, b, hS⟩ := sent_of_laid hL
  have hval : ∀ (j : Nat) t v, Tryd.f6.params[j]? = some t → args[j]? = some v → Value.okWide Tryd.prog W .any base t v := hval0
  have hW' := hW
  obtain ⟨p, q, hA0, hV, rfl, hfz, hnd⟩ := hW
  have hA : DataW.TrodAll enc Tryd.prog W 0 (fun _ => true) true Tryd.f6.params.toList args.toList ds p := hA0
  rw [Tryd.params6] at hA hval
  obtain ⟨v0, vs0, d0, ds0, p0, q0, hargs, rfl, rfl, h0, r0⟩ := trodAll_cons hA
  obtain ⟨v1, vs1, d1, ds1, p1, q1, rfl, rfl, rfl, h1, r1⟩ := trodAll_cons r0
  obtain ⟨rfl, rfl, rfl⟩ := trodAll_nil r1
  obtain rfl : args = #[v0, v1] := by cases args; simp_all
  obtain ⟨rfl, rfl⟩ := trodVars_none hV
  obtain ⟨x0, len0, cap0, zs0, rfl, hlc0, hcm0, hln0, hz0, hI0, hr0⟩ := open_numbers (hval 0 22 v0 rfl rfl) h0 (fun q hq => hW'.lt q (by simp [hq]))
  obtain ⟨a1, rfl, rfl, rfl, w1⟩ := open_int Tryd.underlying3 (hval 1 3 v1 rfl rfl) h1
  obtain ⟨l1, u1⟩ := i64_of_wf w1
  clear hA0 hval0
  simp only [List.append_nil] at hW'
  refine (walk a b x0 len0 cap0 zs0 hlc0 hcm0 hln0 hz0 a1 l1 u1 W hI0 hS (Nat.le_refl _)).mono fun e W' ⟨he, hg⟩ => ?_
  subst he
  exact ⟨_, rfl, post_below (pa := _) (pv := []) hW' (fun _ _ _ => (trodAll_cons_mk (shut_bool Tryd.underlying4 _) trodAll_mk0)) (fun sp hsp => (trodAll_cons_mk (hr0 _ hg sp (fun p hp => hsp p (by simp [hp]))) (trodAll_cons_mk (shut_int Tryd.underlying3 w1) trodAll_mk0))) (fun _ _ => rfl) (by simp)
    hg (ok_one (by kernel_rfl) rfl (okWide_bool_mk Tryd.underlying4 _))⟩

theorem over : Rows.PackedMoreSaid :=
  OpenClaim.holds_of_wide 6 Tryd.f6 rfl rfl rfl rfl rfl rfl rfl ⟨rfl, rfl, rfl, rfl, rfl⟩ rfl rfl rfl rfl rfl (by kernel_rfl) Tryd.func6 (by kernel_rfl)
    (of_decide_eq_true (by kernel_rfl)) (by unfold Func.isWrapper; first | (rw [if_pos (by decide +kernel)]; kernel_rfl) | (rw [if_neg (by decide +kernel)]; exact ⟨rfl, rfl⟩))
    (fun os started H enc _ => lifted os started H enc)

/-- The statement: the tied card. -/
theorem proved : Rows.PackedMoreCardSaid :=
  Claim7.holds_tied_plain_at .later [] [.sentinel, .sentinel] true _ true
    over (fun _ h => by cases h) (by kernel_rfl) (fun _ h => by cases h) packedMore_row_tie rfl ⟨rfl, rfl⟩ (by kernel_rfl) rfl
    (fun f fn hf hfn => by
      obtain rfl : f = 6 := Option.some.inj ((show Tryd.prog.funcNamed "tesserae/tesseraelaw04.PackedMore" = some 6 by kernel_rfl).symm.trans hf) |>.symm
      obtain rfl : fn = Tryd.f6 := (Option.some.inj (Tryd.func6.symm.trans hfn)).symm
      exact ⟨by kernel_rfl, fun j t ht => by
        rw [Tryd.params6] at ht
        have hm : t ∈ [22, 3] := by simpa using Array.mem_of_getElem? ht
        have hall : ([22, 3].all fun u => !Tryd.prog.wantsStandIn u) = true := by kernel_rfl
        exact (show Tryd.prog.wantsStandIn t = false by simpa using List.all_eq_true.1 hall t hm)⟩)
    (by kernel_rfl)
#print axioms proved
end Go.Proofs.YtmimepjokkcbeaaDoor.packedMore
