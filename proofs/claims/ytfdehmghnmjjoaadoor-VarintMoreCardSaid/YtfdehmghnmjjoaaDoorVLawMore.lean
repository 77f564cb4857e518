/- VarintMore: fewer bytes of a list's, of a number's ask for more: for any numbers (the first thousand), place, number. No condition beyond the row's: the package's two errors lie as start-up laid them (tied to the program's text). -/
import Derived.Test.YtfdehmghnmjjoaaDoorVRow
import Derived.Test.YtfdehmghnmjjoaaDoorVShown
import Derived.Test.YtfdehmghnmjjoaaDoorVSame
namespace Go.Proofs.YtfdehmghnmjjoaaDoor.varintMore
open Go.ChangeShapes Go.WideShapes Go.ChangeAt Go.RowKit Go.Joins

set_option maxRecDepth 100000 in
set_option maxHeartbeats 4000000 in
theorem walk {n₀ : Nat} (a b : Addr) (x : Option Addr) (len cap : Nat) (zs : List Int) (hlc : len ≤ cap) (hcm : cap ≤ 9223372036854775807) (hln : zs.length = len) (hz : In64 zs) (at_ : Int) (ha1 : -9223372036854775808 ≤ at_) (ha2 : at_ ≤ 9223372036854775807)
    (n : Nat) (hn : n < 18446744073709551616) (w : World) (hI : Ints w.heap.size w (.slice x len cap) zs) (hS : Sent n₀ w a b) (hn₀ : n₀ ≤ w.heap.size) :
    Calls Tryd.prog 5 #[.slice x len cap, .int .i64 at_, .int .u64 n] w fun e w' => e = .returned (.bool true) ∧ Below w.heap.size w w' := by
  have hJ := ints_cut hI 1000 hln
  have hzt := in64_take hz 1000
  have hzl : (zs.take 1000).length = min len 1000 := by rw [List.length_take, hln]; omega
  have HL := Lib.hid hln
  clear hln hI hz
  generalize zs.take 1000 = ys at *
  have hyl : ys.length ≤ 1000 := by omega
  have hPk : ∀ w' : World, Ints w'.heap.size w' (.slice x (min len 1000) cap) ys → Calls Tryd.prog 18 #[.slice x (min len 1000) cap] w' (fun e w'' => e = .returned (.tuple #[.string ⟨(packB ys).toArray⟩, .int .i64 0]) ∧ Below w'.heap.size w' w'') := fun w' h =>
    (pack_any x (min len 1000) cap ys hzl (by omega) hzt w' h).mono fun e w'' ⟨h1, h2⟩ => ⟨by rw [h1, if_pos hyl, if_pos hyl], h2⟩
  have hpl := length_put hn
  have hpp := length_put_pos n
  have hGet : ∀ w' : World, Sent n₀ w' a b → n₀ ≤ w'.heap.size → Calls Tryd.prog 9 #[.string ⟨((vput n).take ((vput n).length - 1)).toArray⟩] w' (fun e w'' => e = .returned (.tuple #[.int .u64 0, .string ⟨((vput n).take ((vput n).length - 1)).toArray⟩, .int .i64 21]) ∧ Below w'.heap.size w' w'') := fun w' h1 h2 => by
    have hm := put_more (k := (vput n).length - 1) hn (by omega)
    refine (get_any a b ((vput n).take ((vput n).length - 1)) (by simp; omega) w' h1 h2).mono fun e w'' ⟨h1, h2⟩ => ⟨?_, h2⟩
    rw [h1, hm, vnum_err (by rw [hm]; decide), vsize_err (by rw [hm]; decide), List.drop_zero]
    rfl
  have hUn : ∀ k, k < (packB ys).length → ∀ w' : World, Sent n₀ w' a b → n₀ ≤ w'.heap.size → Calls Tryd.prog 19 #[.string ⟨((packB ys).take k).toArray⟩] w' (fun e w'' => e = .returned (.tuple #[.slice none 0 0, .string ⟨((packB ys).take k).toArray⟩, .int .i64 21]) ∧ Below w'.heap.size w' w'') := fun k hk w' h1 h2 => by
    have hm := pack_more hyl (in64_mem hzt) hk
    have hpb := packB_length hyl
    refine (unpack_any a b ((packB ys).take k) (by simp; omega) w' h1 h2).mono ?_
    rintro e w'' ⟨h3, ⟨h4, _⟩ | ⟨_, rfl⟩⟩
    · rw [hm] at h4; cases h4
    · exact ⟨by rw [hm], h3⟩
  have hpb := packB_length hyl
  have hex : ∀ k, (ByteArray.mk (packB ys).toArray).extract 0 k = ⟨((packB ys).take k).toArray⟩ := fun k => (ext_mk _ 0 k).trans (mk_str (by rw [List.drop_zero]))
  have hexp : (ByteArray.mk (vput n).toArray).extract 0 ((vput n).length - 1) = ⟨((vput n).take ((vput n).length - 1)).toArray⟩ := (ext_mk _ 0 _).trans (mk_str (by rw [List.drop_zero]))
  have HPk := Lib.hid hPk; have HGet := Lib.hid hGet; have HUn := Lib.hid hUn; have HEx := Lib.hid hex
  have HPut := Lib.hid (put1_any n hn)
  have hll : ((vput n).take ((vput n).length - 1)).length = (vput n).length - 1 := by rw [List.length_take]; omega
  clear hPk hGet hUn hex hzl hzt
  generalize packB ys = s at *
  generalize hpv : vput n = p at *
  generalize hr : p.take (p.length - 1) = r at *
  clear hpv hr
  go_enter Tryd.func5, Tryd.ntmps5
  go_wp2_with fail
  refine (shown_any a b _ hS hn₀).mono ?_
  rintro e w1 ⟨rfl, hB1⟩
  have hJ1 := (hJ.below hB1).more hB1.size
  have hp1 : (1 : Int) ≤ p.length := by omega
  have hp2 : (p.length : Int) ≤ 10 := by omega
  have hll2 : (r.length : Int) = p.length - 1 := by omega
  have HLL := Lib.hid hll
  clear hll
  by_cases hbig : (len : Int) ≤ 1000
  · have hP := HPk.out _ hJ1
    rw [show min len 1000 = len by omega] at hP
    go_wp2_with fail
    refine hP.mono ?_
    rintro e w2 ⟨rfl, hb2⟩
    have hB2 := hB1.trans (hb2.mono hB1.size)
    clear hb2 hP
    go_wp2_with fail
    refine (HPut.out _).mono ?_
    rintro e w3 ⟨rfl, hb3⟩
    have hB3 := hB2.trans (hb3.mono hB2.size)
    clear hb3
    go_wp2_with fail
    refine (HGet.out _ (hS.below (hB3.mono hn₀)) (Nat.le_trans hn₀ hB3.size)).mono ?_
    rintro e w4 ⟨rfl, hb4⟩
    have hB4 := hB3.trans (hb4.mono hB3.size)
    clear hb4
    by_cases hat : 0 ≤ at_ ∧ at_ < s.length
    · obtain ⟨k, rfl⟩ := Int.eq_ofNat_of_zero_le hat.1
      have hk : k < s.length := by omega
      have hex := HEx.out k
      have hk1 : (k : Int) < s.length := by omega
      have hU := HUn.out k hk
      generalize hq : s.take k = q at *
      clear hq
      go_wp2_with fail
      refine (hU _ (hS.below (hB4.mono hn₀)) (Nat.le_trans hn₀ hB4.size)).mono ?_
      rintro e w5 ⟨rfl, hb5⟩
      have hB5 := hB4.trans (hb5.mono hB4.size)
      clear hb5
      go_wp2
      go_ret
      exact ⟨rfl, hB5⟩
    · by_cases hneg : at_ < 0
      · go_wp2
        go_ret
        exact ⟨rfl, hB4⟩
      · have hge : (s.length : Int) ≤ at_ := by omega
        go_wp2
        go_ret
        exact ⟨rfl, hB4⟩
  · have hP := HPk.out _ hJ1
    rw [show min len 1000 = 1000 by omega] at hP
    go_wp2_with fail
    refine hP.mono ?_
    rintro e w2 ⟨rfl, hb2⟩
    have hB2 := hB1.trans (hb2.mono hB1.size)
    clear hb2 hP
    go_wp2_with fail
    refine (HPut.out _).mono ?_
    rintro e w3 ⟨rfl, hb3⟩
    have hB3 := hB2.trans (hb3.mono hB2.size)
    clear hb3
    go_wp2_with fail
    refine (HGet.out _ (hS.below (hB3.mono hn₀)) (Nat.le_trans hn₀ hB3.size)).mono ?_
    rintro e w4 ⟨rfl, hb4⟩
    have hB4 := hB3.trans (hb4.mono hB3.size)
    clear hb4
    by_cases hat : 0 ≤ at_ ∧ at_ < s.length
    · obtain ⟨k, rfl⟩ := Int.eq_ofNat_of_zero_le hat.1
      have hk : k < s.length := by omega
      have hex := HEx.out k
      have hk1 : (k : Int) < s.length := by omega
      have hU := HUn.out k hk
      generalize hq : s.take k = q at *
      clear hq
      go_wp2_with fail
      refine (hU _ (hS.below (hB4.mono hn₀)) (Nat.le_trans hn₀ hB4.size)).mono ?_
      rintro e w5 ⟨rfl, hb5⟩
      have hB5 := hB4.trans (hb5.mono hB4.size)
      clear hb5
      go_wp2
      go_ret
      exact ⟨rfl, hB5⟩
    · by_cases hneg : at_ < 0
      · go_wp2
        go_ret
        exact ⟨rfl, hB4⟩
      · have hge : (s.length : Int) ≤ at_ := by omega
        go_wp2
        go_ret
        exact ⟨rfl, hB4⟩

set_option maxRecDepth 100000 in
set_option maxHeartbeats 1000000 in
theorem lifted (os : Os) (started : os.Started) (H : Type) (enc : TypeId × Value → H) :
    ReturnsInHanded {} Tryd.checked os 5 .any (fun w args => (Rows.varintMoreSpec.pre enc Tryd.prog Tryd.f5 [] false w args ∧ laidMetH Tryd.prog laid2 w) ∧ sizedMet enc Tryd.prog Tryd.f5 (OpenSpec.ofChange Rows.varintMoreSpec) false w args)
      (Rows.varintMoreSpec.post enc Tryd.prog Tryd.f5 false true false false) := by
  refine returnsInHanded_of_change_and (C := Tryd.checked) (X := fun w _ => laidMetH Tryd.prog laid2 w) (fun _ _ _ hh h => h.of_heap hh) own started (by kernel_rfl) Tryd.func5
    (ChangeSpec.witness_shaped (enc := enc) (C := Tryd.checked) (os := os) (X := fun w _ => laidMetH Tryd.prog laid2 w) false (World.doorLaid Tryd.prog 47 os) #[.slice none 0 0, .int .i64 0, .int .u64 0] 8 rfl (World.shaped_of_RefB (by kernel_rfl) (by kernel_rfl)) (by kernel_rfl) (by kernel_rfl) (by kernel_rfl) (door_met os _)) ?_
  intro W base args ds gs before hval0 hW _ _ hL _
  rw [laid_plain] at hL
  obtain ⟨a, b, hS⟩ := sent_of_laid hL
  have hval : ∀ (j : Nat) t v, Tryd.f5.params[j]? = some t → args[j]? = some v → Value.okWide Tryd.prog W .any base t v := hval0
  have hW' := hW
  obtain ⟨p, q, hA0, hV, rfl, hfz, hnd⟩ := hW
  have hA : DataW.TrodAll enc Tryd.prog W 0 (fun _ => true) true Tryd.f5.params.toList args.toList ds p := hA0
  rw [Tryd.params5] at hA hval
  obtain ⟨v0, vs0, d0, ds0, p0, q0, hargs, rfl, rfl, h0, r0⟩ := trodAll_cons hA
  obtain ⟨v1, vs1, d1, ds1, p1, q1, rfl, rfl, rfl, h1, r1⟩ := trodAll_cons r0
  obtain ⟨v2, vs2, d2, ds2, p2, q2, rfl, rfl, rfl, h2, r2⟩ := trodAll_cons r1
  obtain ⟨rfl, rfl, rfl⟩ := trodAll_nil r2
  obtain rfl : args = #[v0, v1, v2] := by cases args; simp_all
  obtain ⟨rfl, rfl⟩ := trodVars_none hV
  obtain ⟨x0, len0, cap0, zs0, rfl, hlc0, hcm0, hln0, hz0, hI0, hr0⟩ := open_numbers (hval 0 32 v0 rfl rfl) h0 (fun q hq => hW'.lt q (by simp [hq]))
  obtain ⟨a1, rfl, rfl, rfl, w1⟩ := open_int Tryd.underlying3 (hval 1 3 v1 rfl rfl) h1
  obtain ⟨l1, u1⟩ := i64_of_wf w1
  obtain ⟨a2, rfl, rfl, rfl, w2⟩ := open_int Tryd.underlying22 (hval 2 22 v2 rfl rfl) h2
  obtain ⟨m2, rfl, u2⟩ := u64_of_wf w2
  clear hA0 hval0
  simp only [List.append_nil] at hW'
  refine (walk a b x0 len0 cap0 zs0 hlc0 hcm0 hln0 hz0 a1 l1 u1 m2 u2 W hI0 hS (Nat.le_refl _)).mono fun e W' ⟨he, hg⟩ => ?_
  subst he
  exact ⟨_, rfl, post_below (pa := _) (pv := []) hW' (fun _ _ _ => (trodAll_cons_mk (shut_bool Tryd.underlying4 _) trodAll_mk0)) (fun sp hsp => (trodAll_cons_mk (hr0 _ hg sp (fun p hp => hsp p (by simp [hp]))) (trodAll_cons_mk (shut_int Tryd.underlying3 w1) (trodAll_cons_mk (shut_int Tryd.underlying22 w2) trodAll_mk0)))) (fun _ _ => rfl) (by simp)
    hg (ok_one (by kernel_rfl) rfl (okWide_bool_mk Tryd.underlying4 _))⟩

theorem over : Rows.VarintMoreSaid :=
  OpenClaim.holds_of_wide 5 Tryd.f5 rfl rfl rfl rfl rfl rfl rfl ⟨rfl, rfl, rfl, rfl, rfl⟩ rfl rfl rfl rfl rfl (by kernel_rfl) Tryd.func5 (by kernel_rfl)
    (of_decide_eq_true (by kernel_rfl)) (by unfold Func.isWrapper; first | (rw [if_pos (by decide +kernel)]; kernel_rfl) | (rw [if_neg (by decide +kernel)]; exact ⟨rfl, rfl⟩))
    (fun os started H enc _ => lifted os started H enc)

/-- The statement: the tied card. -/
theorem proved : Rows.VarintMoreCardSaid :=
  Claim7.holds_tied_plain_at .later [] [.sentinel, .sentinel] true _ true
    over (fun _ h => by cases h) (by kernel_rfl) (fun _ h => by cases h) varintMore_row_tie rfl ⟨rfl, rfl⟩ (by kernel_rfl) rfl
    (fun f fn hf hfn => by
      obtain rfl : f = 5 := Option.some.inj ((show Tryd.prog.funcNamed "tesserae/tesseraelaw02.VarintMore" = some 5 by kernel_rfl).symm.trans hf) |>.symm
      obtain rfl : fn = Tryd.f5 := (Option.some.inj (Tryd.func5.symm.trans hfn)).symm
      exact ⟨by kernel_rfl, fun j t ht => by
        rw [Tryd.params5] at ht
        have hm : t ∈ [32, 3, 22] := by simpa using Array.mem_of_getElem? ht
        have hall : ([32, 3, 22].all fun u => !Tryd.prog.wantsStandIn u) = true := by kernel_rfl
        exact (show Tryd.prog.wantsStandIn t = false by simpa using List.all_eq_true.1 hall t hm)⟩)
    (by kernel_rfl)
#print axioms proved
end Go.Proofs.YtfdehmghnmjjoaaDoor.varintMore
