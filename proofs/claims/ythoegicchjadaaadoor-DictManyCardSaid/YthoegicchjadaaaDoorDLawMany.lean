/- DictMany: a thousand words make a dictionary, more do not: for any number of words (990 to 1010), each of up to 92 bytes. No condition beyond the row's: the handle of error's type and package varint's two errors lie as start-up laid them (tied to the program's text). -/
import Derived.Test.YthoegicchjadaaaDoorDRow
import Derived.Test.YthoegicchjadaaaDoorDTold
import Derived.Test.YthoegicchjadaaaDoorDMany
namespace Go.Proofs.YthoegicchjadaaaDoor.dictMany
open Go.ChangeShapes Go.WideShapes Go.ChangeAt Go.RowKit Go.Joins

set_option maxRecDepth 100000 in
set_option maxHeartbeats 8000000 in
theorem walk {n₀ : Nat} (a b : Addr) (k : Int) (hk1 : -9223372036854775808 ≤ k) (hk2 : k ≤ 9223372036854775807) (u : Int) (hu1 : -9223372036854775808 ≤ u) (hu2 : u ≤ 9223372036854775807) (w : World)
    (hS : Sent n₀ w a b) (hE : Ety n₀ w) (hn₀ : n₀ ≤ w.heap.size) :
    Calls Tryd.prog 8 #[.int .i64 k, .int .i64 u] w fun e w' => e = .returned (.bool true) ∧ Below w.heap.size w w' := by
  have HS := Lib.hid (shown_any a b w hS hE hn₀)
  by_cases h1 : k < 990
  · go_enter Tryd.func8, Tryd.ntmps8
    go_wp2_with fail
    refine HS.out.mono ?_
    rintro e w1 ⟨rfl, hB1⟩
    go_wp2
    go_ret
    exact ⟨rfl, hB1⟩
  by_cases h2 : 1010 < k
  · have h1' : 990 ≤ k := by omega
    clear h1
    go_enter Tryd.func8, Tryd.ntmps8
    go_wp2_with fail
    refine HS.out.mono ?_
    rintro e w1 ⟨rfl, hB1⟩
    go_wp2
    go_ret
    exact ⟨rfl, hB1⟩
  by_cases h3 : u < 0
  · have h1' : ¬ k < 990 := h1
    have h2' : ¬ 1010 < k := h2
    go_enter Tryd.func8, Tryd.ntmps8
    go_wp2_with fail
    refine HS.out.mono ?_
    rintro e w1 ⟨rfl, hB1⟩
    go_wp2
    go_ret
    exact ⟨rfl, hB1⟩
  by_cases h4 : 90 < u
  · have h3' : 0 ≤ u := by omega
    clear h3
    go_enter Tryd.func8, Tryd.ntmps8
    go_wp2_with fail
    refine HS.out.mono ?_
    rintro e w1 ⟨rfl, hB1⟩
    go_wp2
    go_ret
    exact ⟨rfl, hB1⟩
  obtain ⟨n, rfl⟩ : ∃ n : Nat, k = n := ⟨k.toNat, by omega⟩
  obtain ⟨z, rfl⟩ : ∃ z : Nat, u = z := ⟨u.toNat, by omega⟩
  have hn1 : 990 ≤ n := by omega
  have hn2 : n ≤ 1010 := by omega
  have hz : z ≤ 90 := by omega
  have h1' : ¬ (n : Int) < 990 := h1
  have h2' : ¬ (1010 : Int) < n := h2
  have h3' : ¬ (z : Int) < 0 := h3
  have h4' : ¬ (90 : Int) < z := h4
  have hmk := make_u8 z (by omega)
  have hcv := conv_zeros z
  have HD := Lib.hid (fun s hs W (h : Below w.heap.size w W) => decode_any a b s hs W (hS.below (h.mono hn₀)) (hE.below (h.mono hn₀)) (Nat.le_trans hn₀ h.size))
  obtain ⟨i0, hi, hz0, hz1, hz2⟩ := info_parts info_str
  have HI0 := Lib.hid hi; have HZ0 := Lib.hid hz0; have HZ1 := Lib.hid hz1; have HZ2 := Lib.hid hz2
  clear hi hz0 hz1 hz2 h1 h2 h3 h4 hk1 hk2 hu1 hu2 hS hE hn₀
  have hzl : (List.replicate z (0 : UInt8)).length = z := List.length_replicate
  have HMW : Hid (∀ k, mword z k = List.replicate z 0 ++ [UInt8.ofNat (k / 256), UInt8.ofNat k]) := Lib.hid fun _ => rfl
  generalize List.replicate z (0 : UInt8) = zs at *
  go_enter Tryd.func8, Tryd.ntmps8
  go_wp2_with fail
  refine HS.out.mono ?_
  rintro e w1 ⟨rfl, hB1⟩
  go_wp2
  have hB2 := hB1.alloc hB1.size (.cells (zeros z) 5)
  generalize w1.alloc (.cells (zeros z) 5) = w2 at *
  go_loopw [6, 8] (fun v i wr => ∃ k : Nat, k ≤ n ∧ i = .int .i64 k ∧ Hid (OwnS w.heap.size wr v (mwords z k)) ∧ Below w.heap.size w wr) (fun _ i _ => n - (intOf i).toNat)
  case atStart => exact ⟨0, Nat.zero_le _, rfl, Lib.hid (World.ownsRow_nil _ _ _ _), hB2⟩
  case round =>
    obtain ⟨k, hk, rfl, HO, hB⟩ := hrel
    by_cases hlt : k < n
    · have hlt' : (k : Int) < n := by omega
      have HW := Lib.hid (HMW.out k)
      have hy : (UInt8.ofNat (k / 256)).toNat = k / 256 := ofNat_toNat _ (by omega)
      have hx : (UInt8.ofNat k).toNat = k % 256 := UInt8.toNat_ofNat'
      generalize UInt8.ofNat (k / 256) = y at *
      generalize UInt8.ofNat k = x at *
      have he1 : (k : Int) / 256 = (y.toNat : Int) := by omega
      have he2 : (k : Int) % 256 = (x.toNat : Int) := by omega
      have he3 : (k : Int) / 256 % 256 = (y.toNat : Int) := by omega
      have HN := Lib.hid (mwords_snoc z k)
      have hown := HO.out
      unfold OwnS at hown
      rw [mwords_length] at hown
      have hcv2 := conv_two y x
      have hadd : ∀ W : World, (Op.stringOp .add ⟨zs.toArray⟩ ⟨#[y, x]⟩).run Tryd.prog W = .ok (.string ⟨(mword z k).toArray⟩) W := fun W => by
        rw [run_string_add_sum W _ _ (by simp [ByteArray.size]; omega), HW.out, show (ByteArray.mk #[y, x]) = ⟨[y, x].toArray⟩ from rfl, app_mk]
      have HML := Lib.hid (mwords_length z k)
      clear HW hy hx
      generalize mwords z k = acc at *
      generalize mword z k = wd at *
      have hB3 : Below w.heap.size w ((wr.alloc (.cells #[.int .u8 (y.toNat : Int), .int .u8 (x.toNat : Int)] 5)).alloc (.cells #[.string ⟨wd.toArray⟩] 9)) := (hB.alloc hB.size _).alloc (by have := hB.size; simp; omega) _
      have hc1 : ∀ j u, [Value.string ⟨wd.toArray⟩][j]? = some u → ((wr.alloc (.cells #[.int .u8 (y.toNat : Int), .int .u8 (x.toNat : Int)] 5)).alloc (.cells #[.string ⟨wd.toArray⟩] 9)).cell? ((⟨wr.heap.size + 1, 0, .none⟩ : Addr).add j) = some u := by
        have hh := cell_one_new (wr.alloc (.cells #[.int .u8 (y.toNat : Int), .int .u8 (x.toNat : Int)] 5)) (.string ⟨wd.toArray⟩) 9
        rw [World.size_alloc] at hh
        exact hh
      have HC1 := Lib.hid hc1
      clear hc1
      go_wp2_with (at_builtin; refine wpList_append_own _ rfl _ _ 22 rfl w.heap.size 9 i0 (.string ⟨#[]⟩) 1 16 Tryd.underlying22 HI0.out HZ0.out HZ1.out HZ2.out rfl (by decide) _ _ _ rfl ((hown.alloc _).alloc _) ⟨wr.heap.size + 1, 0, .none⟩ 1 1 [.string ⟨wd.toArray⟩] rfl rfl HC1.out (by simp [Value.oneCell']) (by unfold maxLen; omega) (by omega) hB3.size ?_; intro v2 w3 hown2 hgrow2 _)
      have hB4 : Below w.heap.size w w3 := hB3.grown hgrow2 hB3.size (fun j e => (hown.lt j e).1)
      go_roundw
      case rel =>
        refine ⟨k + 1, by omega, by simp, Lib.hid ?_, hB4⟩
        rw [HN.out]
        unfold OwnS
        rw [List.length_append, HML.out, strVs_snoc]
        exact hown2
      case measure => simp [intOf]; omega
    · obtain rfl : k = n := by omega
      have hge : ¬ (k : Int) < k := by omega
      obtain ⟨x, n, cap, rfl, hL⟩ := wrds_lst (lst_own HO.out)
      have hnk : n = k := by rw [← hL.len, mwords_length]
      subst hnk
      have hsh := mwords_short z n (by omega)
      have HBld := Lib.hid (build_any x n cap (mwords z n) hL.len (by omega) wr hL.strs)
      have HTx := Lib.hid (fun x2 c2 x3 c3 W (h2 : Strs W.heap.size W (.slice x2 n c2) (mwords z n)) h3 => texts_same x2 x3 n c2 c3 (mwords z n) (by omega) W h2 h3)
      have HEn := Lib.hid (fun W h => encode_any x n cap (mwords z n) hL.len (by omega) W (hL.next h).strs)
      have HRt := Lib.hid (fun W h => right_any x n cap (mwords z n) hL.len (by omega) W (hL.next h).strs)
      have HL := Lib.hid hL
      clear hL HO HMW hcv hmk
      by_cases hbig : 1000 < n
      · have hbig' : (1000 : Int) < n := by omega
        have hw := mwords_wrong (z := z) hbig
        have hb0 : ¬ RightL (uniq (mwords z n)) := by rw [mwords_uniq (by omega)]; exact hw
        have e1 : bcode (mwords z n) = 50 := by unfold bcode; rw [if_neg hb0]
        have e2 : encCode (mwords z n) = 50 := by unfold encCode; rw [if_neg hw]
        rw [e2] at HEn
        rw [decide_eq_false hw] at HRt
        clear hw hb0 e2 hsh HTx
        go_wp2_with fail
        refine HBld.out.mono ?_
        intro e w3 h
        obtain ⟨x3, n3, cap3, rfl, hL3, hb3⟩ := build_told h
        rw [e1]
        clear h hL3
        have hB3 := hB.trans (hb3.mono hB.size)
        generalize encText (mwords z n) = et at *
        go_wp2_with fail
        refine (HEn.out _ hb3).mono ?_
        rintro e w4 ⟨rfl, hb4⟩
        have hB4 := hB3.trans (hb4.mono hB3.size)
        have hb34 := hb3.trans (hb4.mono hb3.size)
        go_wp2_with fail
        refine (HRt.out _ hb34).mono ?_
        rintro e w' ⟨rfl, rfl⟩
        go_wp2
        go_ret
        exact ⟨rfl, hB4⟩
      · have hbig' : ¬ (1000 : Int) < n := by omega
        have hr : RightL (mwords z n) := mwords_right (by omega) (by omega)
        have hb0 : RightL (uniq (mwords z n)) := by rw [mwords_uniq (by omega)]; exact hr
        have e1 : bcode (mwords z n) = 0 := by unfold bcode; rw [if_pos hb0]
        have e2 : encCode (mwords z n) = 0 := by unfold encCode; rw [if_pos hr]
        have e3 : encText (mwords z n) = encD (mwords z n) := by unfold encText; rw [if_pos hr]
        have e4 : blist (mwords z n) = mwords z n := by unfold blist; rw [if_pos hb0, mwords_uniq (by omega)]
        rw [e2, e3] at HEn
        have hel := encD_length hr
        have hED := enc_dec hr []
        rw [List.append_nil] at hED
        clear hr hb0 e2 e3 hsh HRt
        have HD1 := Lib.hid (fun W h => HD.out (encD (mwords z n)) (by omega) W h)
        clear hel HD
        generalize encD (mwords z n) = em at *
        go_wp2_with fail
        refine HBld.out.mono ?_
        intro e w3 h
        obtain ⟨x3, n3, cap3, rfl, hL3, hb3⟩ := build_told h
        rw [e1]
        rw [e4] at hL3
        clear h e1 e4
        have hB3 := hB.trans (hb3.mono hB.size)
        obtain rfl : n = n3 := by rw [← hL3.len, HL.out.len]
        go_wp2_with fail
        refine (HEn.out _ hb3).mono ?_
        rintro e w4 ⟨rfl, hb4⟩
        have hB4 := hB3.trans (hb4.mono hB3.size)
        have hb34 := hb3.trans (hb4.mono hb3.size)
        go_wp2_with fail
        refine (HD1.out _ hB4).mono ?_
        intro e w5 h
        obtain ⟨x5, n5, cap5, rfl, hL5, hb5⟩ := dec_told h
        clear h
        rw [hED.1, hED.2.2]
        rw [hED.2.1] at hL5
        obtain rfl : n = n5 := by rw [← hL5.len, HL.out.len]
        have hB5 := hB4.trans (hb5.mono hB4.size)
        have HT1 := Lib.hid (HTx.out x3 cap3 x cap w5 ((hL3.next hb4).next hb5).strs (HL.out.next (hb34.trans (hb5.mono hb34.size))).strs)
        have HT2 := Lib.hid (fun W h => HTx.out x5 cap5 x cap W (hL5.next h).strs ((HL.out.next (hb34.trans (hb5.mono hb34.size))).next h).strs)
        have HB5 := Lib.hid hB5
        clear HTx HL HEn HBld HD1 hED hb3 hb4 hb34 hb5 hB3 hB4 hB5 hL3 hL5 hB
        go_wp2_with fail
        refine HT1.out.mono ?_
        rintro e w6 ⟨rfl, hb6⟩
        go_wp2_with fail
        refine (HT2.out _ hb6).mono ?_
        rintro e w7 ⟨rfl, hb7⟩
        go_wp2
        go_ret
        exact ⟨rfl, HB5.out.trans ((hb6.trans (hb7.mono hb6.size)).mono HB5.out.size)⟩

set_option maxRecDepth 100000 in
set_option maxHeartbeats 1000000 in
theorem lifted (os : Os) (started : os.Started) (H : Type) (enc : TypeId × Value → H) :
    ReturnsInHanded {} Tryd.checked os 8 .any (fun w args => (Rows.dictManySpec.pre enc Tryd.prog Tryd.f8 [] false w args ∧ laidMetH Tryd.prog laid3 w) ∧ sizedMet enc Tryd.prog Tryd.f8 (OpenSpec.ofChange Rows.dictManySpec) false w args)
      (Rows.dictManySpec.post enc Tryd.prog Tryd.f8 false true false false) := by
  refine returnsInHanded_of_change_and (C := Tryd.checked) (X := fun w _ => laidMetH Tryd.prog laid3 w) (fun _ _ _ hh h => h.of_heap hh) own started (by kernel_rfl) Tryd.func8
    (ChangeSpec.witness_shaped (enc := enc) (C := Tryd.checked) (os := os) (X := fun w _ => laidMetH Tryd.prog laid3 w) false (World.doorLaid Tryd.prog 54 os) #[.int .i64 0, .int .i64 0] 8 rfl (World.shaped_of_RefB (by kernel_rfl) (by kernel_rfl)) (by kernel_rfl) (by kernel_rfl) (by kernel_rfl) (door_met os _)) ?_
  intro W base args ds gs before hval0 hW _ _ hL _
  obtain ⟨⟨a, b, hS⟩, hE⟩ := both_of_laid hL
  have hval : ∀ (j : Nat) t v, Tryd.f8.params[j]? = some t → args[j]? = some v → Value.okWide Tryd.prog W .any base t v := hval0
  have hW' := hW
  obtain ⟨p, q, hA0, hV, rfl, hfz, hnd⟩ := hW
  have hA : DataW.TrodAll enc Tryd.prog W 0 (fun _ => true) true Tryd.f8.params.toList args.toList ds p := hA0
  rw [Tryd.params8] at hA hval
  obtain ⟨v0, vs0, d0, ds0, p0, q0, hargs, rfl, rfl, h0, r0⟩ := trodAll_cons hA
  obtain ⟨v1, vs1, d1, ds1, p1, q1, rfl, rfl, rfl, h1, r1⟩ := trodAll_cons r0
  obtain ⟨rfl, rfl, rfl⟩ := trodAll_nil r1
  obtain rfl : args = #[v0, v1] := by cases args; simp_all
  obtain ⟨rfl, rfl⟩ := trodVars_none hV
  obtain ⟨a0, rfl, rfl, rfl, w0⟩ := open_int Tryd.underlying3 (hval 0 3 v0 rfl rfl) h0
  obtain ⟨l0, u0⟩ := i64_of_wf w0
  obtain ⟨a1, rfl, rfl, rfl, w1⟩ := open_int Tryd.underlying3 (hval 1 3 v1 rfl rfl) h1
  obtain ⟨l1, u1⟩ := i64_of_wf w1
  clear hA0 hval0
  simp only [List.append_nil] at hW'
  refine (walk a b a0 l0 u0 a1 l1 u1 W hS hE (Nat.le_refl _)).mono fun e W' ⟨he, hg⟩ => ?_
  subst he
  exact ⟨_, rfl, post_below (pa := []) (pv := []) hW' (fun _ _ _ => (trodAll_cons_mk (shut_bool Tryd.underlying4 _) trodAll_mk0)) (fun sp hsp => (trodAll_cons_mk (shut_int Tryd.underlying3 w0) (trodAll_cons_mk (shut_int Tryd.underlying3 w1) trodAll_mk0))) (fun _ _ => rfl) rfl
    hg (ok_one (by kernel_rfl) rfl (okWide_bool_mk Tryd.underlying4 _))⟩

theorem over : Rows.DictManySaid :=
  OpenClaim.holds_of_wide 8 Tryd.f8 rfl rfl rfl rfl rfl rfl rfl ⟨rfl, rfl, rfl, rfl, rfl⟩ rfl rfl rfl rfl rfl (by kernel_rfl) Tryd.func8 (by kernel_rfl)
    (of_decide_eq_true (by kernel_rfl)) (by unfold Func.isWrapper; first | (rw [if_pos (by decide +kernel)]; kernel_rfl) | (rw [if_neg (by decide +kernel)]; exact ⟨rfl, rfl⟩))
    (fun os started H enc _ => lifted os started H enc)

/-- The statement: the tied card. -/
theorem proved : Rows.DictManyCardSaid :=
  Claim7.holds_tied_plain_at .later [] [.handle, .sentinel, .sentinel] true _ true
    over (fun _ h => by cases h) (by kernel_rfl) (fun _ h => by cases h) dictMany_row_tie rfl ⟨rfl, rfl⟩ (by kernel_rfl) rfl
    (fun f fn hf hfn => by
      obtain rfl : f = 8 := Option.some.inj ((show Tryd.prog.funcNamed "tesserae/tesseraelaw05.DictMany" = some 8 by kernel_rfl).symm.trans hf) |>.symm
      obtain rfl : fn = Tryd.f8 := (Option.some.inj (Tryd.func8.symm.trans hfn)).symm
      exact ⟨by kernel_rfl, fun j t ht => by
        rw [Tryd.params8] at ht
        have hm : t ∈ [3, 3] := by simpa using Array.mem_of_getElem? ht
        have hall : ([3, 3].all fun u => !Tryd.prog.wantsStandIn u) = true := by kernel_rfl
        exact (show Tryd.prog.wantsStandIn t = false by simpa using List.all_eq_true.1 hall t hm)⟩)
    (by kernel_rfl)
#print axioms proved
end Go.Proofs.YthoegicchjadaaaDoor.dictMany
