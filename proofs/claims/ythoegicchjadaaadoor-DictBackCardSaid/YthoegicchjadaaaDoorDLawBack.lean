/- DictBack: what is encoded is decoded, whatever stands behind; what is decoded is encoded to its own bytes; for every list (its first hundred words, each cut at 110 bytes) and every text (its first three thousand bytes). No condition beyond the row's: the handle of error's type and package varint's two errors lie as start-up laid them (tied to the program's text). -/
import Derived.Test.YthoegicchjadaaaDoorDRow
import Derived.Test.YthoegicchjadaaaDoorDTold
namespace Go.Proofs.YthoegicchjadaaaDoor.dictBack
open Go.ChangeShapes Go.WideShapes Go.ChangeAt Go.RowKit Go.Joins

set_option maxRecDepth 100000 in
set_option maxHeartbeats 8000000 in
theorem walk {n₀ : Nat} (a b : Addr) (x : Option Addr) (len cap : Nat) (ls : List (List UInt8)) (hlc : len ≤ cap) (hcm : cap ≤ 9223372036854775807) (hln : ls.length = len) (hz : ∀ j : Nat, (ls[j]?.getD []).length ≤ 9223372036854775807)
    (t : List UInt8) (ht : t.length ≤ 9223372036854775807) (w : World)
    (hI : Strs w.heap.size w (.slice x len cap) ls) (hS : Sent n₀ w a b) (hE : Ety n₀ w) (hn₀ : n₀ ≤ w.heap.size) :
    Calls Tryd.prog 6 #[.slice x len cap, .string ⟨t.toArray⟩] w fun e w' => e = .returned (.bool true) ∧ Below w.heap.size w w' := by
  have HS := Lib.hid (shown_any a b w hS hE hn₀)
  have HF := Lib.hid (fun W (h : Below w.heap.size w W) => few_told x len cap ls hz W ((Wrds.mk hln hlc hcm hI).next h))
  have hcl : (t.take 3000).length ≤ 3000 := List.length_take_le _ _
  have HC := Lib.hid (cut_any t)
  generalize t.take 3000 = s at *
  have HD := Lib.hid (fun s hs W (h : Below w.heap.size w W) => decode_any a b s hs W (hS.below (h.mono hn₀)) (hE.below (h.mono hn₀)) (Nat.le_trans hn₀ h.size))
  have HRT := Lib.hid (dec_enc (s := s))
  have HDR := Lib.hid (dlist_right s)
  have hl1 := few_length ls
  have hs1 := few_short ls
  clear hI hS hE hn₀ hz hln hlc hcm ht
  by_cases hd : dcode s = 0
  · by_cases hr : RightL (uniq (fewS ls))
    · go_enter Tryd.func6, Tryd.ntmps6
      go_wp2_with fail
      refine HS.out.mono ?_
      rintro e w1 ⟨rfl, hB1⟩
      go_wp2_with fail
      refine (HF.out _ hB1).mono ?_
      rintro e w2 ⟨x2, n2, cap2, rfl, hL2, hb2⟩
      have hB2 := hB1.trans (hb2.mono hB1.size)
      generalize fewS ls = l at *
      have hn2 := hL2.len
      have HB := Lib.hid (build_any x2 n2 cap2 l hn2 (by omega) w2 hL2.strs)
      have hbl := blist_length l
      have hri := right_blist l
      go_wp2_with fail
      refine HB.out.mono ?_
      intro e w3 h
      obtain ⟨x3, n3, cap3, rfl, hL3, hb3⟩ := build_told h
      have hB3 := hB2.trans (hb3.mono hB2.size)
      have hn3 := hL3.len
      have hc : bcode l = 0 := by unfold bcode; rw [if_pos hr]
      rw [hc]
      generalize blist l = m at *
      clear h hL2 hb2 hb3 hB1 hB2 HB HF HS hs1 hc
      have HEn := Lib.hid (encode_any x3 n3 cap3 m hn3 (by omega) w3 hL3.strs)
      have e1 : encCode m = 0 := by unfold encCode; rw [if_pos hri]
      have e2 : encText m = encD m := by unfold encText; rw [if_pos hri]
      rw [e1, e2] at HEn
      have hel := encD_length hri
      have hED := enc_dec hri s
      have hadd : ∀ W : World, (Op.stringOp .add ⟨(encD m).toArray⟩ ⟨s.toArray⟩).run Tryd.prog W = .ok (.string ⟨(encD m ++ s).toArray⟩) W := fun W => by
        rw [run_string_add_sum W _ _ (by simp [ByteArray.size]; omega), app_mk]
      have HD1 := Lib.hid (fun W h => HD.out (encD m ++ s) (by rw [List.length_append]; omega) W h)
      have HD2 := Lib.hid (fun W h => HD.out s (by omega) W h)
      clear HD hel e1 e2 hri
      generalize encD m ++ s = es at *
      generalize encD m = em at *
      go_wp2_with fail
      refine HEn.out.mono ?_
      rintro e w4 ⟨rfl, hb4⟩
      have hB4 := hB3.trans (hb4.mono hB3.size)
      have hL4 := hL3.next hb4
      go_wp2_with fail
      refine (HC.out _).mono ?_
      rintro e w' ⟨rfl, rfl⟩
      go_wp2_with fail
      refine (HD1.out _ hB4).mono ?_
      intro e w5 h
      obtain ⟨x5, n5, cap5, rfl, hL5, hb5⟩ := dec_told h
      clear h
      have hB5 := hB4.trans (hb5.mono hB4.size)
      have hL45 := hL4.next hb5
      rw [hED.1, hED.2.2]
      rw [hED.2.1] at hL5
      obtain rfl : n3 = n5 := by rw [← hL5.len, hn3]
      have HT := Lib.hid (texts_same x5 x3 n3 cap5 cap3 m (by omega) _ hL5.strs hL45.strs)
      have HBx := Lib.hid hB5
      clear hED hB3 hB4 hB5 hb4 hb5 hL3 hL4 hL5 hL45 HEn HD1 hadd hn3
      go_wp2_with fail
      refine HT.out.mono ?_
      rintro e w6 ⟨rfl, hb6⟩
      have hB6 := HBx.out.trans (hb6.mono HBx.out.size)
      go_wp2_with fail
      refine (HC.out _).mono ?_
      rintro e w' ⟨rfl, rfl⟩
      go_wp2_with fail
      refine (HC.out _).mono ?_
      rintro e w' ⟨rfl, rfl⟩
      go_wp2_with fail
      refine (HD2.out _ hB6).mono ?_
      intro e w7 h
      obtain ⟨x7, n7, cap7, rfl, hL7, hb7⟩ := dec_told h
      clear h
      have hB7 := hB6.trans (hb7.mono hB6.size)
      have hdr := HDR.out
      have hn7 := hL7.len
      have hl7 := hdr.1
      have HEn := Lib.hid (encode_any x7 n7 cap7 (dlist s) hn7 (by omega) w7 hL7.strs)
      have HR := Lib.hid (fun W h => right_any x7 n7 cap7 (dlist s) hn7 (by omega) W (hL7.next h).strs)
      rw [decide_eq_true hdr] at HR
      have e1 : encCode (dlist s) = 0 := by unfold encCode; rw [if_pos hdr]
      have e2 : encText (dlist s) = encD (dlist s) := by unfold encText; rw [if_pos hdr]
      rw [e1, e2] at HEn
      have hel := encD_length hdr
      clear e1 e2 hB6 hb7 hL7 hl7 hn7 hl1 hdr HBx HD2 HT
      rw [hd]
      have hrt := (HRT.out hd).2
      have hrl : (drest s).length ≤ 3000 := by have := congrArg List.length hrt; rw [List.length_append] at this; omega
      have hadd : ∀ W : World, (Op.stringOp .add ⟨(encD (dlist s)).toArray⟩ ⟨(drest s).toArray⟩).run Tryd.prog W = .ok (.string ⟨s.toArray⟩) W := fun W => by
        rw [run_string_add_sum W _ _ (by simp [ByteArray.size]; omega), app_mk, hrt]
      clear hrt hel hrl hd
      generalize encD (dlist s) = em' at *
      generalize drest s = r at *
      generalize dlist s = m' at *
      go_wp2_with fail
      refine HEn.out.mono ?_
      rintro e w8 ⟨rfl, hb8⟩
      have hB8 := hB7.trans (hb8.mono hB7.size)
      go_wp2_with fail
      refine (HC.out _).mono ?_
      rintro e w' ⟨rfl, rfl⟩
      go_wp2_with fail
      refine (HR.out _ hb8).mono ?_
      rintro e w' ⟨rfl, rfl⟩
      go_wp2
      go_ret
      exact ⟨rfl, hB8⟩
    · go_enter Tryd.func6, Tryd.ntmps6
      go_wp2_with fail
      refine HS.out.mono ?_
      rintro e w1 ⟨rfl, hB1⟩
      go_wp2_with fail
      refine (HF.out _ hB1).mono ?_
      rintro e w2 ⟨x2, n2, cap2, rfl, hL2, hb2⟩
      have hB2 := hB1.trans (hb2.mono hB1.size)
      generalize fewS ls = l at *
      have hn2 := hL2.len
      have HB := Lib.hid (build_any x2 n2 cap2 l hn2 (by omega) w2 hL2.strs)
      have hbl := blist_length l
      have hri := right_blist l
      go_wp2_with fail
      refine HB.out.mono ?_
      intro e w3 h
      obtain ⟨x3, n3, cap3, rfl, hL3, hb3⟩ := build_told h
      have hB3 := hB2.trans (hb3.mono hB2.size)
      have hn3 := hL3.len
      have hc : bcode l = 50 := by unfold bcode; rw [if_neg hr]
      rw [hc]
      generalize blist l = m at *
      clear h hL2 hb2 hb3 hB1 hB2 HB HF HS hs1 hc
      have HEn := Lib.hid (encode_any x3 n3 cap3 m hn3 (by omega) w3 hL3.strs)
      have e1 : encCode m = 0 := by unfold encCode; rw [if_pos hri]
      have e2 : encText m = encD m := by unfold encText; rw [if_pos hri]
      rw [e1, e2] at HEn
      have hel := encD_length hri
      have hED := enc_dec hri s
      have hadd : ∀ W : World, (Op.stringOp .add ⟨(encD m).toArray⟩ ⟨s.toArray⟩).run Tryd.prog W = .ok (.string ⟨(encD m ++ s).toArray⟩) W := fun W => by
        rw [run_string_add_sum W _ _ (by simp [ByteArray.size]; omega), app_mk]
      have HD1 := Lib.hid (fun W h => HD.out (encD m ++ s) (by rw [List.length_append]; omega) W h)
      have HD2 := Lib.hid (fun W h => HD.out s (by omega) W h)
      clear HD hel e1 e2 hri
      generalize encD m ++ s = es at *
      generalize encD m = em at *
      go_wp2_with fail
      refine HEn.out.mono ?_
      rintro e w4 ⟨rfl, hb4⟩
      have hB4 := hB3.trans (hb4.mono hB3.size)
      have hL4 := hL3.next hb4
      go_wp2_with fail
      refine (HC.out _).mono ?_
      rintro e w' ⟨rfl, rfl⟩
      go_wp2_with fail
      refine (HD1.out _ hB4).mono ?_
      intro e w5 h
      obtain ⟨x5, n5, cap5, rfl, hL5, hb5⟩ := dec_told h
      clear h
      have hB5 := hB4.trans (hb5.mono hB4.size)
      have hL45 := hL4.next hb5
      rw [hED.1, hED.2.2]
      rw [hED.2.1] at hL5
      obtain rfl : n3 = n5 := by rw [← hL5.len, hn3]
      have HT := Lib.hid (texts_same x5 x3 n3 cap5 cap3 m (by omega) _ hL5.strs hL45.strs)
      have HBx := Lib.hid hB5
      clear hED hB3 hB4 hB5 hb4 hb5 hL3 hL4 hL5 hL45 HEn HD1 hadd hn3
      have hB6 := HBx.out
      generalize w5 = w6 at *
      go_wp2_with fail
      refine (HC.out _).mono ?_
      rintro e w' ⟨rfl, rfl⟩
      go_wp2_with fail
      refine (HD2.out _ hB6).mono ?_
      intro e w7 h
      obtain ⟨x7, n7, cap7, rfl, hL7, hb7⟩ := dec_told h
      clear h
      have hB7 := hB6.trans (hb7.mono hB6.size)
      have hdr := HDR.out
      have hn7 := hL7.len
      have hl7 := hdr.1
      have HEn := Lib.hid (encode_any x7 n7 cap7 (dlist s) hn7 (by omega) w7 hL7.strs)
      have HR := Lib.hid (fun W h => right_any x7 n7 cap7 (dlist s) hn7 (by omega) W (hL7.next h).strs)
      rw [decide_eq_true hdr] at HR
      have e1 : encCode (dlist s) = 0 := by unfold encCode; rw [if_pos hdr]
      have e2 : encText (dlist s) = encD (dlist s) := by unfold encText; rw [if_pos hdr]
      rw [e1, e2] at HEn
      have hel := encD_length hdr
      clear e1 e2 hB6 hb7 hL7 hl7 hn7 hl1 hdr HBx HD2 HT
      rw [hd]
      have hrt := (HRT.out hd).2
      have hrl : (drest s).length ≤ 3000 := by have := congrArg List.length hrt; rw [List.length_append] at this; omega
      have hadd : ∀ W : World, (Op.stringOp .add ⟨(encD (dlist s)).toArray⟩ ⟨(drest s).toArray⟩).run Tryd.prog W = .ok (.string ⟨s.toArray⟩) W := fun W => by
        rw [run_string_add_sum W _ _ (by simp [ByteArray.size]; omega), app_mk, hrt]
      clear hrt hel hrl hd
      generalize encD (dlist s) = em' at *
      generalize drest s = r at *
      generalize dlist s = m' at *
      go_wp2_with fail
      refine HEn.out.mono ?_
      rintro e w8 ⟨rfl, hb8⟩
      have hB8 := hB7.trans (hb8.mono hB7.size)
      go_wp2_with fail
      refine (HC.out _).mono ?_
      rintro e w' ⟨rfl, rfl⟩
      go_wp2_with fail
      refine (HR.out _ hb8).mono ?_
      rintro e w' ⟨rfl, rfl⟩
      go_wp2
      go_ret
      exact ⟨rfl, hB8⟩
  · by_cases hr : RightL (uniq (fewS ls))
    · go_enter Tryd.func6, Tryd.ntmps6
      go_wp2_with fail
      refine HS.out.mono ?_
      rintro e w1 ⟨rfl, hB1⟩
      go_wp2_with fail
      refine (HF.out _ hB1).mono ?_
      rintro e w2 ⟨x2, n2, cap2, rfl, hL2, hb2⟩
      have hB2 := hB1.trans (hb2.mono hB1.size)
      generalize fewS ls = l at *
      have hn2 := hL2.len
      have HB := Lib.hid (build_any x2 n2 cap2 l hn2 (by omega) w2 hL2.strs)
      have hbl := blist_length l
      have hri := right_blist l
      go_wp2_with fail
      refine HB.out.mono ?_
      intro e w3 h
      obtain ⟨x3, n3, cap3, rfl, hL3, hb3⟩ := build_told h
      have hB3 := hB2.trans (hb3.mono hB2.size)
      have hn3 := hL3.len
      have hc : bcode l = 0 := by unfold bcode; rw [if_pos hr]
      rw [hc]
      generalize blist l = m at *
      clear h hL2 hb2 hb3 hB1 hB2 HB HF HS hs1 hc
      have HEn := Lib.hid (encode_any x3 n3 cap3 m hn3 (by omega) w3 hL3.strs)
      have e1 : encCode m = 0 := by unfold encCode; rw [if_pos hri]
      have e2 : encText m = encD m := by unfold encText; rw [if_pos hri]
      rw [e1, e2] at HEn
      have hel := encD_length hri
      have hED := enc_dec hri s
      have hadd : ∀ W : World, (Op.stringOp .add ⟨(encD m).toArray⟩ ⟨s.toArray⟩).run Tryd.prog W = .ok (.string ⟨(encD m ++ s).toArray⟩) W := fun W => by
        rw [run_string_add_sum W _ _ (by simp [ByteArray.size]; omega), app_mk]
      have HD1 := Lib.hid (fun W h => HD.out (encD m ++ s) (by rw [List.length_append]; omega) W h)
      have HD2 := Lib.hid (fun W h => HD.out s (by omega) W h)
      clear HD hel e1 e2 hri
      generalize encD m ++ s = es at *
      generalize encD m = em at *
      go_wp2_with fail
      refine HEn.out.mono ?_
      rintro e w4 ⟨rfl, hb4⟩
      have hB4 := hB3.trans (hb4.mono hB3.size)
      have hL4 := hL3.next hb4
      go_wp2_with fail
      refine (HC.out _).mono ?_
      rintro e w' ⟨rfl, rfl⟩
      go_wp2_with fail
      refine (HD1.out _ hB4).mono ?_
      intro e w5 h
      obtain ⟨x5, n5, cap5, rfl, hL5, hb5⟩ := dec_told h
      clear h
      have hB5 := hB4.trans (hb5.mono hB4.size)
      have hL45 := hL4.next hb5
      rw [hED.1, hED.2.2]
      rw [hED.2.1] at hL5
      obtain rfl : n3 = n5 := by rw [← hL5.len, hn3]
      have HT := Lib.hid (texts_same x5 x3 n3 cap5 cap3 m (by omega) _ hL5.strs hL45.strs)
      have HBx := Lib.hid hB5
      clear hED hB3 hB4 hB5 hb4 hb5 hL3 hL4 hL5 hL45 HEn HD1 hadd hn3
      go_wp2_with fail
      refine HT.out.mono ?_
      rintro e w6 ⟨rfl, hb6⟩
      have hB6 := HBx.out.trans (hb6.mono HBx.out.size)
      go_wp2_with fail
      refine (HC.out _).mono ?_
      rintro e w' ⟨rfl, rfl⟩
      go_wp2_with fail
      refine (HC.out _).mono ?_
      rintro e w' ⟨rfl, rfl⟩
      go_wp2_with fail
      refine (HD2.out _ hB6).mono ?_
      intro e w7 h
      obtain ⟨x7, n7, cap7, rfl, hL7, hb7⟩ := dec_told h
      clear h
      have hB7 := hB6.trans (hb7.mono hB6.size)
      have hdr := HDR.out
      have hn7 := hL7.len
      have hl7 := hdr.1
      have HEn := Lib.hid (encode_any x7 n7 cap7 (dlist s) hn7 (by omega) w7 hL7.strs)
      have HR := Lib.hid (fun W h => right_any x7 n7 cap7 (dlist s) hn7 (by omega) W (hL7.next h).strs)
      rw [decide_eq_true hdr] at HR
      have e1 : encCode (dlist s) = 0 := by unfold encCode; rw [if_pos hdr]
      have e2 : encText (dlist s) = encD (dlist s) := by unfold encText; rw [if_pos hdr]
      rw [e1, e2] at HEn
      have hel := encD_length hdr
      clear e1 e2 hB6 hb7 hL7 hl7 hn7 hl1 hdr HBx HD2 HT
      have hd' : (dcode s == 0) = false := by simpa using hd
      generalize dcode s = dc at *
      generalize encD (dlist s) = em' at *
      generalize drest s = r at *
      generalize dlist s = m' at *
      go_wp2_with fail
      refine HEn.out.mono ?_
      rintro e w8 ⟨rfl, hb8⟩
      have hB8 := hB7.trans (hb8.mono hB7.size)
      go_wp2
      go_ret
      exact ⟨rfl, hB8⟩
    · go_enter Tryd.func6, Tryd.ntmps6
      go_wp2_with fail
      refine HS.out.mono ?_
      rintro e w1 ⟨rfl, hB1⟩
      go_wp2_with fail
      refine (HF.out _ hB1).mono ?_
      rintro e w2 ⟨x2, n2, cap2, rfl, hL2, hb2⟩
      have hB2 := hB1.trans (hb2.mono hB1.size)
      generalize fewS ls = l at *
      have hn2 := hL2.len
      have HB := Lib.hid (build_any x2 n2 cap2 l hn2 (by omega) w2 hL2.strs)
      have hbl := blist_length l
      have hri := right_blist l
      go_wp2_with fail
      refine HB.out.mono ?_
      intro e w3 h
      obtain ⟨x3, n3, cap3, rfl, hL3, hb3⟩ := build_told h
      have hB3 := hB2.trans (hb3.mono hB2.size)
      have hn3 := hL3.len
      have hc : bcode l = 50 := by unfold bcode; rw [if_neg hr]
      rw [hc]
      generalize blist l = m at *
      clear h hL2 hb2 hb3 hB1 hB2 HB HF HS hs1 hc
      have HEn := Lib.hid (encode_any x3 n3 cap3 m hn3 (by omega) w3 hL3.strs)
      have e1 : encCode m = 0 := by unfold encCode; rw [if_pos hri]
      have e2 : encText m = encD m := by unfold encText; rw [if_pos hri]
      rw [e1, e2] at HEn
      have hel := encD_length hri
      have hED := enc_dec hri s
      have hadd : ∀ W : World, (Op.stringOp .add ⟨(encD m).toArray⟩ ⟨s.toArray⟩).run Tryd.prog W = .ok (.string ⟨(encD m ++ s).toArray⟩) W := fun W => by
        rw [run_string_add_sum W _ _ (by simp [ByteArray.size]; omega), app_mk]
      have HD1 := Lib.hid (fun W h => HD.out (encD m ++ s) (by rw [List.length_append]; omega) W h)
      have HD2 := Lib.hid (fun W h => HD.out s (by omega) W h)
      clear HD hel e1 e2 hri
      generalize encD m ++ s = es at *
      generalize encD m = em at *
      go_wp2_with fail
      refine HEn.out.mono ?_
      rintro e w4 ⟨rfl, hb4⟩
      have hB4 := hB3.trans (hb4.mono hB3.size)
      have hL4 := hL3.next hb4
      go_wp2_with fail
      refine (HC.out _).mono ?_
      rintro e w' ⟨rfl, rfl⟩
      go_wp2_with fail
      refine (HD1.out _ hB4).mono ?_
      intro e w5 h
      obtain ⟨x5, n5, cap5, rfl, hL5, hb5⟩ := dec_told h
      clear h
      have hB5 := hB4.trans (hb5.mono hB4.size)
      have hL45 := hL4.next hb5
      rw [hED.1, hED.2.2]
      rw [hED.2.1] at hL5
      obtain rfl : n3 = n5 := by rw [← hL5.len, hn3]
      have HT := Lib.hid (texts_same x5 x3 n3 cap5 cap3 m (by omega) _ hL5.strs hL45.strs)
      have HBx := Lib.hid hB5
      clear hED hB3 hB4 hB5 hb4 hb5 hL3 hL4 hL5 hL45 HEn HD1 hadd hn3
      have hB6 := HBx.out
      generalize w5 = w6 at *
      go_wp2_with fail
      refine (HC.out _).mono ?_
      rintro e w' ⟨rfl, rfl⟩
      go_wp2_with fail
      refine (HD2.out _ hB6).mono ?_
      intro e w7 h
      obtain ⟨x7, n7, cap7, rfl, hL7, hb7⟩ := dec_told h
      clear h
      have hB7 := hB6.trans (hb7.mono hB6.size)
      have hdr := HDR.out
      have hn7 := hL7.len
      have hl7 := hdr.1
      have HEn := Lib.hid (encode_any x7 n7 cap7 (dlist s) hn7 (by omega) w7 hL7.strs)
      have HR := Lib.hid (fun W h => right_any x7 n7 cap7 (dlist s) hn7 (by omega) W (hL7.next h).strs)
      rw [decide_eq_true hdr] at HR
      have e1 : encCode (dlist s) = 0 := by unfold encCode; rw [if_pos hdr]
      have e2 : encText (dlist s) = encD (dlist s) := by unfold encText; rw [if_pos hdr]
      rw [e1, e2] at HEn
      have hel := encD_length hdr
      clear e1 e2 hB6 hb7 hL7 hl7 hn7 hl1 hdr HBx HD2 HT
      have hd' : (dcode s == 0) = false := by simpa using hd
      generalize dcode s = dc at *
      generalize encD (dlist s) = em' at *
      generalize drest s = r at *
      generalize dlist s = m' at *
      go_wp2_with fail
      refine HEn.out.mono ?_
      rintro e w8 ⟨rfl, hb8⟩
      have hB8 := hB7.trans (hb8.mono hB7.size)
      go_wp2
      go_ret
      exact ⟨rfl, hB8⟩

set_option maxRecDepth 100000 in
set_option maxHeartbeats 1000000 in
theorem lifted (os : Os) (started : os.Started) (H : Type) (enc : TypeId × Value → H) :
    ReturnsInHanded {} Tryd.checked os 6 .any (fun w args => (Rows.dictBackSpec.pre enc Tryd.prog Tryd.f6 [] false w args ∧ laidMetH Tryd.prog laid3 w) ∧ sizedMet enc Tryd.prog Tryd.f6 (OpenSpec.ofChange Rows.dictBackSpec) false w args)
      (Rows.dictBackSpec.post enc Tryd.prog Tryd.f6 false true false false) := by
  refine returnsInHanded_of_change_and (C := Tryd.checked) (X := fun w _ => laidMetH Tryd.prog laid3 w) (fun _ _ _ hh h => h.of_heap hh) own started (by kernel_rfl) Tryd.func6
    (ChangeSpec.witness_shaped (enc := enc) (C := Tryd.checked) (os := os) (X := fun w _ => laidMetH Tryd.prog laid3 w) false (World.doorLaid Tryd.prog 54 os) #[.slice none 0 0, .string ⟨#[]⟩] 8 rfl (World.shaped_of_RefB (by kernel_rfl) (by kernel_rfl)) (by kernel_rfl) (by kernel_rfl) (by kernel_rfl) (door_met os _)) ?_
  intro W base args ds gs before hval0 hW _ _ hL _
  obtain ⟨⟨a, b, hS⟩, hE⟩ := both_of_laid hL
  have hval : ∀ (j : Nat) t v, Tryd.f6.params[j]? = some t → args[j]? = some v → Value.okWide Tryd.prog W .any base t v := hval0
  have hW' := hW
  obtain ⟨p, q, hA0, hV, rfl, hfz, hnd⟩ := hW
  have hA : DataW.TrodAll enc Tryd.prog W 0 (fun _ => true) true Tryd.f6.params.toList args.toList ds p := hA0
  rw [Tryd.params6] at hA hval
  obtain ⟨v0, vs0, d0, ds0, p0, q0, hargs, rfl, rfl, h0, r0⟩ := trodAll_cons hA
  obtain ⟨v1, vs1, d1, ds1, p1, q1, rfl, rfl, rfl, h1, r1⟩ := trodAll_cons r0
  obtain ⟨rfl, rfl, rfl⟩ := trodAll_nil r1
  obtain rfl : args = #[v0, v1] := by cases args; simp_all
  obtain ⟨rfl, rfl⟩ := trodVars_none hV
  obtain ⟨x0, len0, cap0, ls0, rfl, hlc0, hcm0, hln0, hz0, hI0, hr0⟩ := open_strings (hval 0 22 v0 rfl rfl) h0 (fun q hq => hW'.lt q (by simp [hq]))
  obtain ⟨z1, rfl, l1, rfl, hr1⟩ := open_text (hval 1 9 v1 rfl rfl) h1
  clear hA0 hval0
  simp only [List.append_nil] at hW'
  refine (walk a b x0 len0 cap0 ls0 hlc0 hcm0 hln0 hz0 z1 l1 W hI0 hS hE (Nat.le_refl _)).mono fun e W' ⟨he, hg⟩ => ?_
  subst he
  exact ⟨_, rfl, post_below (pa := _) (pv := []) hW' (fun _ _ _ => (trodAll_cons_mk (shut_bool Tryd.underlying4 _) trodAll_mk0)) (fun sp hsp => (trodAll_cons_mk (hr0 _ hg sp (fun p hp => hsp p (by simp [hp]))) (trodAll_cons_mk (hr1 _ _ _ _) trodAll_mk0))) (fun _ _ => rfl) (by simp)
    hg (ok_one (by kernel_rfl) rfl (okWide_bool_mk Tryd.underlying4 _))⟩

theorem over : Rows.DictBackSaid :=
  OpenClaim.holds_of_wide 6 Tryd.f6 rfl rfl rfl rfl rfl rfl rfl ⟨rfl, rfl, rfl, rfl, rfl⟩ rfl rfl rfl rfl rfl (by kernel_rfl) Tryd.func6 (by kernel_rfl)
    (of_decide_eq_true (by kernel_rfl)) (by unfold Func.isWrapper; first | (rw [if_pos (by decide +kernel)]; kernel_rfl) | (rw [if_neg (by decide +kernel)]; exact ⟨rfl, rfl⟩))
    (fun os started H enc _ => lifted os started H enc)

/-- The statement: the tied card. -/
theorem proved : Rows.DictBackCardSaid :=
  Claim7.holds_tied_plain_at .later [] [.handle, .sentinel, .sentinel] true _ true
    over (fun _ h => by cases h) (by kernel_rfl) (fun _ h => by cases h) dictBack_row_tie rfl ⟨rfl, rfl⟩ (by kernel_rfl) rfl
    (fun f fn hf hfn => by
      obtain rfl : f = 6 := Option.some.inj ((show Tryd.prog.funcNamed "tesserae/tesseraelaw05.DictBack" = some 6 by kernel_rfl).symm.trans hf) |>.symm
      obtain rfl : fn = Tryd.f6 := (Option.some.inj (Tryd.func6.symm.trans hfn)).symm
      exact ⟨by kernel_rfl, fun j t ht => by
        rw [Tryd.params6] at ht
        have hm : t ∈ [22, 9] := by simpa using Array.mem_of_getElem? ht
        have hall : ([22, 9].all fun u => !Tryd.prog.wantsStandIn u) = true := by kernel_rfl
        exact (show Tryd.prog.wantsStandIn t = false by simpa using List.all_eq_true.1 hall t hm)⟩)
    (by kernel_rfl)
#print axioms proved
end Go.Proofs.YthoegicchjadaaaDoor.dictBack
