/- The document's Decode. -/
import Derived.Test.YthoegicchjadaaaDoorRDecM
import Derived.Test.YthoegicchjadaaaDoorREnc
namespace Go.Proofs.YthoegicchjadaaaDoor
open Go.RowKit

set_option maxRecDepth 100000 in
set_option maxHeartbeats 8000000 in
theorem rdecode_any (s : List UInt8) (hs : s.length ≤ 9223372036854775807) (w : World) :
    Calls Tryd.prog 27 #[.string ⟨s.toArray⟩] w (DecPost s w) := by
  have HG := Lib.hid (ref_get_any s hs w)
  have hnl := vnum_lt s
  unfold GetPost at HG
  by_cases h1 : vcode s = 0
  · rw [h1] at HG
    by_cases h2 : 1000 < vnum s
    · have HP : Hid (∀ w', Below w.heap.size w w' → DecPost s w (.returned (.tuple #[.slice none 0 0, .string ⟨s.toArray⟩, .int .i64 50])) w') := Lib.hid (fun w' h => DecPost.bad (dcode_2 h1 h2) (by decide) h)
      have h2' : (1000 : Int) < vnum s := by omega
      clear h1
      generalize vnum s = n at *
      generalize s.drop (vsize s) = r at *
      go_enter Tryd.func27, Tryd.ntmps27
      go_wp2_with fail
      refine HG.out.mono ?_
      rintro e w1 ⟨rfl, hb1⟩
      go_wp2
      go_ret3
      exact HP.out _ hb1
    · have h2' : ¬ (1000 : Int) < vnum s := by omega
      have HC3 := Lib.hid (fun h => dcode_3 h1 h2 (s := s) h)
      have HC4 := Lib.hid (fun h => dcode_4 h1 h2 (s := s) h)
      have HBAD : Hid (∀ (c : Int) (w' : World), rcodes (vnum s) [] (vrest s) = c → c ≠ 0 → Below w.heap.size w w' → DecPost s w (.returned (.tuple #[.slice none 0 0, .string ⟨s.toArray⟩, .int .i64 c])) w') := Lib.hid (fun c w' h h0 hb => DecPost.bad (by rw [HC3.out (by rw [h]; exact h0), h]) h0 hb)
      have HDO : Hid (dok s ↔ RightL (rlist (vnum s) [] (vrest s)) ∧ encD (rlist (vnum s) [] (vrest s)) = s.take (s.length - (rrests (vnum s) [] (vrest s)).length)) := Lib.hid Iff.rfl
      have HDL : Hid (dcode s = 0 → dlist s = rlist (vnum s) [] (vrest s) ∧ drest s = rrests (vnum s) [] (vrest s)) := Lib.hid (fun h => ⟨by unfold dlist; rw [if_pos h], by unfold drest; rw [if_pos h]⟩)
      have HSF := Lib.hid (drest_suffix s).length_le
      have hvr := vrest_le s
      have hvd : s.drop (vsize s) = vrest s := rfl
      rw [hvd] at HG
      clear hvd HC3 h1
      obtain ⟨C, hC⟩ : ∃ C, C = rcodes (vnum s) [] (vrest s) := ⟨_, rfl⟩
      obtain ⟨L, hL⟩ : ∃ L, L = rlist (vnum s) [] (vrest s) := ⟨_, rfl⟩
      obtain ⟨RR, hRR⟩ : ∃ RR, RR = rrests (vnum s) [] (vrest s) := ⟨_, rfl⟩
      rw [← hRR] at HSF
      rw [← hL, ← hRR] at HDO HDL
      rw [← hC] at HBAD HC4
      have HRC : Hid (C = rcodes (vnum s - 0) [] (vrest s)) := Lib.hid (by rw [Nat.sub_zero, hC])
      have HRL : Hid (L = [] ++ rlist (vnum s - 0) [] (vrest s)) := Lib.hid (by rw [Nat.sub_zero, List.nil_append, hL])
      have HRR : Hid (RR = rrests (vnum s - 0) [] (vrest s)) := Lib.hid (by rw [Nat.sub_zero, hRR])
      have HLS : Hid (∀ x ∈ L, x.length ≤ 100) := Lib.hid (by rw [hL]; exact rlist_short _ _ _)
      clear hC hL hRR
      generalize vrest s = s1 at *
      generalize vnum s = n at *
      have HVR := Lib.hid hvr
      obtain ⟨i0, hi, hz0, hz1, hz2⟩ := info_parts info_str
      have HI0 := Lib.hid hi; have HZ0 := Lib.hid hz0; have HZ1 := Lib.hid hz1; have HZ2 := Lib.hid hz2
      clear hi hz0 hz1 hz2 h2 hvr hnl
      go_enter Tryd.func27, Tryd.ntmps27
      go_wp2_with fail
      refine HG.out.mono ?_
      rintro e w1 ⟨rfl, hb1⟩
      go_wp2
      go_loopw [6, 8, 9, 10] (fun rv v lv i wr => ∃ (k : Nat) (r last : List UInt8) (acc : List (List UInt8)), k ≤ n ∧ rv = .string ⟨r.toArray⟩ ∧ r.length ≤ s.length ∧ lv = .string ⟨last.toArray⟩ ∧ last.length ≤ 100 ∧ i = .int .u64 k ∧ acc.length = k ∧ Hid (OwnS w.heap.size wr v acc) ∧
          Hid (C = rcodes (n - k) last r) ∧ Hid (L = acc ++ rlist (n - k) last r) ∧ Hid (RR = rrests (n - k) last r) ∧ Below w.heap.size w wr)
        (fun _ _ _ i _ => n - (intOf i).toNat)
      case atStart => exact ⟨0, s1, [], [], Nat.zero_le _, rfl, HVR.out, rfl, by simp, rfl, rfl, Lib.hid (World.ownsRow_nil _ _ _ _), HRC, HRL, HRR, hb1⟩
      case round =>
        obtain ⟨k, r, last, acc, hk, rfl, hr, rfl, hll, rfl, hal, HO, HA1, HA2, HA3, hB⟩ := hrel
        by_cases hlt : k < n
        · have hlt' : (k : Int) < n := by omega
          have HW := Lib.hid (fun W => rword_any last r (by omega) hll W)
          unfold RWordPost at HW
          obtain ⟨m, hm⟩ : ∃ m, n - k = m + 1 := ⟨n - k - 1, by omega⟩
          have hm2 : n - (k + 1) = m := by omega
          rw [hm] at HA1 HA2 HA3
          by_cases hc : wc last r = 0
          · have g1 : Hid (C = rcodes (n - (k + 1)) (ww last r) (wrr r)) := Lib.hid (by rw [hm2, HA1.out, rcodes_ok hc])
            have g2 : Hid (L = (acc ++ [ww last r]) ++ rlist (n - (k + 1)) (ww last r) (wrr r)) := Lib.hid (by rw [hm2, HA2.out, rlist_ok hc, List.append_assoc]; rfl)
            have g3 : Hid (RR = rrests (n - (k + 1)) (ww last r) (wrr r)) := Lib.hid (by rw [hm2, HA3.out, rrests_go hc])
            have g4 := ww_length hc
            have g5 := (wrr_suffix r).length_le
            rw [wv_ok hc, wrs_ok hc, hc] at HW
            generalize ww last r = t at *
            generalize wrr r = q at *
            have hown := HO.out
            unfold OwnS at hown
            rw [hal] at hown
            clear hc HA1 HA2 HA3 hm hm2
            go_wp2_with fail
            refine (HW.out _).mono ?_
            rintro e w2 ⟨rfl, hb2⟩
            have hB1 := hB.trans (hb2.mono hB.size)
            have hown1 := own_below HO.out hb2
            unfold OwnS at hown1
            rw [hal] at hown1
            go_wp2_with (at_builtin; refine wpList_append_own _ rfl _ _ 22 rfl w.heap.size 9 i0 (.string ⟨#[]⟩) 1 16 Tryd.underlying22 HI0.out HZ0.out HZ1.out HZ2.out rfl (by decide) _ _ _ rfl (hown1.alloc _) ⟨w2.heap.size, 0, none⟩ 1 1 [.string ⟨t.toArray⟩] rfl rfl (cell_one_new _ _ _) (by simp [Value.oneCell']) (by unfold maxLen; omega) (by omega) (by have := hB1.size; simp; omega) ?_; intro v2 w3 hown2 hgrow2 _)
            have hB2 : Below w.heap.size w w3 := (hB1.alloc hB1.size _).grown hgrow2 (by have := hB1.size; simp; omega) (fun j e => (hown1.lt j e).1)
            go_roundw
            case rel =>
              refine ⟨k + 1, q, t, acc ++ [t], by omega, rfl, by omega, rfl, g4, by simp, by simp [hal], Lib.hid ?_, g1, g2, g3, hB2⟩
              unfold OwnS
              rw [List.length_append, hal, strVs_snoc]
              exact hown2
            case measure => simp [intOf]; omega
          · have g1 : Hid (C = wc last r) := Lib.hid (by rw [HA1.out, rcodes_bad hc])
            have HNE : Hid (wc last r ≠ 0) := Lib.hid hc
            have hne2 : (wc last r == 0) = false := by simpa using hc
            rw [wv_bad hc, wrs_bad hc] at HW
            generalize wc last r = c at *
            clear hc HA1 HA2 HA3 hm hm2
            go_wp2_with fail
            refine (HW.out _).mono ?_
            rintro e w2 ⟨rfl, hb2⟩
            have hB1 := hB.trans (hb2.mono hB.size)
            go_wp2
            go_ret3
            exact HBAD.out _ _ g1.out HNE.out hB1
        · obtain rfl : k = n := by omega
          have hlt' : ¬ (k : Int) < k := by omega
          have hC0 : C = 0 := by rw [HA1.out, Nat.sub_self, rcodes]
          have hL : L = acc := by rw [HA2.out, Nat.sub_self, rlist, List.append_nil]
          have hR : RR = r := by rw [HA3.out, Nat.sub_self, rrests]
          subst hL hR
          have HDC := HC4.out hC0
          obtain ⟨hSt, x, cap, rfl⟩ := strs_own HO.out
          have hsh : ∀ j : Nat, (L[j]?.getD []).length ≤ 9223372036854775807 := fun j => by
            by_cases hj : j < L.length
            · have := HLS.out _ (getD_mem hj); omega
            · rw [List.getElem?_eq_none (by omega)]; simp
          have HE := Lib.hid (rencode_any x L.length cap L rfl (by omega) hsh wr hSt)
          have hsf := HSF.out
          have hext := (ext_mk s 0 (s.length - RR.length)).trans (mk_str (List.drop_zero ..))
          obtain ⟨d, hd⟩ : ∃ d, d = s.length - RR.length := ⟨_, rfl⟩
          rw [← hd] at HDO hext
          have hsub : (s.length : Int) - (RR.length : Int) = (d : Int) := by omega
          have hd' : (d : Int) ≤ s.length := by omega
          have hd0 : d ≤ s.length := by omega
          have e64d : IntKind.i64.wrap (d : Int) = (d : Int) := by rw [IntKind.wrap_i64]; omega
          clear hd hSt hal HA1 HA2 HA3 HG HRC HRL HRR hsh HBAD HC4 hC0
          by_cases hri : RightL L
          · have e1 : encCode L = 0 := by unfold encCode; rw [if_pos hri]
            have e2 : encText L = encD L := by unfold encText; rw [if_pos hri]
            rw [e1, e2] at HE
            clear e1 e2
            by_cases hb : encD L = s.take d
            · have hdk : dok s := HDO.out.2 ⟨hri, hb⟩
              have hc : dcode s = 0 := by rw [HDC, if_pos hdk]
              have HP : Hid (∀ w2, Below wr.heap.size wr w2 → DecPost s w (.returned (.tuple #[.slice x L.length cap, .string ⟨RR.toArray⟩, .int .i64 0])) w2) := Lib.hid (fun w2 h => by
                obtain ⟨d1, d2⟩ := HDL.out hc
                refine ⟨hB.trans (h.mono hB.size), _, by rw [d2, hc], ?_⟩
                rw [d1]
                exact lst_own (own_below HO.out h))
              have hbe : (encD L == s.take d) = true := by simpa using hb
              clear hri hb hdk HDC hc HDL HDO HO
              generalize encD L = o at *
              generalize s.take d = q at *
              generalize L.length = ln at *
              go_wp2_with fail
              refine HE.out.mono ?_
              rintro e w2 ⟨rfl, hb2⟩
              go_wp2
              go_ret3
              exact HP.out _ hb2
            · have hdk : ¬ dok s := fun h => hb (HDO.out.1 h).2
              have hc : dcode s = 50 := by rw [HDC, if_neg hdk]
              have HP : Hid (∀ w2, Below wr.heap.size wr w2 → DecPost s w (.returned (.tuple #[.slice none 0 0, .string ⟨s.toArray⟩, .int .i64 50])) w2) := Lib.hid (fun w2 h => DecPost.bad hc (by decide) (hB.trans (h.mono hB.size)))
              have hbe : (encD L == s.take d) = false := by simpa using hb
              clear hri hb hdk HDC hc HDL HDO HO
              generalize encD L = o at *
              generalize s.take d = q at *
              generalize L.length = ln at *
              go_wp2_with fail
              refine HE.out.mono ?_
              rintro e w2 ⟨rfl, hb2⟩
              go_wp2
              go_ret3
              exact HP.out _ hb2
          · have e1 : encCode L = 50 := by unfold encCode; rw [if_neg hri]
            have hdk : ¬ dok s := fun h => hri (HDO.out.1 h).1
            have hc : dcode s = 50 := by rw [HDC, if_neg hdk]
            have HP : Hid (∀ w2, Below wr.heap.size wr w2 → DecPost s w (.returned (.tuple #[.slice none 0 0, .string ⟨s.toArray⟩, .int .i64 50])) w2) := Lib.hid (fun w2 h => DecPost.bad hc (by decide) (hB.trans (h.mono hB.size)))
            rw [e1] at HE
            clear hri hdk e1 HDC hc HDL HDO HO
            generalize encText L = o at *
            generalize L.length = ln at *
            go_wp2_with fail
            refine HE.out.mono ?_
            rintro e w2 ⟨rfl, hb2⟩
            go_wp2
            go_ret3
            exact HP.out _ hb2
  · have HP : Hid (∀ w', Below w.heap.size w w' → DecPost s w (.returned (.tuple #[.slice none 0 0, .string ⟨s.toArray⟩, .int .i64 (vcode s)])) w') := Lib.hid (fun w' h => DecPost.bad (dcode_1 h1) h1 h)
    have h1' : (vcode s == 0) = false := by simpa using h1
    generalize vcode s = c at *
    generalize vnum s = n at *
    generalize s.drop (vsize s) = r at *
    go_enter Tryd.func27, Tryd.ntmps27
    go_wp2_with fail
    refine HG.out.mono ?_
    rintro e w1 ⟨rfl, hb1⟩
    go_wp2
    go_ret3
    exact HP.out _ hb1
end Go.Proofs.YthoegicchjadaaaDoor
