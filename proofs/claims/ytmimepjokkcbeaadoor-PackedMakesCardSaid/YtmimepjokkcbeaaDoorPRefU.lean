/- The document's answer: Unpack. -/
import Derived.Test.YtmimepjokkcbeaaDoorPRefP
import Derived.Test.YtmimepjokkcbeaaDoorPRead
import Derived.Test.YtmimepjokkcbeaaDoorVRefG
namespace Go.Proofs.YtmimepjokkcbeaaDoor
open Go.RowKit

/-- What the document's Unpack answers. -/
def RefPost (s : List UInt8) (w : World) (e : Ending) (w' : World) : Prop :=
  Below w.heap.size w w' ∧ ((pcode s = 0 ∧ ∃ x cap, e = .returned (.tuple #[.slice x (vnum s) cap, .string ⟨(prest s).toArray⟩, .int .i64 0]) ∧ Ints w'.heap.size w' (.slice x (vnum s) cap) (plistZ s)) ∨
    (pcode s ≠ 0 ∧ e = .returned (.tuple #[.slice none 0 0, .string ⟨s.toArray⟩, .int .i64 (pcode s)])))
theorem RefPost.bad {s : List UInt8} {w w' : World} {c : Int} (h : pcode s = c) (h0 : c ≠ 0) (hb : Below w.heap.size w w') : RefPost s w (.returned (.tuple #[.slice none 0 0, .string ⟨s.toArray⟩, .int .i64 c])) w' :=
  ⟨hb, .inr ⟨by rw [h]; exact h0, by rw [h]⟩⟩
theorem byteAt_pt (s : List UInt8) (k : Nat) : byteAt (s.drop (vsize s)) (k + 1) = ((pt s).getD k 0).toNat := by
  unfold byteAt pt
  rw [List.getD_eq_getElem?_getD, List.getD_eq_getElem?_getD, List.getElem?_drop, List.getElem?_drop, show vsize s + 1 + k = vsize s + (k + 1) by omega]
theorem row_ints {w : World} {base : Nat} {x : Option Addr} {n cap : Nat} {s : List UInt8} (hn : vnum s = n) (h : w.ownsRow base 3 1 (.slice x n cap) n (nvs (plist s))) : Ints w.heap.size w (.slice x n cap) (plistZ s) := by
  rcases h.2 with ⟨e, h0⟩ | ⟨g, c2, cur, e, _, hg, _⟩
  · subst h0
    exact .inl ⟨⟨x, cap, rfl⟩, List.eq_nil_of_length_eq_zero (by rw [plistZ_length]; exact hn)⟩
  · cases e
    refine .inr ⟨g, 0, cap, by rw [plistZ_length, hn], (Array.getElem?_eq_some_iff.1 hg).1, fun j hj => ?_⟩
    rw [plistZ_length, hn] at hj
    have := h.cells (g := g) rfl j (.int .i64 ((plist s).getD j 0 : Nat)) (by
      have hl : j < (plist s).length := by rw [plist_length]; omega
      unfold nvs
      rw [List.getElem?_map, List.getD_eq_getElem?_getD, List.getElem?_eq_getElem hl]; rfl)
    rw [Nat.zero_add, plistZ_get]
    rwa [show (⟨g, 0, none⟩ : Addr).add j = ⟨g, j, none⟩ by unfold Addr.add; split <;> simp_all] at this

set_option maxRecDepth 100000 in
set_option maxHeartbeats 4000000 in
theorem ref_unpack_any (s : List UInt8) (hs : s.length ≤ 1000000) (w : World) : Calls Tryd.prog 17 #[.string ⟨s.toArray⟩] w (RefPost s w) := by
  have HGet := Lib.hid (ref_get_any s (by omega) w)
  go_enter Tryd.func17, Tryd.ntmps17
  go_wp2_with fail
  refine HGet.out.mono ?_
  rintro e w1 ⟨rfl, hb1⟩
  have hnl := vnum_lt s
  by_cases hh : hcode s = 0
  · obtain ⟨hpc, hvc, hn, hend, hpw⟩ := pcode_body hh
    have hvs := vsize_le s
    have hq : (s.drop (vsize s)).length = s.length - vsize s := by simp
    have hpt : (pt s).length = s.length - vsize s - 1 := by unfold pt; simp; omega
    have hql : 0 < (s.drop (vsize s)).length := by rw [hq]; omega
    have hpw0 : byteAt (s.drop (vsize s)) 0 = pw s := rfl
    have hb0 := byte_get (s.drop (vsize s)) 0 hql
    rw [hpw0] at hb0
    have hne : (s.drop (vsize s)).isEmpty = false := by
      cases hd : s.drop (vsize s) with
      | nil => rw [hd] at hql; simp at hql
      | cons => rfl
    have hql' : (0 : Int) < (s.drop (vsize s)).length := by omega
    have hbig : ¬ (1000 : Int) < (vnum s : Int) := by omega
    have h16 : ¬ (16 : Int) < (pw s : Int) := by omega
    have HSz := Lib.hid (ref_size_nat (vnum s) (pw s) (by omega) (by omega))
    have hsz2 : szOf (vnum s) (pw s) ≤ 2001 := by
      have h2 : vnum s * pw s ≤ 1000 * 16 := Nat.mul_le_mul hn hpw
      unfold szOf; omega
    rw [hvc]
    by_cases hshort : (pt s).length < szOf (vnum s) (pw s)
    · have HP : Hid (RefPost s w (.returned (.tuple #[.slice none 0 0, .string ⟨s.toArray⟩, .int .i64 21])) w1) := Lib.hid (.bad (by rw [hpc, if_pos hshort]) (by decide) hb1)
      have hshort' : ((s.drop (vsize s)).length : Int) - 1 < (szOf (vnum s) (pw s) : Nat) := by rw [hq]; omega
      clear hpc hvc hh hpt hq hpw0
      generalize s.drop (vsize s) = q at *
      go_wp2_with (go_at_call 21; refine (HSz.out _).mono ?_; rintro e w' ⟨rfl, rfl⟩)
      go_ret3
      exact HP.out
    · have hlong : ¬ ((s.drop (vsize s)).length : Int) - 1 < (szOf (vnum s) (pw s) : Nat) := by rw [hq]; omega
      have HPk : Hid (packP (plist s) = s.take (vsize s + 1 + szOf (vnum s) (pw s)) ↔ pok s) := Lib.hid (pack_plist hvc hend hpw (by omega))
      have HBy := Lib.hid (byteAt_pt s)
      have HTa : Hid (∀ k, fl (tgt (pt s)) (8 * k + 8) = fl (tgt (pt s)) (8 * k) ++ fl (fun j => ((pt s).getD k 0).toNat / 2 ^ (8 - 1 - j) % 2) 8) := Lib.hid (fun k => fl_app _ _ _ _ (fun j hj => tgt_at hj))
      have hBl : ∀ k, ((pt s).getD k 0).toNat < 256 := fun k => UInt8.toNat_lt _
      have hqS : szOf (vnum s) (pw s) < (s.drop (vsize s)).length := by omega
      have hgetq := fun i h => byte_get (s.drop (vsize s)) i h
      have hns := sz_ge (vnum s) (pw s)
      have hf2 := tgt_lt (pt s)
      have HPl : Hid (plist s = fl (fun i => val (tgt (pt s)) (i * pw s) (pw s)) (vnum s)) := Lib.hid rfl
      have hOk := okz_plistZ hn hpw
      have HGood : Hid (∀ w' x cap, pok s → Below w.heap.size w w' → Ints w'.heap.size w' (.slice x (vnum s) cap) (plistZ s) → RefPost s w (.returned (.tuple #[.slice x (vnum s) cap, .string ⟨(prest s).toArray⟩, .int .i64 0])) w') := Lib.hid (fun w' x cap hp h1 h2 => ⟨h1, .inl ⟨by rw [hpc, if_neg hshort, if_pos hp], x, cap, rfl, h2⟩⟩)
      have HBad : Hid (∀ w', ¬ pok s → Below w.heap.size w w' → RefPost s w (.returned (.tuple #[.slice none 0 0, .string ⟨s.toArray⟩, .int .i64 40])) w') := Lib.hid (fun w' hp h1 => .bad (by rw [hpc, if_neg hshort, if_neg hp]) (by decide) h1)
      obtain ⟨i0, hi, hz0, hz1, hz2⟩ := info_parts info_int
      have HInf := Lib.hid hi; have HZ0 := Lib.hid hz0; have HZ1 := Lib.hid hz1; have HZ2 := Lib.hid hz2
      have HQ := Lib.hid hgetq
      have HHS := Lib.hid hb0
      have HQL := Lib.hid hq
      have hq6 : (s.drop (vsize s)).length ≤ 1000000 := by omega
      clear hi hz0 hz1 hz2 hpc hshort hh hpt hpw0 hgetq hq hvc
      generalize hS : szOf (vnum s) (pw s) = S at *
      generalize hqq : s.drop (vsize s) = q at *
      go_wp2_with (go_at_call 21; refine (HSz.out _).mono ?_; rintro e w' ⟨rfl, rfl⟩)
      go_loopw [11, 12] (fun v i wr => ∃ k : Nat, k ≤ S ∧ i = .int .i64 ((k : Int) + 1) ∧ wr.ownsRow w.heap.size 3 1 v (8 * k) (nvs (fl (tgt (pt s)) (8 * k))) ∧ Below w.heap.size w wr)
        (fun _ i _ => S + 1 - (intOf i).toNat)
      case atStart => exact ⟨0, Nat.zero_le _, rfl, by simpa [fl, nvs] using World.ownsRow_nil w1 _ _ _, hb1⟩
      case round =>
        obtain ⟨k, hk, rfl, hown, hB⟩ := hrel
        by_cases hlt : k < S
        · have hlt' : (k : Int) + 1 ≤ S := by omega
          have hgq := HQ.out (k + 1) (by omega)
          have hby := HBy.out k
          rw [hby] at hgq
          have HF := Lib.hid (HTa.out k)
          have hb8 := hBl k
          have HD := Lib.hid (digits_any ((pt s).getD k 0).toNat 8 (by omega) (by omega))
          generalize ((pt s).getD k 0).toNat = bt at *
          have hkq : (k : Int) + 1 < q.length := by omega
          go_wp2_with fail
          refine (HD.out _).mono ?_
          rintro e w2 ⟨u, rfl, hown2, hb2⟩
          have hB2 := hB.trans (hb2.mono hB.size)
          have hown1 := rows_under hown hb2
          go_wp2_with (at_builtin; refine wpList_append_rows _ rfl _ _ 22 rfl w.heap.size 3 i0 (.int .i64 0) 8 Tryd.underlying22 HInf.out HZ0.out HZ1.out HZ2.out rfl _ _ _ rfl hown1 u wr.heap.size 8 _ rfl hown2 nvs_one (by unfold maxLen; omega) (by omega) hB2.size ?_; intro v3 w3 hown3 hgrow3)
          have hB3 : Below w.heap.size w w3 := hB2.grown hgrow3 hB2.size (fun k e => (hown.lt k e).1)
          rw [← nvs_app, ← HF.out] at hown3
          go_roundw
          case rel => exact ⟨k + 1, by omega, by simp, hown3, hB3⟩
          case measure => simp [intOf]; omega
        · obtain rfl : k = S := by omega
          have hge : ¬ (k : Int) + 1 ≤ k := by omega
          obtain ⟨x, cap, rfl⟩ := rows_form hown
          have HC := Lib.hid (fun m => row_cell hown m)
          obtain ⟨w2, rfl⟩ : ∃ w2, w2 = wr := ⟨_, rfl⟩
          clear hown HTa hBl HQ HBy
          generalize hf : tgt (pt s) = f at *
          go_wp2
          go_loopw [13, 14] (fun v i wi => ∃ j : Nat, j ≤ vnum s ∧ i = .int .i64 j ∧ wi.ownsRow w2.heap.size 3 1 v j (nvs (fl (fun i => val f (i * pw s) (pw s)) j)) ∧ Below w2.heap.size w2 wi)
            (fun _ i _ => vnum s - (intOf i).toNat)
          case atStart => exact ⟨0, Nat.zero_le _, rfl, by simpa [fl, nvs] using World.ownsRow_nil w2 _ _ _, Below.refl _ _⟩
          case round =>
            obtain ⟨j, hj, rfl, hown, hBi⟩ := hrel
            by_cases hjn : j < vnum s
            · have hjn' : (j : Int) < vnum s := by omega
              have hK8 : j * pw s + pw s ≤ 8 * k := by
                have h1 := mul_le_of (w := pw s) hjn
                rw [Nat.add_mul, Nat.one_mul] at h1
                omega
              have hKm : (j : Int) * (pw s : Int) = ((j * pw s : Nat) : Int) := (Int.natCast_mul _ _).symm
              have HF : Hid (fl (fun i => val f (i * pw s) (pw s)) (j + 1) = fl (fun i => val f (i * pw s) (pw s)) j ++ [val f (j * pw s) (pw s)]) := Lib.hid (fl_succ _ _)
              generalize hKK : j * pw s = K at *
              go_wp2
              go_loop [15, 16] (fun r z => ∃ y : Nat, y ≤ pw s ∧ z = .int .i64 y ∧ r = .int .i64 (val f K y : Nat)) (fun _ z => pw s - (intOf z).toNat)
              case atStart => exact ⟨0, Nat.zero_le _, rfl, rfl⟩
              case round =>
                obtain ⟨y, hy, rfl, rfl⟩ := hrel
                have hv16 : val f K y < 65536 := Nat.lt_of_lt_of_le (val_lt hf2 _ _) (Nat.pow_le_pow_right (by decide) (show y ≤ 16 by omega))
                by_cases hyw : y < pw s
                · have hyw' : (y : Int) < pw s := by omega
                  obtain ⟨m, hm⟩ : ∃ m, m = K + y := ⟨_, rfl⟩
                  obtain ⟨ga, rfl, hga, hcA0⟩ := HC.out m (by omega)
                  have hcA := (hBi.cell (p := ⟨ga, m, none⟩) hga).trans hcA0
                  have HV : Hid (val f K (y + 1) = 2 * val f K y + f m) := Lib.hid (by rw [hm]; exact val_succ f K y)
                  have hd2 := hf2 m
                  generalize f m = d at *
                  generalize val f K y = v at *
                  have hKz : (K : Int) + y = (m : Int) := by omega
                  have hm8 : (m : Int) < 8 * k := by omega
                  clear hcA0 hm
                  go_wp2
                  go_round
                  case rel => exact ⟨y + 1, by omega, by simp, by rw [HV.out]; rfl⟩
                  case measure => simp [intOf]; omega
                · obtain rfl : y = pw s := by omega
                  have hyw' : ¬ (pw s : Int) < pw s := by omega
                  generalize val f K (pw s) = v at *
                  go_wp2_with (at_builtin; refine wpList_append_own _ rfl _ _ 22 rfl w2.heap.size 3 i0 (.int .i64 0) 1 8 Tryd.underlying22 HInf.out HZ0.out HZ1.out HZ2.out rfl (by decide) _ _ _ rfl (hown.alloc _) ⟨wr.heap.size, 0, none⟩ 1 1 [.int .i64 v] rfl rfl (cell_one_new _ _ _) (by simp [Value.oneCell']) (by unfold maxLen; omega) (by omega) (by have := hBi.size; simp; omega) ?_; intro v4 w4 hown4 hgrow4 _)
                  have hB4 : Below w2.heap.size w2 w4 := (hBi.alloc hBi.size _).grown hgrow4 (by have := hBi.size; simp; omega) (fun j e => (hown.lt j e).1)
                  rw [← nvs_snoc, ← HF.out] at hown4
                  exact ⟨⟨j + 1, by omega, by simp, hown4, hB4⟩, by simp [intOf]; omega⟩
            · obtain rfl : j = vnum s := by omega
              have hjn' : ¬ (vnum s : Int) < vnum s := by omega
              rw [← HPl.out] at hown
              obtain ⟨x2, cap2, rfl⟩ := rows_form hown
              have hI := row_ints rfl hown
              have hB1 := hB.trans (hBi.mono hB.size)
              have HRP := Lib.hid (ref_pack_any x2 (vnum s) cap2 (plistZ s) (plistZ_length s) (by omega) (in64_ok hOk) wr hI)
              unfold PackPost at HRP
              rw [packZ_ok hOk, wcode_ok hOk, nats_plistZ] at HRP
              have hpkl := packP_bound (l := plist s) (by rw [plist_length]; exact hn) (plist_small hpw)
              have hql9 := HQL.out
              have hext : (ByteArray.mk s.toArray).extract 0 (vsize s + 1 + k) = ⟨(s.take (vsize s + 1 + k)).toArray⟩ := (ext_mk s 0 _).trans (mk_str (by rw [List.drop_zero]))
              have hext2 : (ByteArray.mk q.toArray).extract (1 + k) q.length = ⟨(prest s).toArray⟩ := (ext_mk q (1 + k) q.length).trans (mk_str (by
                rw [List.take_length, ← hqq, List.drop_drop]
                unfold prest pt
                rw [List.drop_drop, hS]
                congr 1; omega))
              have e1 : (s.length : Int) - q.length = (vsize s : Int) := by omega
              have e2 : (vsize s : Int) + 1 + k = ((vsize s + 1 + k : Nat) : Int) := by omega
              have hkl : vsize s + 1 + k ≤ s.length := by omega
              clear hql9 hown hjn HInf HZ0 HZ1 HZ2 HC HPl
              generalize hkk : vsize s + 1 + k = kk at *
              generalize s.take kk = tk at *
              go_wp2_with fail
              refine HRP.out.mono ?_
              rintro e w5 ⟨rfl, hb5⟩
              have hB5 := hB1.trans (hb5.mono hB1.size)
              have hI5 := (hI.below hb5).more hb5.size
              by_cases hok : pok s
              · have hbe : (packP (plist s) == tk) = true := by rw [HPk.out.2 hok]; simp
                have HG := Lib.hid (HGood.out w5.drew x2 cap2 hok hB5.drew hI5)
                clear hok
                go_wp2
                go_region
                all_goals
                  go_wp2
                  go_ret3
                  have HG' := HG.out
                  go_simp
              · have hbe : (packP (plist s) == tk) = false := by simpa using fun e => hok (HPk.out.1 e)
                have HG := Lib.hid (HBad.out w5 hok hB5)
                clear hok
                go_wp2
                go_ret3
                exact HG.out
  · have HP : Hid (RefPost s w (.returned (.tuple #[.slice none 0 0, .string ⟨s.toArray⟩, .int .i64 (hcode s)])) w1) := Lib.hid (.bad (pcode_head hh) hh hb1)
    unfold hcode at HP hh
    by_cases hc : vcode s = 0
    · rw [if_neg (by simp [hc])] at HP hh
      have hvs := vsize_le s
      rw [hc]
      by_cases hbig : 1000 < vnum s
      · rw [if_pos hbig] at HP
        have hbig' : (1000 : Int) < (vnum s : Int) := by omega
        clear hc hh
        go_wp2
        go_ret3
        exact HP.out
      · rw [if_neg hbig] at HP hh
        have hbig' : ¬ (1000 : Int) < (vnum s : Int) := by omega
        have hq : (s.drop (vsize s)).length = s.length - vsize s := by simp
        by_cases hend : s.length = vsize s
        · rw [if_pos hend] at HP
          have hq0 : s.drop (vsize s) = [] := List.eq_nil_of_length_eq_zero (by rw [hq]; omega)
          rw [hq0]
          clear hc hh hq0 hq
          go_wp2
          go_ret3
          exact HP.out
        · rw [if_neg hend] at HP hh
          have hql : 0 < (s.drop (vsize s)).length := by rw [hq]; omega
          have hpw0 : byteAt (s.drop (vsize s)) 0 = pw s := rfl
          have hb0 := byte_get (s.drop (vsize s)) 0 hql
          rw [hpw0] at hb0
          have hpl : pw s < 256 := UInt8.toNat_lt _
          have hne : (s.drop (vsize s)).isEmpty = false := by
            cases hd : s.drop (vsize s) with
            | nil => rw [hd] at hql; simp at hql
            | cons => rfl
          have hql' : (0 : Int) < (s.drop (vsize s)).length := by omega
          by_cases h16 : 16 < pw s
          · rw [if_pos h16] at HP
            have h16' : (16 : Int) < (pw s : Int) := by omega
            have hn10 : vnum s ≤ 1000 := by omega
            clear hc hh hpw0 hq
            generalize s.drop (vsize s) = q at *
            go_wp2
            go_ret3
            exact HP.out
          · rw [if_neg h16] at hh
            exact absurd rfl hh
    · rw [if_pos hc] at HP
      have hne : (vcode s != 0) = true := by simpa using hc
      clear hc hh
      generalize vcode s = cd at *
      go_wp2
      go_ret3
      exact HP.out
end Go.Proofs.YtmimepjokkcbeaaDoor
