/- VarintLists: lists and their bytes are one to one, whatever stands behind: for any numbers (the first thousand and ten), text (its first two thousand bytes). No condition beyond the row's: the package's two errors lie as start-up laid them (tied to the program's text). -/
import Derived.Test.YtfdehmghnmjjoaaDoorVRow
import Derived.Test.YtfdehmghnmjjoaaDoorVShown
import Derived.Test.YtfdehmghnmjjoaaDoorVSame
import Derived.Laws.Concat
namespace Go.Proofs.YtfdehmghnmjjoaaDoor.varintLists
open Go.ChangeShapes Go.WideShapes Go.ChangeAt Go.RowKit Go.Joins

/-- Unpack where its text's list is known. -/
theorem unpack_good {n₀ : Nat} (a b : Addr) (s : List UInt8) (hs : s.length ≤ 9223372036854775807) (zs : List Int) (r : List UInt8) (h0 : ucode s = 0) (h1 : unums s = zs) (h2 : urest s = r) (k : Nat) (hk : zs.length = k) (w : World) (hS : Sent n₀ w a b) (hn₀ : n₀ ≤ w.heap.size) :
    Calls Tryd.prog 19 #[.string ⟨s.toArray⟩] w fun e w' => ∃ x cap, e = .returned (.tuple #[.slice x k cap, .string ⟨r.toArray⟩, .int .i64 0]) ∧ Ints w'.heap.size w' (.slice x k cap) zs ∧ Below w.heap.size w w' := by
  subst h1; subst h2; subst hk
  refine (unpack_any a b s hs w hS hn₀).mono ?_
  rintro e w' ⟨hb, ⟨_, v, rfl, hown⟩ | ⟨h, _⟩⟩
  · obtain ⟨hI, x, cap, rfl⟩ := ints_own hown
    exact ⟨x, cap, rfl, hI, hb⟩
  · rw [h0] at h; rcases h with h | h <;> cases h
/-- Unpack where it finds fault. -/
theorem unpack_bad {n₀ : Nat} (a b : Addr) (s : List UInt8) (hs : s.length ≤ 9223372036854775807) (h0 : ucode s ≠ 0) (w : World) (hS : Sent n₀ w a b) (hn₀ : n₀ ≤ w.heap.size) :
    Calls Tryd.prog 19 #[.string ⟨s.toArray⟩] w fun e w' => e = .returned (.tuple #[.slice none 0 0, .string ⟨s.toArray⟩, .int .i64 (ucode s)]) ∧ Below w.heap.size w w' := by
  refine (unpack_any a b s hs w hS hn₀).mono ?_
  rintro e w' ⟨hb, ⟨h, _⟩ | ⟨_, rfl⟩⟩
  · exact absurd h h0
  · exact ⟨rfl, hb⟩

set_option maxRecDepth 100000 in
set_option maxHeartbeats 4000000 in
/-- What comes behind the first half: the text's own list, packed again. -/
theorem walk {n₀ : Nat} (a b : Addr) (x : Option Addr) (len cap : Nat) (zs : List Int) (hlc : len ≤ cap) (hcm : cap ≤ 9223372036854775807) (hln : zs.length = len) (hz : In64 zs) (l : List UInt8) (hl : l.length ≤ 9223372036854775807)
    (w : World) (hI : Ints w.heap.size w (.slice x len cap) zs) (hS : Sent n₀ w a b) (hn₀ : n₀ ≤ w.heap.size) :
    Calls Tryd.prog 6 #[.slice x len cap, .string ⟨l.toArray⟩] w fun e w' => e = .returned (.bool true) ∧ Below w.heap.size w w' := by
  have hJ := ints_cut hI 1010 hln
  have hzt := in64_take hz 1010
  have hzl : (zs.take 1010).length = min len 1010 := by rw [List.length_take, hln]; omega
  have hfew := few_any x len cap hlc hcm
  have hm : min len 1010 ≤ 9223372036854775807 := by omega
  clear hln hI hz hlc hcm
  generalize zs.take 1010 = ys at *
  generalize min len 1010 = m at *
  have hcut := cut_any l
  have hcl : (l.take 2000).length ≤ 2000 := List.length_take_le _ _
  generalize hc : l.take 2000 = c at *
  clear hc
  have HF := Lib.hid hfew; have HC := Lib.hid hcut; have HZL := Lib.hid hzl
  clear hfew hcut hzl
  by_cases hbig : ys.length ≤ 1000
  · by_cases hc0 : ucode c = 0
    · have hPk : ∀ w' : World, Ints w'.heap.size w' (.slice x m cap) ys → Calls Tryd.prog 18 #[.slice x m cap] w' (fun e w'' => e = .returned (.tuple #[.string ⟨(packB ys).toArray⟩, .int .i64 0]) ∧ Below w'.heap.size w' w'') := fun w' h =>
        (pack_any x m cap ys HZL.out hm hzt w' h).mono fun e w'' ⟨h1, h2⟩ => ⟨by rw [h1, if_pos hbig, if_pos hbig], h2⟩
      have hpb := packB_length hbig
      obtain ⟨u0, u1, u2⟩ := pack_unpack hbig (in64_mem hzt) c
      have hU0 := fun (w' : World) (h1 : Sent n₀ w' a b) (h2 : n₀ ≤ w'.heap.size) => unpack_good a b (packB ys ++ c) (by simp; omega) ys c u0 u1 u2 m HZL.out w' h1 h2
      have hadd : ∀ W : World, (Op.stringOp .add ⟨(packB ys).toArray⟩ ⟨c.toArray⟩).run Tryd.prog W = .ok (.string ⟨(packB ys ++ c).toArray⟩) W := fun W => by
        rw [run_string_add_sum W _ _ (by simp [ByteArray.size]; omega), app_mk]
      have HPk := Lib.hid hPk; have HU0 := Lib.hid hU0
      have hm1 : (m : Int) ≤ 1000 := by have := HZL.out; omega
      clear hPk hU0 u0 u1 u2 hbig
      generalize packB ys = s at *
      obtain ⟨g1, g2, g3⟩ := unpack_pack hc0
      have hgl : ∀ y cp (w' : World), Ints w'.heap.size w' (.slice y (unums c).length cp) (unums c) → Calls Tryd.prog 18 #[.slice y (unums c).length cp] w' (fun e w'' => e = .returned (.tuple #[.string ⟨(packB (unums c)).toArray⟩, .int .i64 0]) ∧ Below w'.heap.size w' w'') := fun y cp w' h =>
        (pack_any y (unums c).length cp (unums c) rfl (by omega) (mem_in64 g2) w' h).mono fun e w'' ⟨h1, h2⟩ => ⟨by rw [h1, if_pos g1, if_pos g1], h2⟩
      have hrl : (urest c).length ≤ 2000 := by
        have := congrArg List.length g3
        simp at this
        omega
      have hpg := packB_length g1
      have hadd2 : ∀ W : World, (Op.stringOp .add ⟨(packB (unums c)).toArray⟩ ⟨(urest c).toArray⟩).run Tryd.prog W = .ok (.string ⟨c.toArray⟩) W := fun W => by
        rw [run_string_add_sum W _ _ (by simp [ByteArray.size]; omega), app_mk, g3]
      have HUg := Lib.hid (fun (w' : World) (h1 : Sent n₀ w' a b) (h2 : n₀ ≤ w'.heap.size) => unpack_good a b c (by omega) (unums c) (urest c) hc0 rfl rfl (unums c).length rfl w' h1 h2)
      have HPg := Lib.hid hgl
      clear hgl g1 g2 g3 hc0 hpg hrl
      generalize packB (unums c) = sg at *
      generalize (unums c).length = kg at *
      generalize unums c = yg at *
      generalize urest c = rg at *
      go_enter Tryd.func6, Tryd.ntmps6
      go_wp2_with fail
      refine (shown_any a b _ hS hn₀).mono ?_
      rintro e w1 ⟨rfl, hB1⟩
      go_wp2_with fail
      refine (HF.out _).mono ?_
      rintro e w' ⟨rfl, rfl⟩
      go_wp2_with fail
      refine (HPk.out _ ((hJ.below hB1).more hB1.size)).mono ?_
      rintro e w2 ⟨rfl, hb2⟩
      have hB2 := hB1.trans (hb2.mono hB1.size)
      clear hb2
      go_wp2_with fail
      refine (HC.out _).mono ?_
      rintro e w' ⟨rfl, rfl⟩
      go_wp2_with fail
      refine (HU0.out _ (hS.below (hB2.mono hn₀)) (Nat.le_trans hn₀ hB2.size)).mono ?_
      rintro e w3 ⟨x3, c3, rfl, hI3, hb3⟩
      have hB3 := hB2.trans (hb3.mono hB2.size)
      clear hb3
      go_wp2_with fail
      refine (same_any x3 x m c3 cap ys hm _ hI3 ((hJ.below hB3).more hB3.size)).mono ?_
      rintro e w4 ⟨rfl, hb4⟩
      have hB4 := hB3.trans (hb4.mono hB3.size)
      clear hb4 hI3
      go_wp2_with fail
      refine (HC.out _).mono ?_
      rintro e w' ⟨rfl, rfl⟩
      go_wp2_with fail
      refine (HC.out _).mono ?_
      rintro e w' ⟨rfl, rfl⟩
      go_wp2_with fail
      refine (HUg.out _ (hS.below (hB4.mono hn₀)) (Nat.le_trans hn₀ hB4.size)).mono ?_
      rintro e w5 ⟨x5, c5, rfl, hI5, hb5⟩
      have hB5 := hB4.trans (hb5.mono hB4.size)
      clear hb5
      go_wp2_with fail
      refine (HPg.out _ _ _ hI5).mono ?_
      rintro e w6 ⟨rfl, hb6⟩
      have hB6 := hB5.trans (hb6.mono hB5.size)
      clear hb6
      go_wp2_with fail
      refine (HC.out _).mono ?_
      rintro e w' ⟨rfl, rfl⟩
      go_wp2
      go_ret
      exact ⟨rfl, hB6⟩
    · have hPk : ∀ w' : World, Ints w'.heap.size w' (.slice x m cap) ys → Calls Tryd.prog 18 #[.slice x m cap] w' (fun e w'' => e = .returned (.tuple #[.string ⟨(packB ys).toArray⟩, .int .i64 0]) ∧ Below w'.heap.size w' w'') := fun w' h =>
        (pack_any x m cap ys HZL.out hm hzt w' h).mono fun e w'' ⟨h1, h2⟩ => ⟨by rw [h1, if_pos hbig, if_pos hbig], h2⟩
      have hpb := packB_length hbig
      obtain ⟨u0, u1, u2⟩ := pack_unpack hbig (in64_mem hzt) c
      have hU0 := fun (w' : World) (h1 : Sent n₀ w' a b) (h2 : n₀ ≤ w'.heap.size) => unpack_good a b (packB ys ++ c) (by simp; omega) ys c u0 u1 u2 m HZL.out w' h1 h2
      have hadd : ∀ W : World, (Op.stringOp .add ⟨(packB ys).toArray⟩ ⟨c.toArray⟩).run Tryd.prog W = .ok (.string ⟨(packB ys ++ c).toArray⟩) W := fun W => by
        rw [run_string_add_sum W _ _ (by simp [ByteArray.size]; omega), app_mk]
      have HPk := Lib.hid hPk; have HU0 := Lib.hid hU0
      have hm1 : (m : Int) ≤ 1000 := by have := HZL.out; omega
      clear hPk hU0 u0 u1 u2 hbig
      generalize packB ys = s at *
      have hne : (ucode c == 0) = false := by simpa using hc0
      have hne2 : (ucode c != 0) = true := by simpa using hc0
      have HUb := Lib.hid (fun (w' : World) (h1 : Sent n₀ w' a b) (h2 : n₀ ≤ w'.heap.size) => unpack_bad a b c (by omega) hc0 w' h1 h2)
      have HPg : Hid (∀ w' : World, Calls Tryd.prog 18 #[.slice none 0 0] w' (fun e w'' => e = .returned (.tuple #[.string ⟨(packB []).toArray⟩, .int .i64 0]) ∧ Below w'.heap.size w' w'')) := Lib.hid (fun w' =>
        (pack_any none 0 0 [] rfl (by decide) (fun j => by simp) w' (.inl ⟨⟨none, 0, rfl⟩, rfl⟩)).mono fun e w'' ⟨h1, h2⟩ => ⟨by rw [h1]; rfl, h2⟩)
      clear hc0
      generalize packB [] = sg at *
      generalize ucode c = uc at *
      go_enter Tryd.func6, Tryd.ntmps6
      go_wp2_with fail
      refine (shown_any a b _ hS hn₀).mono ?_
      rintro e w1 ⟨rfl, hB1⟩
      go_wp2_with fail
      refine (HF.out _).mono ?_
      rintro e w' ⟨rfl, rfl⟩
      go_wp2_with fail
      refine (HPk.out _ ((hJ.below hB1).more hB1.size)).mono ?_
      rintro e w2 ⟨rfl, hb2⟩
      have hB2 := hB1.trans (hb2.mono hB1.size)
      clear hb2
      go_wp2_with fail
      refine (HC.out _).mono ?_
      rintro e w' ⟨rfl, rfl⟩
      go_wp2_with fail
      refine (HU0.out _ (hS.below (hB2.mono hn₀)) (Nat.le_trans hn₀ hB2.size)).mono ?_
      rintro e w3 ⟨x3, c3, rfl, hI3, hb3⟩
      have hB3 := hB2.trans (hb3.mono hB2.size)
      clear hb3
      go_wp2_with fail
      refine (same_any x3 x m c3 cap ys hm _ hI3 ((hJ.below hB3).more hB3.size)).mono ?_
      rintro e w4 ⟨rfl, hb4⟩
      have hB4 := hB3.trans (hb4.mono hB3.size)
      clear hb4 hI3
      go_wp2_with fail
      refine (HC.out _).mono ?_
      rintro e w' ⟨rfl, rfl⟩
      go_wp2_with fail
      refine (HC.out _).mono ?_
      rintro e w' ⟨rfl, rfl⟩
      go_wp2_with fail
      refine (HUb.out _ (hS.below (hB4.mono hn₀)) (Nat.le_trans hn₀ hB4.size)).mono ?_
      rintro e w5 ⟨rfl, hb5⟩
      have hB5 := hB4.trans (hb5.mono hB4.size)
      clear hb5
      go_wp2_with fail
      refine (HPg.out _).mono ?_
      rintro e w6 ⟨rfl, hb6⟩
      have hB6 := hB5.trans (hb6.mono hB5.size)
      clear hb6
      go_wp2
      go_ret
      exact ⟨rfl, hB6⟩
  · by_cases hc0 : ucode c = 0
    · have hPk : ∀ w' : World, Ints w'.heap.size w' (.slice x m cap) ys → Calls Tryd.prog 18 #[.slice x m cap] w' (fun e w'' => e = .returned (.tuple #[.string ⟨#[]⟩, .int .i64 20]) ∧ Below w'.heap.size w' w'') := fun w' h =>
        (pack_any x m cap ys HZL.out hm hzt w' h).mono fun e w'' ⟨h1, h2⟩ => ⟨by rw [h1, if_neg hbig, if_neg hbig], h2⟩
      have hadd : ∀ W : World, (Op.stringOp .add ⟨#[]⟩ ⟨c.toArray⟩).run Tryd.prog W = .ok (.string ⟨c.toArray⟩) W := fun W => by
        rw [run_string_add_sum W _ _ (by simp [ByteArray.size]; omega), show (ByteArray.mk #[]) = ⟨([] : List UInt8).toArray⟩ from rfl, app_mk]
        rfl
      have HPk := Lib.hid hPk
      have hm1 : decide ((m : Int) ≤ 1000) = false := by have := HZL.out; simp; omega
      clear hPk hbig
      obtain ⟨g1, g2, g3⟩ := unpack_pack hc0
      have hgl : ∀ y cp (w' : World), Ints w'.heap.size w' (.slice y (unums c).length cp) (unums c) → Calls Tryd.prog 18 #[.slice y (unums c).length cp] w' (fun e w'' => e = .returned (.tuple #[.string ⟨(packB (unums c)).toArray⟩, .int .i64 0]) ∧ Below w'.heap.size w' w'') := fun y cp w' h =>
        (pack_any y (unums c).length cp (unums c) rfl (by omega) (mem_in64 g2) w' h).mono fun e w'' ⟨h1, h2⟩ => ⟨by rw [h1, if_pos g1, if_pos g1], h2⟩
      have hrl : (urest c).length ≤ 2000 := by
        have := congrArg List.length g3
        simp at this
        omega
      have hpg := packB_length g1
      have hadd2 : ∀ W : World, (Op.stringOp .add ⟨(packB (unums c)).toArray⟩ ⟨(urest c).toArray⟩).run Tryd.prog W = .ok (.string ⟨c.toArray⟩) W := fun W => by
        rw [run_string_add_sum W _ _ (by simp [ByteArray.size]; omega), app_mk, g3]
      have HUg := Lib.hid (fun (w' : World) (h1 : Sent n₀ w' a b) (h2 : n₀ ≤ w'.heap.size) => unpack_good a b c (by omega) (unums c) (urest c) hc0 rfl rfl (unums c).length rfl w' h1 h2)
      have HPg := Lib.hid hgl
      clear hgl g1 g2 g3 hc0 hpg hrl
      generalize packB (unums c) = sg at *
      generalize (unums c).length = kg at *
      generalize unums c = yg at *
      generalize urest c = rg at *
      go_enter Tryd.func6, Tryd.ntmps6
      go_wp2_with fail
      refine (shown_any a b _ hS hn₀).mono ?_
      rintro e w1 ⟨rfl, hB1⟩
      go_wp2_with fail
      refine (HF.out _).mono ?_
      rintro e w' ⟨rfl, rfl⟩
      go_wp2_with fail
      refine (HPk.out _ ((hJ.below hB1).more hB1.size)).mono ?_
      rintro e w2 ⟨rfl, hb2⟩
      have hB2 := hB1.trans (hb2.mono hB1.size)
      clear hb2
      go_wp2_with fail
      refine (HC.out _).mono ?_
      rintro e w' ⟨rfl, rfl⟩
      go_wp2_with fail
      refine (HUg.out _ (hS.below (hB2.mono hn₀)) (Nat.le_trans hn₀ hB2.size)).mono ?_
      rintro e w3 ⟨x3, c3, rfl, hI3, hb3⟩
      have hB3 := hB2.trans (hb3.mono hB2.size)
      clear hb3
      go_wp2_with fail
      refine (HC.out _).mono ?_
      rintro e w' ⟨rfl, rfl⟩
      go_wp2_with fail
      refine (HUg.out _ (hS.below (hB3.mono hn₀)) (Nat.le_trans hn₀ hB3.size)).mono ?_
      rintro e w5 ⟨x5, c5, rfl, hI5, hb5⟩
      have hB5 := hB3.trans (hb5.mono hB3.size)
      clear hb5
      go_wp2_with fail
      refine (HPg.out _ _ _ hI5).mono ?_
      rintro e w6 ⟨rfl, hb6⟩
      have hB6 := hB5.trans (hb6.mono hB5.size)
      clear hb6
      go_wp2_with fail
      refine (HC.out _).mono ?_
      rintro e w' ⟨rfl, rfl⟩
      go_wp2
      go_ret
      exact ⟨rfl, hB6⟩
    · have hPk : ∀ w' : World, Ints w'.heap.size w' (.slice x m cap) ys → Calls Tryd.prog 18 #[.slice x m cap] w' (fun e w'' => e = .returned (.tuple #[.string ⟨#[]⟩, .int .i64 20]) ∧ Below w'.heap.size w' w'') := fun w' h =>
        (pack_any x m cap ys HZL.out hm hzt w' h).mono fun e w'' ⟨h1, h2⟩ => ⟨by rw [h1, if_neg hbig, if_neg hbig], h2⟩
      have hadd : ∀ W : World, (Op.stringOp .add ⟨#[]⟩ ⟨c.toArray⟩).run Tryd.prog W = .ok (.string ⟨c.toArray⟩) W := fun W => by
        rw [run_string_add_sum W _ _ (by simp [ByteArray.size]; omega), show (ByteArray.mk #[]) = ⟨([] : List UInt8).toArray⟩ from rfl, app_mk]
        rfl
      have HPk := Lib.hid hPk
      have hm1 : decide ((m : Int) ≤ 1000) = false := by have := HZL.out; simp; omega
      clear hPk hbig
      have hne : (ucode c == 0) = false := by simpa using hc0
      have hne2 : (ucode c != 0) = true := by simpa using hc0
      have HUb := Lib.hid (fun (w' : World) (h1 : Sent n₀ w' a b) (h2 : n₀ ≤ w'.heap.size) => unpack_bad a b c (by omega) hc0 w' h1 h2)
      have HPg : Hid (∀ w' : World, Calls Tryd.prog 18 #[.slice none 0 0] w' (fun e w'' => e = .returned (.tuple #[.string ⟨(packB []).toArray⟩, .int .i64 0]) ∧ Below w'.heap.size w' w'')) := Lib.hid (fun w' =>
        (pack_any none 0 0 [] rfl (by decide) (fun j => by simp) w' (.inl ⟨⟨none, 0, rfl⟩, rfl⟩)).mono fun e w'' ⟨h1, h2⟩ => ⟨by rw [h1]; rfl, h2⟩)
      clear hc0
      generalize packB [] = sg at *
      generalize ucode c = uc at *
      go_enter Tryd.func6, Tryd.ntmps6
      go_wp2_with fail
      refine (shown_any a b _ hS hn₀).mono ?_
      rintro e w1 ⟨rfl, hB1⟩
      go_wp2_with fail
      refine (HF.out _).mono ?_
      rintro e w' ⟨rfl, rfl⟩
      go_wp2_with fail
      refine (HPk.out _ ((hJ.below hB1).more hB1.size)).mono ?_
      rintro e w2 ⟨rfl, hb2⟩
      have hB2 := hB1.trans (hb2.mono hB1.size)
      clear hb2
      go_wp2_with fail
      refine (HC.out _).mono ?_
      rintro e w' ⟨rfl, rfl⟩
      go_wp2_with fail
      refine (HUb.out _ (hS.below (hB2.mono hn₀)) (Nat.le_trans hn₀ hB2.size)).mono ?_
      rintro e w3 ⟨rfl, hb3⟩
      have hB3 := hB2.trans (hb3.mono hB2.size)
      clear hb3
      go_wp2_with fail
      refine (HC.out _).mono ?_
      rintro e w' ⟨rfl, rfl⟩
      go_wp2_with fail
      refine (HUb.out _ (hS.below (hB3.mono hn₀)) (Nat.le_trans hn₀ hB3.size)).mono ?_
      rintro e w5 ⟨rfl, hb5⟩
      have hB5 := hB3.trans (hb5.mono hB3.size)
      clear hb5
      go_wp2_with fail
      refine (HPg.out _).mono ?_
      rintro e w6 ⟨rfl, hb6⟩
      have hB6 := hB5.trans (hb6.mono hB5.size)
      clear hb6
      go_wp2
      go_ret
      exact ⟨rfl, hB6⟩

set_option maxRecDepth 100000 in
set_option maxHeartbeats 1000000 in
theorem lifted (os : Os) (started : os.Started) (H : Type) (enc : TypeId × Value → H) :
    ReturnsInHanded {} Tryd.checked os 6 .any (fun w args => (Rows.varintListsSpec.pre enc Tryd.prog Tryd.f6 [] false w args ∧ laidMetH Tryd.prog laid2 w) ∧ sizedMet enc Tryd.prog Tryd.f6 (OpenSpec.ofChange Rows.varintListsSpec) false w args)
      (Rows.varintListsSpec.post enc Tryd.prog Tryd.f6 false true false false) := by
  refine returnsInHanded_of_change_and (C := Tryd.checked) (X := fun w _ => laidMetH Tryd.prog laid2 w) (fun _ _ _ hh h => h.of_heap hh) own started (by kernel_rfl) Tryd.func6
    (ChangeSpec.witness_shaped (enc := enc) (C := Tryd.checked) (os := os) (X := fun w _ => laidMetH Tryd.prog laid2 w) false (World.doorLaid Tryd.prog 47 os) #[.slice none 0 0, .string ⟨#[]⟩] 8 rfl (World.shaped_of_RefB (by kernel_rfl) (by kernel_rfl)) (by kernel_rfl) (by kernel_rfl) (by kernel_rfl) (door_met os _)) ?_
  intro W base args ds gs before hval0 hW _ _ hL _
  rw [laid_plain] at hL
  obtain ⟨a, b, hS⟩ := sent_of_laid hL
  have hval : ∀ (j : Nat) t v, Tryd.f6.params[j]? = some t → args[j]? = some v → Value.okWide Tryd.prog W .any base t v := hval0
  have hW' := hW
  obtain ⟨p, q, hA0, hV, rfl, hfz, hnd⟩ := hW
  have hA : DataW.TrodAll enc Tryd.prog W 0 (fun _ => true) true Tryd.f6.params.toList args.toList ds p := hA0
  rw [Tryd.params6] at hA hval
  obtain ⟨v0, vs0, d0, ds0, p0, q0, hargs, rfl, rfl, h0, r0⟩ := trodAll_cons hA
  obtain ⟨v1, vs1, d1, ds1, p1, q1, rfl, rfl, rfl, h1, r1⟩ := trodAll_cons r0
  obtain ⟨rfl, rfl, rfl⟩ := trodAll_nil r1
  obtain rfl : args = #[v0, v1] := by cases args; simp_all
  obtain ⟨rfl, rfl⟩ := trodVars_none hV
  obtain ⟨x0, len0, cap0, zs0, rfl, hlc0, hcm0, hln0, hz0, hI0, hr0⟩ := open_numbers (hval 0 32 v0 rfl rfl) h0 (fun q hq => hW'.lt q (by simp [hq]))
  obtain ⟨z1, rfl, l1, rfl, hr1⟩ := open_text (hval 1 9 v1 rfl rfl) h1
  clear hA0 hval0
  simp only [List.append_nil] at hW'
  refine (walk a b x0 len0 cap0 zs0 hlc0 hcm0 hln0 hz0 z1 l1 W hI0 hS (Nat.le_refl _)).mono fun e W' ⟨he, hg⟩ => ?_
  subst he
  exact ⟨_, rfl, post_below (pa := _) (pv := []) hW' (fun _ _ _ => (trodAll_cons_mk (shut_bool Tryd.underlying4 _) trodAll_mk0)) (fun sp hsp => (trodAll_cons_mk (hr0 _ hg sp (fun p hp => hsp p (by simp [hp]))) (trodAll_cons_mk (hr1 _ _ _ _) trodAll_mk0))) (fun _ _ => rfl) (by simp)
    hg (ok_one (by kernel_rfl) rfl (okWide_bool_mk Tryd.underlying4 _))⟩

theorem over : Rows.VarintListsSaid :=
  OpenClaim.holds_of_wide 6 Tryd.f6 rfl rfl rfl rfl rfl rfl rfl ⟨rfl, rfl, rfl, rfl, rfl⟩ rfl rfl rfl rfl rfl (by kernel_rfl) Tryd.func6 (by kernel_rfl)
    (of_decide_eq_true (by kernel_rfl)) (by unfold Func.isWrapper; first | (rw [if_pos (by decide +kernel)]; kernel_rfl) | (rw [if_neg (by decide +kernel)]; exact ⟨rfl, rfl⟩))
    (fun os started H enc _ => lifted os started H enc)

/-- The statement: the tied card. -/
theorem proved : Rows.VarintListsCardSaid :=
  Claim7.holds_tied_plain_at .later [] [.sentinel, .sentinel] true _ true
    over (fun _ h => by cases h) (by kernel_rfl) (fun _ h => by cases h) varintLists_row_tie rfl ⟨rfl, rfl⟩ (by kernel_rfl) rfl
    (fun f fn hf hfn => by
      obtain rfl : f = 6 := Option.some.inj ((show Tryd.prog.funcNamed "tesserae/tesseraelaw02.VarintLists" = some 6 by kernel_rfl).symm.trans hf) |>.symm
      obtain rfl : fn = Tryd.f6 := (Option.some.inj (Tryd.func6.symm.trans hfn)).symm
      exact ⟨by kernel_rfl, fun j t ht => by
        rw [Tryd.params6] at ht
        have hm : t ∈ [32, 9] := by simpa using Array.mem_of_getElem? ht
        have hall : ([32, 9].all fun u => !Tryd.prog.wantsStandIn u) = true := by kernel_rfl
        exact (show Tryd.prog.wantsStandIn t = false by simpa using List.all_eq_true.1 hall t hm)⟩)
    (by kernel_rfl)
#print axioms proved
end Go.Proofs.YtfdehmghnmjjoaaDoor.varintLists
