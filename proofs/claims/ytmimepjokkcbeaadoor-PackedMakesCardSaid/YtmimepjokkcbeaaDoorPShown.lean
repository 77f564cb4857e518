/- What the laws call besides: few, cut, shown. -/
import Derived.Test.YtmimepjokkcbeaaDoorPPack
import Derived.Test.YtmimepjokkcbeaaDoorPRead
namespace Go.Proofs.YtmimepjokkcbeaaDoor
open Go.RowKit

theorem ints_cut {n₀ : Nat} {W : World} {x : Option Addr} {len cap : Nat} {zs : List Int} (h : Ints n₀ W (.slice x len cap) zs) (k : Nat) (hl : zs.length = len) : Ints n₀ W (.slice x (min len k) cap) (zs.take k) := by
  rcases h with ⟨⟨x', cap', e⟩, rfl⟩ | ⟨b, off, cap', e, hb, hc⟩
  · cases e
    exact .inl ⟨⟨x, cap, by simp⟩, by simp⟩
  · cases e
    refine .inr ⟨b, off, cap, by rw [List.length_take, Nat.min_comm], hb, fun j hj => ?_⟩
    rw [List.length_take] at hj
    rw [hc j (by omega), List.getElem?_take, if_pos (by omega)]
theorem in64_take {zs : List Int} (h : In64 zs) (k : Nat) : In64 (zs.take k) := fun j => by
  rw [List.getElem?_take]
  split
  · exact h j
  · decide

set_option maxRecDepth 100000 in
theorem few_any (x : Option Addr) (len cap : Nat) (hlc : len ≤ cap) (hcm : cap ≤ 9223372036854775807) (w : World) : Calls Tryd.prog 11 #[.slice x len cap] w fun e w' => e = .returned (.slice x (min len 1010) cap) ∧ w = w' := by
  by_cases h : (len : Int) ≤ 1010
  · have hm : min len 1010 = len := by omega
    have HM := Lib.hid hm
    clear hm
    go_enter Tryd.func11, Tryd.ntmps11
    go_wp2
    go_ret
    exact ⟨by rw [HM.out]; rfl, rfl⟩
  · have hm : min len 1010 = 1010 := by omega
    have HM := Lib.hid hm
    clear hm
    go_enter Tryd.func11, Tryd.ntmps11
    go_wp2
    go_ret
    exact ⟨by rw [HM.out]; rfl, rfl⟩
theorem cut_any (l : List UInt8) (w : World) : Calls Tryd.prog 16 #[.string ⟨l.toArray⟩] w fun e w' => e = .returned (.string ⟨(l.take 2010).toArray⟩) ∧ w = w' := by
  have H := Lib.hid (ext_mk l)
  by_cases h : (l.length : Int) ≤ 2010
  · go_enter Tryd.func16, Tryd.ntmps16
    go_wp2
    go_ret
    exact ⟨ret_bs ((H.out 0 _).trans (mk_str (by rw [List.drop_zero, List.take_of_length_le (Nat.le_refl _), List.take_of_length_le (by omega)]))), rfl⟩
  · go_enter Tryd.func16, Tryd.ntmps16
    go_wp2
    go_ret
    exact ⟨ret_bs ((H.out 0 _).trans (mk_str (by simp))), rfl⟩

theorem width_503 : wdl [5, 0, 3] = 3 := by
  show wd 5 = 3
  rw [wd_pos (by decide), show 5 / 2 = 2 from rfl, wd_pos (by decide), show 2 / 2 = 1 from rfl, wd_pos (by decide), show 1 / 2 = 0 from rfl, wd_zero]
theorem bytes_503 : packP [5, 0, 3] = [3, 3, 161, 128] := by
  unfold packP
  rw [width_503]
  show vput 3 ++ _ = _
  rw [vput_lo (by decide)]
  rfl
theorem ok_503 : Okz [5, 0, 3] := by decide
theorem code_1 : pcode [1, 1, 192] = 40 := by
  have e : ([1, 1, 192] : List UInt8) = vput 1 ++ [1, 192] := by rw [vput_lo (by decide)]; rfl
  obtain ⟨g1, g2, g3⟩ := put_get (n := 1) (by decide) [1, 192]
  have hl : (vput 1).length = 1 := by rw [vput_lo (by decide)]; rfl
  rw [hl] at g2
  rw [← e] at g1 g2 g3
  have hw : pw [1, 1, 192] = 1 := by unfold pw; rw [g2]; rfl
  have ht : pt [1, 1, 192] = [192] := by unfold pt; rw [g2]; rfl
  have hk : ¬ pok [1, 1, 192] := fun h => by
    have h1 := h.1
    rw [hw, ht, g3] at h1
    exact absurd h1 (by decide)
  unfold pcode
  rw [if_neg (by simp [g1]), g3, g2, hw, ht, if_neg (by decide), if_neg (by decide), if_neg (by decide), if_neg (by decide), if_neg hk]
theorem at_503 : acode [3, 3, 161, 128] 2 = 0 ∧ aval [3, 3, 161, 128] 2 = 3 := by
  obtain ⟨h1, h2, h3⟩ := pack_unpack (l := [5, 0, 3]) (by decide) (by decide) []
  obtain ⟨_, _, h4, _⟩ := pack_parts (l := [5, 0, 3]) (by decide) (by decide) []
  rw [List.append_nil, bytes_503] at h1 h2 h4
  obtain ⟨e1, e2⟩ := acode_in (p := 2) h1 (by rw [h4]; decide)
  refine ⟨e1, ?_⟩
  rw [e2]
  unfold plistZ
  rw [h2]; rfl

set_option maxRecDepth 100000 in
set_option maxHeartbeats 2000000 in
theorem shown_any {n₀ : Nat} (a b : Addr) (w : World) (hS : Sent n₀ w a b) (hn₀ : n₀ ≤ w.heap.size) : Calls Tryd.prog 9 #[] w fun e w' => e = .returned (.bool true) ∧ Below w.heap.size w w' := by
  have hb0 := Blk.new w 3 #[.int .i64 5, .int .i64 0, .int .i64 3]
  have hB0 : Below w.heap.size w (w.alloc (.cells #[.int .i64 5, .int .i64 0, .int .i64 3] 3)) := (Below.refl _ w).alloc (Nat.le_refl _) _
  have hI : Ints (w.alloc (.cells #[.int .i64 5, .int .i64 0, .int .i64 3] 3)).heap.size (w.alloc (.cells #[.int .i64 5, .int .i64 0, .int .i64 3] 3)) (.slice (some ⟨w.heap.size, 0, none⟩) 3 3) [5, 0, 3] := .inr ⟨w.heap.size, 0, 3, rfl, by simp, fun j hj => by
    rw [Nat.zero_add, hb0.cell j]
    match j, hj with
    | 0, _ => rfl
    | 1, _ => rfl
    | 2, _ => rfl⟩
  have HPk := Lib.hid (pack_any (some ⟨w.heap.size, 0, none⟩) 3 3 [5, 0, 3] rfl (by decide) (in64_ok ok_503) _ hI)
  unfold PackPost at HPk
  rw [packZ_ok ok_503, wcode_ok ok_503, show nats [5, 0, 3] = [5, 0, 3] from rfl, bytes_503] at HPk
  have HAt := Lib.hid (fun w' h1 h2 => at_any a b [3, 3, 161, 128] (by decide) 2 (by decide) (by decide) w' (n₀ := n₀) h1 h2)
  have HUn := Lib.hid (fun w' h1 h2 => unpack_bad a b [1, 1, 192] (by decide) (by rw [code_1]; decide) w' (n₀ := n₀) h1 h2)
  obtain ⟨e1, e2⟩ := at_503
  rw [e1, e2] at HAt
  rw [code_1] at HUn
  clear hb0 hI
  go_enter Tryd.func9, Tryd.ntmps9
  go_wp2_with fail
  refine HPk.out.mono ?_
  rintro e w1 ⟨rfl, hb1⟩
  have hB1 := hB0.trans (hb1.mono hB0.size)
  clear hb1 hB0 HPk
  go_wp2_with fail
  refine (HAt.out _ (hS.below (hB1.mono hn₀)) (Nat.le_trans hn₀ hB1.size)).mono ?_
  rintro e w2 ⟨rfl, hb2⟩
  have hB2 := hB1.trans (hb2.mono hB1.size)
  clear hb2 hB1
  go_wp2_with fail
  refine (HUn.out _ (hS.below (hB2.mono hn₀)) (Nat.le_trans hn₀ hB2.size)).mono ?_
  rintro e w3 ⟨rfl, hb3⟩
  have hB3 := hB2.trans (hb3.mono hB2.size)
  go_wp2
  go_ret
  exact ⟨rfl, hB3⟩
end Go.Proofs.YtmimepjokkcbeaaDoor
