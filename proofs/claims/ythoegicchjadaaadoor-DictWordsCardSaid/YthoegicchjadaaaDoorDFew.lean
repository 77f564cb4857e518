/- What the laws call besides: Few, cut, shown. -/
import Derived.Test.YthoegicchjadaaaDoorRDecM
import Derived.Test.YthoegicchjadaaaDoorDFind2
import Derived.Test.YthoegicchjadaaaDoorDDec
import Derived.Deep.AppendLies
import Derived.Deep.RegionHeld3
import Derived.Maps.AppendAt
import Derived.Laws.OwnMore
namespace Go.Proofs.YthoegicchjadaaaDoor
open Go.RowKit

/-- The first hundred texts, of at most a hundred and ten bytes. -/
def fewS (ls : List (List UInt8)) : List (List UInt8) := (ls.take 100).map (·.take 110)
theorem fewS_length (ls : List (List UInt8)) : (fewS ls).length = min ls.length 100 := by simp [fewS]; omega
theorem fewS_le (ls : List (List UInt8)) : ∀ l ∈ fewS ls, l.length ≤ 110 := by
  intro l hl
  obtain ⟨x, _, rfl⟩ := List.mem_map.1 hl
  exact List.length_take_le _ _
theorem few_snoc {ls : List (List UInt8)} {k : Nat} (h : k < ls.length) (h2 : k < 100) : ((ls.take 100).take (k + 1)).map (·.take 110) = ((ls.take 100).take k).map (·.take 110) ++ [(ls[k]?.getD []).take 110] := by
  have h' : k < (ls.take 100).length := by rw [List.length_take]; omega
  rw [List.take_succ_eq_append_getElem h', List.map_append, List.getElem?_eq_getElem h]
  simp

set_option maxRecDepth 100000 in
set_option maxHeartbeats 4000000 in
theorem few_any (x : Option Addr) (len cap : Nat) (ls : List (List UInt8)) (hlen : ls.length = len) (hcm : len ≤ 9223372036854775807) (hls : ∀ j : Nat, (ls[j]?.getD []).length ≤ 9223372036854775807) (w : World) (hI : Strs w.heap.size w (.slice x len cap) ls) :
    Calls Tryd.prog 11 #[.slice x len cap, .int .i64 100] w fun e w' => ∃ v, e = .returned v ∧ OwnS w.heap.size w' v (fewS ls) ∧ Below w.heap.size w w' := by
  obtain ⟨i0, hi, hz0, hz1, hz2⟩ := info_parts info_str
  have HI0 := Lib.hid hi; have HZ0 := Lib.hid hz0; have HZ1 := Lib.hid hz1; have HZ2 := Lib.hid hz2
  have HL := Lib.hid hlen; have HLS := Lib.hid hls; have HI := Lib.hid hI
  clear hi hz0 hz1 hz2 hlen hls hI
  go_enter Tryd.func11, Tryd.ntmps11
  go_wp2
  go_loopw [5, 6] (fun v i wr => ∃ k : Nat, k ≤ len ∧ k ≤ 100 ∧ i = .int .i64 k ∧ Hid (OwnS w.heap.size wr v (((ls.take 100).take k).map (·.take 110))) ∧ Below w.heap.size w wr)
    (fun _ i _ => len - (intOf i).toNat)
  case atStart => exact ⟨0, Nat.zero_le _, by decide, rfl, Lib.hid (World.ownsRow_nil w _ _ _), Below.refl _ _⟩
  case round =>
    obtain ⟨k, hk, hk20, rfl, HO, hB⟩ := hrel
    by_cases hlt : k < len
    · by_cases hlt2 : k < 100
      · obtain ⟨b, off, rfl, hb, hcell⟩ := HI.out.at_ hlt
        have hc1 : wr.cell? ⟨b, off + k, none⟩ = some (.string ⟨(ls[k]?.getD []).toArray⟩) := (hB.cell (p := ⟨b, off + k, none⟩) hb).trans hcell
        have HN := Lib.hid (few_snoc (ls := ls) (k := k) (by rw [HL.out]; exact hlt) hlt2)
        have htl := HLS.out k
        clear hcell
        have hkl : (((ls.take 100).take k).map (·.take 110)).length = k := by simp; have := HL.out; omega
        have hown := HO.out
        unfold OwnS at hown
        rw [hkl] at hown
        generalize ls[k]?.getD [] = t at *
        generalize ((ls.take 100).take k).map (·.take 110) = acc at *
        have hlt' : (k : Int) < len := by omega
        have hlt2' : (k : Int) < 100 := by omega
        obtain ⟨m, hm⟩ : ∃ m : Nat, m = min t.length 110 := ⟨_, rfl⟩
        have hx : (ByteArray.mk t.toArray).extract 0 m = ⟨(t.take 110).toArray⟩ := (ext_mk t 0 m).trans (mk_str (by
          rw [List.drop_zero, hm]
          rcases Nat.le_total t.length 110 with h | h
          · rw [Nat.min_eq_left h, List.take_length, List.take_of_length_le h]
          · rw [Nat.min_eq_right h]))
        have hm1 : min (t.length : Int) 110 = (m : Int) := by omega
        have hm2 : (m : Int) ≤ t.length := by omega
        clear hm
        have hr : wr.drew.cell? ⟨b, off + k, none⟩ = some (.string ⟨t.toArray⟩) := hc1
        have hra : ∀ o : Obj, (wr.alloc o).drew.cell? ⟨b, off + k, none⟩ = some (.string ⟨t.toArray⟩) := fun o => (((Below.refl w.heap.size wr).alloc hB.size o).cell (p := ⟨b, off + k, none⟩) hb).trans hc1
        generalize t.take 110 = t3 at *
        have hownA : ((wr.alloc (.cells #[.string ⟨t3.toArray⟩] 9)).drew).ownsRow w.heap.size 9 1 _ k (strVs acc) := hown.alloc _
        have hBA : Below w.heap.size w ((wr.alloc (.cells #[.string ⟨t3.toArray⟩] 9)).drew) := (hB.alloc hB.size _).drew
        have hnews : ∀ j u, [Value.string ⟨t3.toArray⟩][j]? = some u → ((wr.alloc (.cells #[.string ⟨t3.toArray⟩] 9)).drew).cell? ((⟨wr.heap.size, 0, none⟩ : Addr).add j) = some u := World.news_of_block (cs := #[.string ⟨t3.toArray⟩]) (Blk.new wr 9 #[.string ⟨t3.toArray⟩]).drew
        go_wp2
        go_region_held3 (fun W => W.cell? ⟨b, off + k, none⟩ = some (.string ⟨t.toArray⟩)) (first | exact hr | exact hra _ | assumption)
          (first | (refine step_append_lies _ rfl (.tmp 18) (.tmp 30) 22 rfl w.heap.size 9 i0 (.string ⟨#[]⟩) 1 16 Tryd.underlying22 HI0.out HZ0.out HZ1.out HZ2.out rfl (by decide) _ _ _ rfl hownA ⟨wr.heap.size, 0, none⟩ 1 1 [.string ⟨t3.toArray⟩] rfl rfl hnews (by simp [Value.oneCell']) (by decide) (by unfold maxLen; omega) (by omega) hBA.size _ rfl ?_; intro g cap2 w2 hown2 hgrow2 _ _; have hB2 : Below w.heap.size w w2 := hBA.grown hgrow2 hBA.size (fun j e => (hown.lt j e).1); have hc2 : w2.cell? ⟨b, off + k, none⟩ = some (.string ⟨t.toArray⟩) := (((Below.refl w.heap.size _).grown hgrow2 hBA.size (fun j e => (hown.lt j e).1)).cell (p := ⟨b, off + k, none⟩) hb).trans (hra _)))
        all_goals
          go_wp2
          go_roundw
          case rel =>
            refine ⟨k + 1, by omega, by omega, by simp, Lib.hid ?_, hB2⟩
            rw [HN.out]
            unfold OwnS
            rw [List.length_append, hkl, strVs_snoc]
            exact hown2
          case measure => simp [intOf]; omega
      · have hge : ¬ (k : Int) < 100 := by omega
        have hlt' : (k : Int) < len := by omega
        have HE : Hid (((ls.take 100).take k).map (·.take 110) = fewS ls) := Lib.hid (by rw [List.take_of_length_le (by rw [List.length_take]; omega)]; rfl)
        go_wp2
        go_ret
        exact ⟨_, rfl, by rw [← HE.out]; exact HO.out, hB⟩
    · have hge : ¬ (k : Int) < len := by omega
      have HE : Hid (((ls.take 100).take k).map (·.take 110) = fewS ls) := Lib.hid (by rw [List.take_of_length_le (by rw [List.length_take, HL.out]; omega)]; rfl)
      go_wp2
      go_ret
      exact ⟨_, rfl, by rw [← HE.out]; exact HO.out, hB⟩

theorem cut_any (l : List UInt8) (w : World) : Calls Tryd.prog 26 #[.string ⟨l.toArray⟩] w fun e w' => e = .returned (.string ⟨(l.take 3000).toArray⟩) ∧ w = w' := by
  have H := Lib.hid (ext_mk l)
  by_cases h : (l.length : Int) ≤ 3000
  · go_enter Tryd.func26, Tryd.ntmps26
    go_wp2
    go_ret
    exact ⟨ret_bs ((H.out 0 _).trans (mk_str (by rw [List.drop_zero, List.take_of_length_le (by omega), List.take_of_length_le (by omega)]))), rfl⟩
  · go_enter Tryd.func26, Tryd.ntmps26
    go_wp2
    go_ret
    exact ⟨ret_bs ((H.out 0 _).trans (mk_str (by rw [List.drop_zero, show (min (l.length : Int) 3000).toNat = 3000 by omega]))), rfl⟩

/-- "ab", "abc", "b". -/
def ex3 : List (List UInt8) := [[97, 98], [97, 98, 99], [98]]
theorem right_ex3 : RightL ex3 := by decide
theorem bytes_ex3 : encText ex3 = [3, 0, 2, 97, 98, 2, 1, 99, 0, 1, 98] := by
  unfold encText
  rw [if_pos right_ex3]
  show vput 3 ++ (encW [] [97, 98] ++ (encW [97, 98] [97, 98, 99] ++ (encW [97, 98, 99] [98] ++ []))) = _
  have e1 : encW [] [97, 98] = vput 0 ++ (vput 2 ++ [97, 98]) := rfl
  have e2 : encW [97, 98] [97, 98, 99] = vput 2 ++ (vput 1 ++ [99]) := by decide +kernel
  have e3 : encW [97, 98, 99] [98] = vput 0 ++ (vput 1 ++ [98]) := by decide +kernel
  rw [e1, e2, e3, vput_lo (n := 3) (by decide), vput_lo (n := 0) (by decide), vput_lo (n := 1) (by decide), vput_lo (n := 2) (by decide)]
  rfl
theorem code_ex3 : encCode ex3 = 0 := by unfold encCode; rw [if_pos right_ex3]
theorem find_ex3 : stA ex3 [97, 98, 99] = 1 ∧ findB ex3 [97, 98, 99] = true := by decide +kernel
theorem code_110 : dcode [1, 1, 0] = 50 := by
  have e : ([1, 1, 0] : List UInt8) = vput 1 ++ [1, 0] := by rw [vput_lo (by decide)]; rfl
  have e' : ([1, 0] : List UInt8) = vput 1 ++ [0] := by rw [vput_lo (by decide)]; rfl
  obtain ⟨g1, g2, g3⟩ := put_get (n := 1) (by decide) [1, 0]
  obtain ⟨f1, f2, f3⟩ := put_get (n := 1) (by decide) [0]
  have hl : (vput 1).length = 1 := by rw [vput_lo (by decide)]; rfl
  rw [hl] at g2
  rw [← e] at g1 g2 g3
  rw [← e'] at f1 f3
  have hv : vrest [1, 1, 0] = [1, 0] := by unfold vrest; rw [g2]; rfl
  have hw : wc [] [1, 0] = 50 := by
    unfold wc
    rw [if_neg (by simp [f1]), f3, if_pos (by decide)]
  have hr : rcodes 1 [] [1, 0] = 50 := by rw [rcodes, hw, if_neg (by decide)]
  rw [dcode_3 g1 (by rw [g3]; decide) (by rw [g3, hv, hr]; decide), g3, hv, hr]

theorem strs_ex3 (w : World) : Strs (w.alloc (.cells #[.string ⟨#[97, 98]⟩, .string ⟨#[97, 98, 99]⟩, .string ⟨#[98]⟩] 9)).heap.size (w.alloc (.cells #[.string ⟨#[97, 98]⟩, .string ⟨#[97, 98, 99]⟩, .string ⟨#[98]⟩] 9)) (.slice (some ⟨w.heap.size, 0, none⟩) 3 3) ex3 := by
  have hb := Blk.new w 9 #[.string ⟨#[97, 98]⟩, .string ⟨#[97, 98, 99]⟩, .string ⟨#[98]⟩]
  refine .inr ⟨w.heap.size, 0, 3, rfl, hb.lt, fun j hj => ?_⟩
  have hj' : j < 3 := hj
  rw [Nat.zero_add, hb.cell j]
  rcases (by omega : j = 0 ∨ j = 1 ∨ j = 2) with rfl | rfl | rfl <;> rfl

set_option maxRecDepth 100000 in
set_option maxHeartbeats 4000000 in
theorem shown_any {n₀ : Nat} (a b : Addr) (w : World) (hS : Sent n₀ w a b) (hE : Ety n₀ w) (hn₀ : n₀ ≤ w.heap.size) : Calls Tryd.prog 10 #[] w fun e w' => e = .returned (.bool true) ∧ Below w.heap.size w w' := by
  have hB1 : Below w.heap.size w (w.alloc (.cells #[.string ⟨#[97, 98]⟩, .string ⟨#[97, 98, 99]⟩, .string ⟨#[98]⟩] 9)) := (Below.refl _ w).alloc (Nat.le_refl _) _
  have HE := Lib.hid (encode_any _ 3 3 ex3 rfl (by decide) _ (strs_ex3 w))
  rw [bytes_ex3, code_ex3] at HE
  have HF : Hid (∀ W : World, Calls Tryd.prog 17 #[.slice (some ⟨W.heap.size, 0, none⟩) 3 3, .string ⟨#[97, 98, 99]⟩] (W.alloc (.cells #[.string ⟨#[97, 98]⟩, .string ⟨#[97, 98, 99]⟩, .string ⟨#[98]⟩] 9)) fun e w' => e = .returned (.tuple #[.int .i64 1, .bool true]) ∧ Below (W.alloc (.cells #[.string ⟨#[97, 98]⟩, .string ⟨#[97, 98, 99]⟩, .string ⟨#[98]⟩] 9)).heap.size (W.alloc (.cells #[.string ⟨#[97, 98]⟩, .string ⟨#[97, 98, 99]⟩, .string ⟨#[98]⟩] 9)) w') := Lib.hid (fun W => by
    have h := find_any (some ⟨W.heap.size, 0, none⟩) 3 3 ex3 [97, 98, 99] rfl (by decide) (by decide) _ (strs_ex3 W)
    rw [find_ex3.1, find_ex3.2] at h
    exact h)
  have HD : Hid (∀ W, Sent n₀ W a b → Ety n₀ W → n₀ ≤ W.heap.size → Calls Tryd.prog 25 #[.string ⟨#[1, 1, 0]⟩] W fun e w' => (∃ v, e = .returned (.tuple #[v, .string ⟨(drest [1, 1, 0]).toArray⟩, .int .i64 50])) ∧ Below W.heap.size W w') := Lib.hid (fun W h1 h2 h3 => by
    have h := decode_any a b [1, 1, 0] (by decide) W h1 h2 h3
    unfold DecPost at h
    rw [code_110] at h
    exact h.mono fun e w' ⟨hb, v, he, _⟩ => ⟨⟨v, he⟩, hb⟩)
  have HS := Lib.hid (fun W (h : Below w.heap.size w W) => And.intro (hS.below (h.mono hn₀)) (hE.below (h.mono hn₀)))
  have HN := Lib.hid hn₀
  clear hS hE hn₀
  generalize drest [1, 1, 0] = r at *
  go_enter Tryd.func10, Tryd.ntmps10
  go_wp2_with fail
  refine HE.out.mono ?_
  rintro e w1 ⟨rfl, hb1⟩
  have hB2 := hB1.trans (hb1.mono hB1.size)
  go_wp2_with fail
  refine (HF.out w1).mono ?_
  rintro e w2 ⟨rfl, hb2⟩
  have hB3 := (hB2.alloc hB2.size _).trans (hb2.mono (hB2.alloc hB2.size _).size)
  go_wp2_with fail
  refine (HD.out _ (HS.out _ hB3).1 (HS.out _ hB3).2 (Nat.le_trans HN.out hB3.size)).mono ?_
  rintro e w3 ⟨⟨v, rfl⟩, hb3⟩
  have hB4 := hB3.trans (hb3.mono hB3.size)
  go_wp2
  go_ret
  exact ⟨rfl, hB4⟩
end Go.Proofs.YthoegicchjadaaaDoor
