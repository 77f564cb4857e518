/- What the laws call besides: few, cut, shown. -/
import Derived.Test.YtpjcndfamhehlaaCFlip
import Derived.Test.YtpjcndfamhehlaaCVals
namespace Go.Proofs.Ytpjcndfamhehlaa
open Go.RowKit

theorem ints_cut {n₀ : Nat} {W : World} {x : Option Addr} {len cap : Nat} {zs : List Int} (h : Ints n₀ W (.slice x len cap) zs) (k : Nat) (hl : zs.length = len) : Ints n₀ W (.slice x (min len k) cap) (zs.take k) := by
  rcases h with ⟨⟨x', cap', e⟩, rfl⟩ | ⟨b, off, cap', e, hb, hc⟩
  · cases e
    exact .inl ⟨⟨x, cap, by simp⟩, by simp⟩
  · cases e
    refine .inr ⟨b, off, cap, by rw [List.length_take, Nat.min_comm], hb, fun j hj => ?_⟩
    rw [List.length_take] at hj
    rw [hc j (by omega), List.getElem?_take, if_pos (by omega)]
theorem in64_take {zs : List Int} (h : In64 zs) (k : Nat) : In64 (zs.take k) := fun j => by
  rw [List.getElem?_take]
  split
  · exact h j
  · decide

set_option maxRecDepth 100000 in
theorem few_any (x : Option Addr) (len cap : Nat) (hlc : len ≤ cap) (hcm : cap ≤ 9223372036854775807) (w : World) : Calls Try.prog 14 #[.slice x len cap] w fun e w' => e = .returned (.slice x (min len 300) cap) ∧ w = w' := by
  by_cases h : (len : Int) ≤ 300
  · have hm : min len 300 = len := by omega
    have HM := Lib.hid hm
    clear hm
    go_enter Try.func14, Try.ntmps14
    go_wp2
    go_ret
    exact ⟨by rw [HM.out]; rfl, rfl⟩
  · have hm : min len 300 = 300 := by omega
    have HM := Lib.hid hm
    clear hm
    go_enter Try.func14, Try.ntmps14
    go_wp2
    go_ret
    exact ⟨by rw [HM.out]; rfl, rfl⟩

theorem make_91 : makeV [9, 1] = .tuple #[contV 1 [1, 9], .int .i64 0] := by
  have h : ∀ z ∈ ([9, 1] : List Int), goodZ z = true := by decide
  have hf : bestF (ofL [9, 1]) = 1 := by decide +kernel
  have hd : bestD (ofL [9, 1]) = [1, 9] := by decide +kernel
  unfold makeV
  rw [if_pos h, hf, hd]; rfl
def l520 : List Nat := [5, 6, 7, 8, 9, 10, 11, 12, 13, 14, 15, 16, 17, 18, 19, 20]
theorem make_520 : makeV (zsOf l520) = .tuple #[contV 3 [5, 15], .int .i64 0] := by
  have h : ∀ z ∈ zsOf l520, goodZ z = true := by decide
  have hf : bestF (ofL (zsOf l520)) = 3 := by decide +kernel
  have hd : bestD (ofL (zsOf l520)) = [5, 15] := by decide +kernel
  unfold makeV
  rw [if_pos h, hf, hd]; rfl
theorem make_256 : makeV [256] = .tuple #[contV 0 [], .int .i64 60] := by
  have h : ¬ ∀ z ∈ ([256] : List Int), goodZ z = true := by decide
  unfold makeV
  rw [if_neg h]
theorem flip_91 : flipV 1 [1, 9] 0 256 = .tuple #[contV 3 [0, 0, 2, 6, 10, 245], .int .i64 0] := by
  have hr : RightC 1 [1, 9] := by decide +kernel
  have hf : bestF (flipS (setOf (1 : Int).toNat [1, 9]) 0 256) = 3 := by decide +kernel
  have hd : bestD (flipS (setOf (1 : Int).toNat [1, 9]) 0 256) = [0, 0, 2, 6, 10, 245] := by decide +kernel
  unfold flipV
  rw [if_pos ⟨hr, by decide, by decide, by decide, by decide⟩, hf, hd]; rfl
theorem count_91 : (vals (readS 3 [0, 0, 2, 6, 10, 245])).length = 254 := by
  have hr : RightC 3 [0, 0, 2, 6, 10, 245] := by decide +kernel
  unfold readS
  rw [if_pos hr]
  decide +kernel

theorem ints_new (w : World) (cs : Array Value) (zs : List Int) (h : ∀ j, j < zs.length → cs[j]? = some (.int .i64 (zs[j]?.getD 0))) : Ints (w.alloc (.cells cs 3)).heap.size (w.alloc (.cells cs 3)) (.slice (some ⟨w.heap.size, 0, none⟩) zs.length zs.length) zs :=
  .inr ⟨w.heap.size, 0, zs.length, rfl, by simp, fun j hj => by rw [Nat.zero_add, (Blk.new w 3 cs).cell j]; exact h j hj⟩
theorem l520_take (k : Nat) (hk : k < 16) : intVs (l520.take (k + 1)) = intVs (l520.take k) ++ [Value.int .i64 ((5 + k : Nat) : Int)] := by
  have : ∀ k : Fin 16, l520.take (k.val + 1) = l520.take k.val ++ [5 + k.val] := by decide +kernel
  rw [this ⟨k, hk⟩]
  simp [intVs]
set_option maxRecDepth 100000 in
set_option maxHeartbeats 4000000 in
theorem shown_any (w : World) : Calls Try.prog 11 #[] w fun e w' => e = .returned (.bool true) ∧ Below w.heap.size w w' := by
  have hB0 : Below w.heap.size w (w.alloc (.cells #[.int .i64 9, .int .i64 1] 3)) := (Below.refl _ w).alloc (Nat.le_refl _) _
  have hI0 := ints_new w #[.int .i64 9, .int .i64 1] [9, 1] (fun j hj => by
    match j, hj with
    | 0, _ => rfl
    | 1, _ => rfl)
  have HM1 := Lib.hid (make_any (some ⟨w.heap.size, 0, none⟩) 2 2 [9, 1] rfl (by decide) (fun j => by
    match j with
    | 0 => decide
    | 1 => decide
    | j + 2 => simp) _ hI0)
  rw [make_91] at HM1
  have HF := Lib.hid (fun W => flip_any 1 (by decide) (by decide) [1, 9] (by decide) 0 256 W)
  rw [flip_91] at HF
  have HC := Lib.hid (fun W => countC_any 3 (by decide) (by decide) [0, 0, 2, 6, 10, 245] (by decide) W)
  rw [count_91] at HC
  have HM2 := Lib.hid (fun (x : Option Addr) (cap : Nat) W (h : Ints W.heap.size W (.slice x 16 cap) (zsOf l520)) => make_any x 16 cap (zsOf l520) (by decide) (by decide) (fun j => by
    rcases Nat.lt_or_ge j 16 with h | h
    · have : ∀ j : Fin 16, -9223372036854775808 ≤ (zsOf l520)[j.val]?.getD 0 ∧ (zsOf l520)[j.val]?.getD 0 ≤ 9223372036854775807 := by decide +kernel
      exact this ⟨j, h⟩
    · rw [List.getElem?_eq_none (by simpa [zsOf, l520] using h)]; decide) W h)
  rw [make_520] at HM2
  have HM3 := Lib.hid (fun W => make_any (some ⟨W.heap.size, 0, none⟩) 1 1 [256] rfl (by decide) (fun j => by
    match j with
    | 0 => decide
    | j + 1 => simp) _ (ints_new W #[.int .i64 256] [256] (fun j hj => by
    match j, hj with
    | 0, _ => rfl)))
  rw [make_256] at HM3
  obtain ⟨i0, hi, hz0, hz1, hz2⟩ := info_parts info_int
  have HInf := Lib.hid hi; have HZ0 := Lib.hid hz0; have HZ1 := Lib.hid hz1; have HZ2 := Lib.hid hz2
  clear hi hz0 hz1 hz2 hI0
  unfold contV at HM1 HF HC HM2 HM3
  go_enter Try.func11, Try.ntmps11
  go_wp2_with fail
  refine HM1.out.mono ?_
  rintro e w1 ⟨rfl, hb1⟩
  have hB1 := hB0.trans (hb1.mono hB0.size)
  have b1 := Blk.new w1 23 #[.int .i64 1, .string ⟨[1, 9].toArray⟩]
  have hB1' := hB1.alloc hB1.size (.cells #[.int .i64 1, .string ⟨[1, 9].toArray⟩] 23)
  clear hB0 hb1 hB1 HM1
  go_wp2_with fail
  refine (HF.out _).mono ?_
  rintro e w2 ⟨rfl, hb2⟩
  have hB2 := hB1'.trans (hb2.mono hB1'.size)
  have b1' := (b1.under hb2).alloc (.cells #[.int .i64 3, .string ⟨[0, 0, 2, 6, 10, 245].toArray⟩] 23)
  have b3 := Blk.new w2 23 #[.int .i64 3, .string ⟨[0, 0, 2, 6, 10, 245].toArray⟩]
  have hB2' := hB2.alloc hB2.size (.cells #[.int .i64 3, .string ⟨[0, 0, 2, 6, 10, 245].toArray⟩] 23)
  clear hb2 hB2 b1 hB1'
  go_wp2
  have hg13 : w1.heap.size < w2.heap.size + 1 := by have := b1'.lt; simpa using this
  generalize hW0 : w2.alloc (.cells #[.int .i64 3, .string ⟨[0, 0, 2, 6, 10, 245].toArray⟩] 23) = W0 at *
  have hs0 : w2.heap.size < W0.heap.size := b3.lt
  have hs1 : w1.heap.size < W0.heap.size := b1'.lt
  have Hb1 := Lib.hid b1'; have Hb3 := Lib.hid b3; have HB2 := Lib.hid hB2'
  clear hW0 b1' b3 hB2' hg13
  generalize w1.heap.size = g1 at *
  generalize w2.heap.size = g3 at *
  go_loopw [5, 6] (fun v i wr => ∃ k : Nat, k ≤ 16 ∧ i = .int .i64 ((5 + k : Nat) : Int) ∧ wr.ownsRow W0.heap.size 3 1 v k (intVs (l520.take k)) ∧ Below W0.heap.size W0 wr)
    (fun _ i _ => 21 - (intOf i).toNat)
  case atStart => exact ⟨0, Nat.zero_le _, rfl, by simpa [intVs, l520] using World.ownsRow_nil W0 _ _ _, Below.refl _ _⟩
  case round =>
    obtain ⟨k, hk, rfl, hown, hB⟩ := hrel
    by_cases hlt : k < 16
    · have HT := Lib.hid (l520_take k hlt)
      obtain ⟨j, hj⟩ : ∃ j : Nat, j = 5 + k := ⟨_, rfl⟩
      have HJ : Hid (5 + (k + 1) = j + 1) := Lib.hid (by omega)
      rw [← hj] at HT ⊢
      have hlt' : (j : Int) ≤ 20 := by omega
      clear hj
      go_wp2_with (at_builtin; refine wpList_append_own _ rfl _ _ 24 rfl W0.heap.size 3 i0 (.int .i64 0) 1 8 Try.underlying24 HInf.out HZ0.out HZ1.out HZ2.out rfl (by decide) _ _ _ rfl (hown.alloc _) ⟨wr.heap.size, 0, none⟩ 1 1 [.int .i64 j] rfl rfl (cell_one_new _ _ _) (by simp [Value.oneCell']) (by unfold maxLen; omega) (by omega) (by have := hB.size; simp; omega) ?_; intro v2 w2 hown2 hgrow2 _)
      have hB2 : Below W0.heap.size W0 w2 := (hB.alloc hB.size _).grown hgrow2 (by have := hB.size; simp; omega) (fun j e => (hown.lt j e).1)
      rw [← HT.out] at hown2
      go_roundw
      case rel => exact ⟨k + 1, by omega, by rw [HJ.out]; simp, hown2, hB2⟩
      case measure => simp [intOf]; omega
    · obtain rfl : k = 16 := by omega
      have hge : ¬ ((5 + 16 : Nat) : Int) ≤ 20 := by omega
      have e16 : intVs (l520.take 16) = intVs l520 := rfl
      rw [e16] at hown
      obtain ⟨xv, cv, rfl⟩ := own_form hown
      have hI2 := row_zs (l := l520) rfl hown
      have HM2' := Lib.hid (HM2.out xv cv wr hI2)
      have hB3 := HB2.out.trans (hB.mono HB2.out.size)
      have b1' := Hb1.out.under hB; have b3' := Hb3.out.under hB
      clear hown hI2 hB e16 HM2
      go_wp2_with fail
      refine HM2'.out.mono ?_
      rintro e w3 ⟨rfl, hb3⟩
      have hB4 := hB3.trans (hb3.mono hB3.size)
      have hB4' := hB4.alloc hB4.size (.cells #[.int .i64 3, .string ⟨[5, 15].toArray⟩] 23)
      have c1 := (b1'.under hb3).alloc (.cells #[.int .i64 3, .string ⟨[5, 15].toArray⟩] 23)
      have c3 := (b3'.under hb3).alloc (.cells #[.int .i64 3, .string ⟨[5, 15].toArray⟩] 23)
      have c7 := Blk.new w3 23 #[.int .i64 3, .string ⟨[5, 15].toArray⟩]
      have hB5 := hB4'.alloc hB4'.size (.cells #[.int .i64 256] 3)
      have HM3' := Lib.hid (HM3.out (w3.alloc (.cells #[.int .i64 3, .string ⟨[5, 15].toArray⟩] 23)))
      rw [World.size_alloc] at HM3'
      have hl1 := (b1'.under hb3).lt; have hl3 := (b3'.under hb3).lt
      have C1 := Lib.hid c1; have C3 := Lib.hid c3; have C7 := Lib.hid c7; have HB5 := Lib.hid hB5
      clear hB3 hB4 hB4' hb3 b1' b3' c1 c3 c7 hB5 HM3
      go_wp2_with fail
      refine HM3'.out.mono ?_
      rintro e w4 ⟨rfl, hb4⟩
      have hb4' := ((Below.refl _ (w3.alloc (.cells #[.int .i64 3, .string ⟨[5, 15].toArray⟩] 23))).alloc (Nat.le_refl _) (.cells #[.int .i64 256] 3)).trans (hb4.mono (by simp))
      have d1 := C1.out.under hb4'; have d3 := C3.out.under hb4'; have d7 := C7.out.under hb4'
      have hB6 := HB5.out.trans (hb4.mono HB5.out.size)
      have HB6 := Lib.hid (hB6.alloc hB6.size (.cells #[.int .i64 0, .string ⟨#[]⟩] 23))
      have d10 := d1.cell 0; have d11 := d1.cell 1; have d30 := d3.cell 0; have d31 := d3.cell 1; have d70 := d7.cell 0; have d71 := d7.cell 1
      have e1 := d1.lt; have e3 := d3.lt; have e7 := d7.lt
      dsimp at d10 d11 d30 d31 d70 d71
      clear d1 d3 d7 hb4 hb4' hB6
      go_wp2_with (go_at_call 23; refine (HC.out _).mono ?_; rintro e w5 ⟨rfl, hb5⟩)
      go_ret
      exact ⟨rfl, HB6.out.trans (hb5.mono HB6.out.size)⟩
end Go.Proofs.Ytpjcndfamhehlaa
