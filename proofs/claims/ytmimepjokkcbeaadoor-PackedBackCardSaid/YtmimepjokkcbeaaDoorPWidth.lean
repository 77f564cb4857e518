/- packed.widthOf, packed.Width; the document's Width. -/
import Derived.Test.YtmimepjokkcbeaaDoorPLeaf
import Derived.Test.YtmimepjokkcbeaaDoorVInts
import Derived.LoopTactic
namespace Go.Proofs.YtmimepjokkcbeaaDoor
open Go.RowKit

/-- A list that has bytes: at most 1000 numbers, each from 0 to 65535. -/
def Okz (zs : List Int) : Prop := zs.length ≤ 1000 ∧ ∀ z ∈ zs, 0 ≤ z ∧ z ≤ 65535
instance (zs : List Int) : Decidable (Okz zs) := inferInstanceAs (Decidable (_ ∧ _))
def nats (zs : List Int) : List Nat := zs.map Int.toNat
def wcode (zs : List Int) : Int := if Okz zs then 0 else 40
def wval (zs : List Int) : Int := if Okz zs then (wdl (nats zs) : Nat) else 0
theorem nats_snoc (zs : List Int) (z : Int) : nats (zs ++ [z]) = nats zs ++ [z.toNat] := by simp [nats]
theorem take_z {zs : List Int} {k : Nat} (h : k < zs.length) : zs.take (k + 1) = zs.take k ++ [zs[k]?.getD 0] := by
  rw [List.take_succ_eq_append_getElem h, List.getElem?_eq_getElem h]; rfl
theorem wdl_step {zs : List Int} {k : Nat} (h : k < zs.length) : wdl (nats (zs.take (k + 1))) = max (wdl (nats (zs.take k))) (wd (zs[k]?.getD 0).toNat) := by
  rw [take_z h, nats_snoc, wdl_snoc]
theorem most_step {zs : List Int} {k : Nat} (h : k < zs.length) : mostN (nats (zs.take (k + 1))) = max (mostN (nats (zs.take k))) (zs[k]?.getD 0).toNat := by
  rw [take_z h, nats_snoc, mostN_snoc]
/-- The first k are small. -/
def Small (zs : List Int) (k : Nat) : Prop := ∀ j, j < k → 0 ≤ zs[j]?.getD 0 ∧ zs[j]?.getD 0 ≤ 65535
theorem small_succ {zs : List Int} {k : Nat} (h : Small zs k) (h1 : 0 ≤ zs[k]?.getD 0) (h2 : zs[k]?.getD 0 ≤ 65535) : Small zs (k + 1) := fun j hj => by
  rcases Nat.lt_or_ge j k with h' | h'
  · exact h j h'
  · obtain rfl : j = k := by omega
    exact ⟨h1, h2⟩
theorem small_all {zs : List Int} (h : Small zs zs.length) : ∀ z ∈ zs, 0 ≤ z ∧ z ≤ 65535 := fun z hz => by
  obtain ⟨j, hj, rfl⟩ := List.mem_iff_getElem.1 hz
  have := h j hj
  rwa [List.getElem?_eq_getElem hj] at this
theorem ok_of_small {zs : List Int} (hl : zs.length ≤ 1000) (h : Small zs zs.length) : Okz zs := ⟨hl, small_all h⟩
theorem not_ok {zs : List Int} {k : Nat} (hk : k < zs.length) (h : zs[k]?.getD 0 < 0 ∨ 65535 < zs[k]?.getD 0) : ¬ Okz zs := fun hO => by
  have := hO.2 (zs[k]) (List.getElem_mem hk)
  rw [List.getElem?_eq_getElem hk] at h
  simp only [Option.getD_some] at h
  omega
theorem not_ok_long {zs : List Int} (h : 1000 < zs.length) : ¬ Okz zs := fun hO => by have := hO.1; omega
theorem wval_ok {zs : List Int} (h : Okz zs) : wval zs = (wdl (nats zs) : Nat) := if_pos h
theorem wcode_ok {zs : List Int} (h : Okz zs) : wcode zs = 0 := if_pos h
theorem wval_no {zs : List Int} (h : ¬ Okz zs) : wval zs = 0 := if_neg h
theorem wcode_no {zs : List Int} (h : ¬ Okz zs) : wcode zs = 40 := if_neg h
theorem nats_length (zs : List Int) : (nats zs).length = zs.length := by simp [nats]
theorem nats_small {zs : List Int} (h : Okz zs) : ∀ n ∈ nats zs, n < 65536 := fun n hn => by
  obtain ⟨z, hz, rfl⟩ := List.mem_map.1 hn
  have := h.2 z hz
  omega
theorem wdl_16 {zs : List Int} (h : Okz zs) : wdl (nats zs) ≤ 16 := wdl_le (k := 16) (nats_small h)
theorem wd_16 {n : Nat} (h : n ≤ 65535) : wd n ≤ 16 := wd_le.2 (by omega)
theorem nats_get {zs : List Int} (h : Okz zs) (k : Nat) : zs[k]?.getD 0 = ((nats zs).getD k 0 : Nat) := by
  unfold nats
  rw [List.getD_eq_getElem?_getD, List.getElem?_map]
  by_cases hk : k < zs.length
  · rw [List.getElem?_eq_getElem hk]
    have := h.2 _ (List.getElem_mem hk)
    simp only [Option.map_some, Option.getD_some]
    omega
  · rw [List.getElem?_eq_none (by omega)]; rfl

/-- What the width's call answers. -/
def WidthPost (zs : List Int) (w : World) (e : Ending) (w' : World) : Prop := e = .returned (.tuple #[.int .i64 (wval zs), .int .i64 (wcode zs)]) ∧ Below w.heap.size w w'
theorem WidthPost.bad {zs : List Int} {w w' : World} (h : ¬ Okz zs) (hb : Below w.heap.size w w') : WidthPost zs w (.returned (.tuple #[.int .i64 0, .int .i64 40])) w' := ⟨by rw [wval_no h, wcode_no h], hb⟩
theorem WidthPost.good {zs : List Int} {w w' : World} {v : Int} (h : Okz zs) (hv : v = (wdl (nats zs) : Nat)) (hb : Below w.heap.size w w') : WidthPost zs w (.returned (.tuple #[.int .i64 v, .int .i64 0])) w' := ⟨by rw [wval_ok h, wcode_ok h, hv], hb⟩

set_option maxRecDepth 100000 in
set_option maxHeartbeats 2000000 in
theorem widthOf_any (x : Option Addr) (len cap : Nat) (zs : List Int) (hlen : zs.length = len) (hcm : len ≤ 9223372036854775807) (hz : In64 zs) (w : World) (hI : Ints w.heap.size w (.slice x len cap) zs) :
    Calls Tryd.prog 22 #[.slice x len cap] w (WidthPost zs w) := by
  have HL := Lib.hid hlen
  have HI := Lib.hid hI
  clear hlen hI
  by_cases hbig : len ≤ 1000
  · have hb' : ¬ (1000 : Int) < len := by omega
    go_enter Tryd.func22, Tryd.ntmps22
    go_wp2
    refine wp_scope_over 0 rfl ?_
    go_wp2
    go_loop [4, 12] (fun v i => ∃ k : Nat, k ≤ len ∧ i = .int .i64 k ∧ v = .int .i64 (wdl (nats (zs.take k)) : Nat) ∧ Hid (Small zs k) ∧ Hid (wdl (nats (zs.take k)) ≤ 16))
      (fun _ i => len - (intOf i).toNat)
    case atStart => exact ⟨0, Nat.zero_le _, rfl, by simp [nats, wdl, mostN, wd_zero], Lib.hid (fun j hj => by omega), Lib.hid (by simp [nats, wdl, mostN, wd_zero])⟩
    case round =>
      obtain ⟨k, hk, rfl, rfl, HS, HW⟩ := hrel
      have hw16 := HW.out
      by_cases hlt : k < len
      · obtain ⟨b, off, rfl, hb, hc1⟩ := HI.out.at_ hlt
        have hlt' : (k : Int) < len := by omega
        have hk1 : k < zs.length := by rw [HL.out]; exact hlt
        have HSt := Lib.hid (wdl_step hk1)
        have hzk := hz k
        have HN := Lib.hid (fun h => not_ok (zs := zs) hk1 h)
        have HU := Lib.hid (fun h1 h2 => small_succ HS.out (k := k) h1 h2)
        generalize zs[k]?.getD 0 = z at *
        generalize wdl (nats (zs.take k)) = v at *
        by_cases hneg : z < 0
        · have HP := Lib.hid (WidthPost.bad (HN.out (.inl hneg)) (Below.refl w.heap.size w))
          go_wp2
          go_step3
          refine ⟨rfl, ?_⟩
          go_wp2
          try rw [Exit.jump_ret]
          go_ret2
          exact HP.out
        · by_cases hgt : 65535 < z
          · have HP := Lib.hid (WidthPost.bad (HN.out (.inr hgt)) (Below.refl w.heap.size w))
            go_wp2
            go_step3
            refine ⟨rfl, ?_⟩
            go_wp2
            try rw [Exit.jump_ret]
            go_ret2
            exact HP.out
          · have hln := len_any z.toNat (by omega)
            have hzn : (z.toNat : Int) = z := by omega
            rw [hzn] at hln
            have HLn := Lib.hid hln
            have hwd := wd_16 (n := z.toNat) (by omega)
            have HU2 := Lib.hid (HU.out (by omega) (by omega))
            clear hln hzn
            generalize wd z.toNat = q at *
            have HM : Hid (wdl (nats (zs.take (k + 1))) ≤ 16) := Lib.hid (by rw [HSt.out]; omega)
            have e1 : IntKind.u64.wrap z = z := by rw [u64_wrap]; omega
            go_wp2_with (go_at_call 32; refine (HLn.out _).mono ?_; rintro e w' ⟨rfl, rfl⟩)
            go_round
            case rel => exact ⟨k + 1, by omega, by simp, by rw [HSt.out]; congr 1; omega, HU2, HM⟩
            case measure => simp [intOf]; omega
      · obtain rfl : k = len := by omega
        have hge : ¬ (k : Int) < k := by omega
        have HP : Hid (WidthPost zs w (.returned (.tuple #[.int .i64 (wdl (nats (zs.take k)) : Nat), .int .i64 0])) w) := Lib.hid (.good (ok_of_small (by rw [HL.out]; exact hbig) (by rw [HL.out]; exact HS.out)) (by rw [← HL.out, List.take_length]) (Below.refl _ _))
        generalize wdl (nats (zs.take k)) = v at *
        go_wp2
        try rw [Exit.jump_ret]
        go_ret2
        exact HP.out
  · have hb' : (1000 : Int) < len := by omega
    have HP := Lib.hid (WidthPost.bad (not_ok_long (zs := zs) (by rw [HL.out]; omega)) (Below.refl w.heap.size w))
    go_enter Tryd.func22, Tryd.ntmps22
    go_wp2
    refine wp_scope_over 0 rfl ?_
    go_wp2
    go_step3
    refine ⟨rfl, ?_⟩
    go_wp2
    try rw [Exit.jump_ret]
    go_ret2
    exact HP.out

set_option maxRecDepth 100000 in
theorem width_any (x : Option Addr) (len cap : Nat) (zs : List Int) (hlen : zs.length = len) (hcm : len ≤ 9223372036854775807) (hz : In64 zs) (w : World) (hI : Ints w.heap.size w (.slice x len cap) zs) :
    Calls Tryd.prog 13 #[.slice x len cap] w (WidthPost zs w) := by
  have HW := Lib.hid (widthOf_any x len cap zs hlen hcm hz w hI)
  go_enter Tryd.func13, Tryd.ntmps13
  go_wp2_with fail
  refine HW.out.mono ?_
  rintro e w1 ⟨rfl, hb⟩
  go_wp2
  go_ret2
  exact ⟨rfl, hb⟩

set_option maxRecDepth 100000 in
set_option maxHeartbeats 2000000 in
theorem ref_width_any (x : Option Addr) (len cap : Nat) (zs : List Int) (hlen : zs.length = len) (hcm : len ≤ 9223372036854775807) (hz : In64 zs) (w : World) (hI : Ints w.heap.size w (.slice x len cap) zs) :
    Calls Tryd.prog 14 #[.slice x len cap] w (WidthPost zs w) := by
  have HL := Lib.hid hlen
  have HI := Lib.hid hI
  clear hlen hI
  go_enter Tryd.func14, Tryd.ntmps14
  go_wp2
  go_loop [4, 5] (fun v i => ∃ k : Nat, k ≤ len ∧ i = .int .i64 k ∧ v = .int .i64 (mostN (nats (zs.take k)) : Nat) ∧ Hid (Small zs k) ∧ Hid (mostN (nats (zs.take k)) ≤ 65535))
    (fun _ i => len - (intOf i).toNat)
  case atStart => exact ⟨0, Nat.zero_le _, rfl, by simp [nats, mostN], Lib.hid (fun j hj => by omega), Lib.hid (by simp [nats, mostN])⟩
  case round =>
    obtain ⟨k, hk, rfl, rfl, HS, HW⟩ := hrel
    have hw16 := HW.out
    by_cases hlt : k < len
    · obtain ⟨b, off, rfl, hb, hc1⟩ := HI.out.at_ hlt
      have hlt' : (k : Int) < len := by omega
      have hk1 : k < zs.length := by rw [HL.out]; exact hlt
      have HSt := Lib.hid (most_step hk1)
      have hzk := hz k
      have HN := Lib.hid (fun h => not_ok (zs := zs) hk1 h)
      have HU := Lib.hid (fun h1 h2 => small_succ HS.out (k := k) h1 h2)
      generalize zs[k]?.getD 0 = z at *
      generalize mostN (nats (zs.take k)) = v at *
      by_cases hneg : z < 0
      · have HP := Lib.hid (WidthPost.bad (HN.out (.inl hneg)) (Below.refl w.heap.size w))
        go_wp2
        go_ret2
        exact HP.out
      · by_cases hgt : 65535 < z
        · have HP := Lib.hid (WidthPost.bad (HN.out (.inr hgt)) (Below.refl w.heap.size w))
          go_wp2
          go_ret2
          exact HP.out
        · have HU2 := Lib.hid (HU.out (by omega) (by omega))
          have HM : Hid (mostN (nats (zs.take (k + 1))) ≤ 65535) := Lib.hid (by rw [HSt.out]; omega)
          go_wp2
          go_round
          case rel => exact ⟨k + 1, by omega, by simp, by rw [HSt.out]; congr 1; omega, HU2, HM⟩
          case measure => simp [intOf]; omega
    · obtain rfl : k = len := by omega
      have hge : ¬ (k : Int) < k := by omega
      by_cases hbig : k ≤ 1000
      · have hb' : ¬ (1000 : Int) < k := by omega
        have HO := Lib.hid (ok_of_small (by rw [HL.out]; exact hbig) (by rw [HL.out]; exact HS.out))
        have HE : Hid (mostN (nats (zs.take k)) = mostN (nats zs)) := Lib.hid (by rw [← HL.out, List.take_length])
        generalize mostN (nats (zs.take k)) = m at *
        go_wp2_with fail
        go_loop [4, 6] (fun r j => ∃ a b : Nat, r = .int .i64 a ∧ j = .int .i64 b ∧ a ≤ 65535 ∧ b ≤ 16 ∧ Hid (wd m = b + wd a))
          (fun r _ => (intOf r).toNat)
        case atStart => exact ⟨m, 0, rfl, rfl, hw16, by omega, Lib.hid (by omega)⟩
        case round =>
          obtain ⟨a, b, rfl, rfl, ha, hb, HA⟩ := hrel
          have hA := HA.out
          by_cases h0 : a = 0
          · subst h0
            have HP : Hid (WidthPost zs w (.returned (.tuple #[.int .i64 (b : Nat), .int .i64 0])) w) := Lib.hid (.good HO.out (by unfold wdl; rw [← HE.out, hA, wd_zero]; simp) (Below.refl _ _))
            clear hA
            go_wp2
            go_ret2
            exact HP.out
          · have h0' : (0 : Int) < a := by omega
            have e0 : (a : Int).tdiv 2 = (a : Int) / 2 := Int.tdiv_eq_ediv_of_nonneg (by omega)
            have HB : Hid (wd m = b + 1 + wd (a / 2)) := Lib.hid (by rw [hA, wd_pos h0]; omega)
            have hb15 : b ≤ 15 := by have := wd_pos h0; have := wd_16 (n := m) hw16; omega
            clear hA
            go_wp2
            go_round
            case rel => exact ⟨a / 2, b + 1, by simp, by simp, by omega, by omega, HB⟩
            case measure => simp [intOf]; omega
      · have hb' : (1000 : Int) < k := by omega
        have HP := Lib.hid (WidthPost.bad (not_ok_long (zs := zs) (by rw [HL.out]; omega)) (Below.refl w.heap.size w))
        go_wp2
        go_ret2
        exact HP.out
end Go.Proofs.YtmimepjokkcbeaaDoor
