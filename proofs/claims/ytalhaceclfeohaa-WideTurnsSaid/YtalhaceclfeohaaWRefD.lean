/- The document's own sum of numbers; the first thousand of a list. -/
import Derived.Test.YtalhaceclfeohaaWRef
import Derived.Test.YtalhaceclfeohaaWSum
import Derived.LoopTactic
import Derived.Deep.RegionWith
import Derived.WalkLawsBesides
namespace Go.Proofs.Ytalhaceclfeohaa
open Go.RowKit

set_option maxHeartbeats 1000000 in
theorem cut_any (x : Option Addr) (len cap : Nat) (h1 : len ≤ cap) (h2 : cap ≤ 9223372036854775807) (w : World) :
    Calls Try.prog 27 #[.slice x len cap] w fun e w' => e = .returned (.slice x (min len 1000) cap) ∧ w = w' := by
  by_cases h : len ≤ 1000
  · have H := Lib.hid (Nat.min_eq_left h)
    go_enter Try.func27, Try.ntmps27
    go_wp2
    go_ret
    exact ⟨by rw [H.out]; rfl, rfl⟩
  · have H := Lib.hid (Nat.min_eq_right (show 1000 ≤ len by omega))
    have h' : (1000 : Int) ≤ len := by omega
    have h'' : 1000 ≤ cap := by omega
    go_enter Try.func27, Try.ntmps27
    go_wp2
    go_ret
    exact ⟨by rw [H.out]; rfl, rfl⟩

theorem Ints.at_ {n₀ : Nat} {W : World} {a : Option Addr} {len cap : Nat} {zs : List Int} (h : Ints n₀ W (.slice a len cap) zs) {k : Nat} (hk : k < len) :
    ∃ b off, a = some ⟨b, off, none⟩ ∧ zs.length = len ∧ b < n₀ ∧ W.cell? ⟨b, off + k, none⟩ = some (.int .i64 (zs[k]?.getD 0)) := by
  rcases h with ⟨⟨x, c, hx⟩, rfl⟩ | ⟨b, off, c, hx, hb, hc⟩
  · cases hx; omega
  · cases hx; exact ⟨b, off, rfl, rfl, hb, hc k hk⟩
theorem Ints.len_ {n₀ : Nat} {W : World} {a : Option Addr} {len cap : Nat} {zs : List Int} (h : Ints n₀ W (.slice a len cap) zs) : zs.length = len := by
  rcases h with ⟨⟨x, c, hx⟩, rfl⟩ | ⟨b, off, c, hx, hb, hc⟩ <;> cases hx <;> rfl
theorem sumL_take (zs : List Int) (k : Nat) (hk : k < zs.length) : sumL (zs.take k) + zs[k]?.getD 0 = sumL (zs.take (k + 1)) := by
  rw [List.take_succ_eq_append_getElem hk, sumL_snoc, List.getElem?_eq_getElem hk]; rfl

set_option maxHeartbeats 1000000 in
theorem ref_sum_any (a : Option Addr) (len cap : Nat) (zs : List Int) (hz : In64 zs) (hreach : len ≤ 1000) (w : World) (hI : Ints w.heap.size w (.slice a len cap) zs) :
    Calls Try.prog 28 #[.slice a len cap] w (RetW (sumL zs) w) := by
  have hlen := hI.len_
  have HT : Hid (zs.take len = zs) := Lib.hid (List.take_of_length_le (by omega))
  have HL := Lib.hid hlen
  clear hlen
  go_enter Try.func28, Try.ntmps28
  go_wp2
  go_loopw [4] (fun v wr => ∃ k : Nat, k ≤ len ∧ v = .int .i64 k ∧ Blk wr (w.heap.size + 1) 24 #[.int .i64 (wHi (sumL (zs.take k))), .int .u64 (wLo (sumL (zs.take k)))] ∧ Blk wr w.heap.size 24 #[.int .i64 0, .int .u64 0] ∧ Below w.heap.size w wr)
    (fun v _ => len - (intOf v).toNat)
  case atStart =>
    have b := Blk.new (w.alloc (.cells #[.int .i64 0, .int .u64 0] 24)) 24 #[.int .i64 0, .int .u64 0]
    rw [World.size_alloc] at b
    exact ⟨0, Nat.zero_le _, rfl, b, (Blk.new w _ _).alloc _, ((Below.refl _ _).alloc (Nat.le_refl _) _).alloc (by simp) _⟩
  case round =>
    obtain ⟨k, hk, rfl, c1, c2, hB⟩ := hrel
    have d0 := c1.cell 0; have d1 := c1.cell 1
    have e0 := c2.cell 0; have e1 := c2.cell 1; have f0 := c2.frozen 0; have f1 := c2.frozen 1
    dsimp at d0 d1 e0 e1
    by_cases hlt : k < len
    · obtain ⟨b, off, rfl, -, hb, hc⟩ := hI.at_ hlt
      have HS := Lib.hid (sumL_take zs k (by have := HL.out; omega))
      have hc1 := (hB.cell (p := ⟨b, off + k, none⟩) hb).trans hc
      obtain ⟨z1, z2⟩ := hz k
      have i0 : (0 : Int) ≤ k := by omega
      have i1 : (k : Int) < len := by omega
      go_wp2
      go_region_with (first | (go_at_call 25; refine (ref_of_any _ z1 z2 _).mono ?_; rintro e w4 ⟨rfl, hb4⟩; have bB := Blk.under (Blk.drew c1) hb4; have g0 := bB.cell 0; have g1 := bB.cell 1; dsimp at g0 g1) | (go_at_call 15; refine (ref_add_any _ _ _).mono ?_; rintro e w5 ⟨rfl, hb5⟩; have bC := bB.under hb5; have l0 := bC.cell 0; have l1 := bC.cell 1; have m0 := bC.frozen 0; have m1 := bC.frozen 1; dsimp at l0 l1))
      all_goals
        go_wp2
        go_roundw
        case rel =>
          have hB4 := hB.drew.trans (hb4.mono hB.drew.size)
          have hB5 := hB4.trans (hb5.mono hB4.size)
          exact ⟨k + 1, by omega, by go_num, by rw [← HS.out]; exact (bC.set_ 0 _).set_ 1 _, (((Blk.under (Blk.drew c2) hb4).under hb5).far (by simp) _).far (by simp) _, (hB5.setCell (p := ⟨w.heap.size + 1, 0, none⟩) (by simp) _).setCell (p := ⟨w.heap.size + 1, 1, none⟩) (by simp) _⟩
        case measure => simp [intOf]; omega
    · obtain rfl : len = k := by omega
      go_wp2
      rw [HT.out]
      have q := (c2.set_ 0 (.int .i64 (wHi (sumL zs)))).set_ 1 (.int .u64 (wLo (sumL zs)))
      have r0 := q.cell 0
      have r1 := q.cell 1
      simp only [List.setIfInBounds_toArray, List.set_cons_zero, List.set_cons_succ] at r0 r1
      refine bodyPost_ret (v := (.agg #[.int .i64 (wHi (sumL zs)), .int .u64 (wLo (sumL zs))])) ?_ rfl ⟨rfl, (hB.setCell (p := ⟨w.heap.size, 0, none⟩) (Nat.le_refl _) _).setCell (p := ⟨w.heap.size, 1, none⟩) (Nat.le_refl _) _⟩
      simp [results, Try.results28, go_sem, r0, r1]

theorem In64.take {zs : List Int} (h : In64 zs) (k : Nat) : In64 (zs.take k) := fun j => by
  by_cases hj : j < k
  · rw [List.getElem?_take, if_pos hj]; exact h j
  · rw [List.getElem?_take, if_neg hj]; decide
theorem ints_cut {n₀ : Nat} {W : World} {x : Option Addr} {len cap : Nat} {zs : List Int} (h : Ints n₀ W (.slice x len cap) zs) (k : Nat) : Ints n₀ W (.slice x (min len k) cap) (zs.take k) := by
  rcases h with ⟨⟨y, c, hx⟩, rfl⟩ | ⟨b, off, c, hx, hb, hc⟩
  · cases hx
    exact .inl ⟨⟨_, _, by rw [Nat.zero_min]⟩, by simp⟩
  · cases hx
    refine .inr ⟨b, off, _, by rw [List.length_take, Nat.min_comm], hb, fun j hj => ?_⟩
    rw [List.length_take] at hj
    rw [hc j (by omega), List.getElem?_take, if_pos (by omega)]

theorem ints_pre {n₀ : Nat} {W : World} {x : Option Addr} {len cap : Nat} {zs : List Int} (h : Ints n₀ W (.slice x len cap) zs) {k : Nat} (hk : k ≤ len) : Ints n₀ W (.slice x k cap) (zs.take k) := by
  have := ints_cut h k
  rwa [Nat.min_eq_right hk] at this
theorem In64.drop {zs : List Int} (h : In64 zs) (k : Nat) : In64 (zs.drop k) := fun j => by
  rw [List.getElem?_drop]; exact h (k + j)
/-- What lies behind place k. -/
theorem ints_suf {n₀ : Nat} {W : World} {x : Option Addr} {len cap cap' : Nat} {zs : List Int} (h : Ints n₀ W (.slice x len cap) zs) {k : Nat} (hk : k ≤ len) : Ints n₀ W (.slice (x.map (·.add k)) (len - k) cap') (zs.drop k) := by
  rcases h with ⟨⟨y, c, hx⟩, rfl⟩ | ⟨b, off, c, hx, hb, hc⟩
  · cases hx
    exact .inl ⟨⟨_, _, by rw [Nat.zero_sub]⟩, by simp⟩
  · cases hx
    refine .inr ⟨b, off + k, cap', by rw [List.length_drop]; simp [Addr.add], hb, fun j hj => ?_⟩
    rw [List.length_drop] at hj
    rw [Nat.add_assoc, hc (k + j) (by omega), List.getElem?_drop]
end Go.Proofs.Ytalhaceclfeohaa
