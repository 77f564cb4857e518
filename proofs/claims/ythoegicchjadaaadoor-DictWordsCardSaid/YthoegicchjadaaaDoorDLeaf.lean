/- Two words: the document's Ahead and shared; the program's shared. -/
import Derived.Test.YthoegicchjadaaaDoorDCode
import Derived.Test.YthoegicchjadaaaDoorTStr
import Derived.Test.YthoegicchjadaaaDoorVIter
import Derived.BigQuiet
import Derived.Deep.QuietTactic
import Derived.Sort.Walk0
namespace Go.Proofs.YthoegicchjadaaaDoor
open Go.RowKit

theorem lt_at : ∀ {a b : List UInt8} {k : Nat}, (∀ j, j < k → byteAt a j = byteAt b j) → k < a.length → k < b.length → byteAt a k ≠ byteAt b k → (a < b ↔ byteAt a k < byteAt b k)
  | [], _, _, _, h, _, _ => by simp at h
  | _ :: _, [], _, _, _, h, _ => by simp at h
  | x :: a, y :: b, 0, _, _, _, hne => by
    have hne' : x ≠ y := fun e => hne (by rw [e]; rfl)
    rw [List.cons_lt_cons_iff]
    show x < y ∨ x = y ∧ a < b ↔ x.toNat < y.toNat
    rw [UInt8.lt_iff_toNat_lt]
    exact ⟨fun h => h.elim id (fun h => absurd h.1 hne'), .inl⟩
  | x :: a, y :: b, k + 1, h, ha, hb, hne => by
    have e : x = y := UInt8.toNat_inj.1 (h 0 (by omega))
    subst e
    rw [List.cons_lt_cons_iff]
    have := lt_at (a := a) (b := b) (k := k) (fun j hj => h (j + 1) (by omega)) (by simpa using ha) (by simpa using hb) hne
    show x < x ∨ x = x ∧ a < b ↔ _
    rw [this]
    exact ⟨fun h => h.elim (fun h => absurd h (UInt8.lt_irrefl x)) (fun h => h.2), fun h => .inr ⟨rfl, h⟩⟩
theorem lt_end : ∀ {a b : List UInt8} {k : Nat}, (∀ j, j < k → byteAt a j = byteAt b j) → k ≤ a.length → k ≤ b.length → (k = a.length ∨ k = b.length) → (a < b ↔ a.length < b.length)
  | [], [], _, _, _, _, _ => by simp
  | [], y :: b, _, _, _, _, _ => by simp
  | x :: a, [], _, _, _, _, _ => by simp
  | x :: a, y :: b, 0, _, _, _, h => by simp at h
  | x :: a, y :: b, k + 1, h, ha, hb, he => by
    have e : x = y := UInt8.toNat_inj.1 (h 0 (by omega))
    subst e
    rw [List.cons_lt_cons_iff]
    have := lt_end (a := a) (b := b) (k := k) (fun j hj => h (j + 1) (by omega)) (by simpa using ha) (by simpa using hb) (by simpa using he)
    rw [this]
    simp only [List.length_cons, Nat.add_lt_add_iff_right]
    exact ⟨fun h => h.elim (fun h => absurd h (UInt8.lt_irrefl x)) (fun h => h.2), fun h => .inr ⟨trivial, h⟩⟩
theorem shared_at {a b : List UInt8} {k : Nat} (h : ∀ j, j < k → byteAt a j = byteAt b j) (ha : k ≤ a.length) (hb : k ≤ b.length) (he : k < a.length → k < b.length → byteAt a k ≠ byteAt b k) : sharedL a b = k :=
  shared_eq ha hb (fun j hj => UInt8.toNat_inj.1 (h j hj)) (fun h1 h2 e => he h1 h2 (by unfold byteAt; rw [e]))
theorem ret_bool {a b : Bool} (h : a = b) : Ending.returned (.bool a) = .returned (.bool b) := by rw [h]
theorem ret_k {a b : Nat} (h : a = b) : Ending.returned (.int .i64 (b : Nat)) = .returned (.int .i64 (a : Nat)) := by rw [h]
theorem next_same {a b : List UInt8} {k : Nat} (h : ∀ j, j < k → byteAt a j = byteAt b j) (he : byteAt a k = byteAt b k) : ∀ j, j < k + 1 → byteAt a j = byteAt b j := fun j hj => by
  by_cases e : j = k
  · subst e; exact he
  · exact h j (by omega)
theorem dec_iff {p q : Prop} [Decidable p] [Decidable q] (h : p ↔ q) : decide p = decide q := by simp [h]

set_option maxRecDepth 100000 in
set_option maxHeartbeats 2000000 in
theorem wahead_any (a b : List UInt8) (ha : a.length ≤ 9223372036854775807) (hb : b.length ≤ 9223372036854775807) (w : World) : Calls Tryd.prog 28 #[.string ⟨a.toArray⟩, .string ⟨b.toArray⟩] w fun e w' => e = .returned (.bool (decide (a < b))) ∧ ∃ q, w' = w.drewN q := by
  go_enter Tryd.func28, Tryd.ntmps28
  go_wp2
  go_loopw [5] (fun i wr => ∃ k q : Nat, k ≤ a.length ∧ k ≤ b.length ∧ i = .int .i64 k ∧ wr = w.drewN q ∧ Hid (∀ j, j < k → byteAt a j = byteAt b j)) (fun i _ => a.length - (intOf i).toNat)
  case atStart => exact ⟨0, 0, Nat.zero_le _, Nat.zero_le _, rfl, rfl, Lib.hid (fun j hj => absurd hj (Nat.not_lt_zero _))⟩
  case round =>
    obtain ⟨k, q, hka, hkb, rfl, rfl, HH⟩ := hrel
    by_cases hlt : k < a.length ∧ k < b.length
    · obtain ⟨h1, h2⟩ := hlt
      have h1' : (k : Int) < a.length := by omega
      have h2' : (k : Int) < b.length := by omega
      have ga := byte_get a k h1
      have gb := byte_get b k h2
      have la := byteAt_lt a k
      have lb := byteAt_lt b k
      by_cases he : byteAt a k = byteAt b k
      · have HN := Lib.hid (next_same HH.out he)
        rw [he] at ga la
        generalize byteAt b k = y at *
        clear he
        go_wp2
        go_quiet (fail)
        go_wp2
        go_roundw
        case rel => exact ⟨k + 1, q + nq, by omega, by omega, by simp, rfl, HN⟩
        case measure => simp [intOf]; omega
      · have HL := Lib.hid (lt_at HH.out h1 h2 he)
        generalize byteAt a k = x at *
        generalize byteAt b k = y at *
        have hne : ((x : Int) == (y : Int)) = false := by simpa using fun e => he (by omega)
        have HX : Hid (decide (x < y) = decide ((x : Int) < (y : Int))) := Lib.hid (dec_iff (by omega))
        go_wp2
        go_quiet (fail)
        go_wp2
        go_quiet (fail)
        go_wp2
        go_ret
        refine ⟨ret_bool ?_, _, (World.drewN_drewN ..).trans (World.drewN_drewN ..)⟩
        rw [dec_iff HL.out, HX.out]
    · have HL : Hid (decide (a < b) = decide (a.length < b.length)) := Lib.hid (dec_iff (lt_end HH.out hka hkb (by omega)))
      by_cases h1 : k < a.length
      · have h1' : (k : Int) < a.length := by omega
        have h2' : ¬ (k : Int) < b.length := by omega
        go_wp2
        go_ret
        exact ⟨ret_bool HL.out.symm, q, rfl⟩
      · have h1' : ¬ (k : Int) < a.length := by omega
        go_wp2
        go_ret
        exact ⟨ret_bool HL.out.symm, q, rfl⟩

set_option maxRecDepth 100000 in
set_option maxHeartbeats 2000000 in
theorem wshared_any (a b : List UInt8) (ha : a.length ≤ 9223372036854775807) (hb : b.length ≤ 9223372036854775807) (w : World) : Calls Tryd.prog 53 #[.string ⟨a.toArray⟩, .string ⟨b.toArray⟩] w fun e w' => e = .returned (.int .i64 (sharedL a b : Nat)) ∧ ∃ q, w' = w.drewN q := by
  obtain ⟨m, hm⟩ : ∃ m : Nat, m = min a.length b.length := ⟨_, rfl⟩
  have hm1 : min (a.length : Int) (b.length : Int) = (m : Int) := by omega
  have HM : Hid (m ≤ a.length ∧ m ≤ b.length ∧ (m = a.length ∨ m = b.length)) := Lib.hid (by omega)
  clear hm
  go_enter Tryd.func53, Tryd.ntmps53
  go_wp2
  go_loopw [5] (fun i wr => ∃ k q : Nat, k ≤ m ∧ i = .int .i64 k ∧ wr = w.drewN q ∧ Hid (∀ j, j < k → byteAt a j = byteAt b j)) (fun i _ => m - (intOf i).toNat)
  case atStart => exact ⟨0, 0, Nat.zero_le _, rfl, rfl, Lib.hid (fun j hj => absurd hj (Nat.not_lt_zero _))⟩
  case round =>
    obtain ⟨k, q, hk, rfl, rfl, HH⟩ := hrel
    have hma := HM.out.1
    have hmb := HM.out.2.1
    by_cases h1 : k < m
    · have h1' : (k : Int) < m := by omega
      have ga := byte_get a k (by omega)
      have gb := byte_get b k (by omega)
      have ka : (k : Int) < a.length := by omega
      have kb : (k : Int) < b.length := by omega
      by_cases he : byteAt a k = byteAt b k
      · have HN := Lib.hid (next_same HH.out he)
        rw [he] at ga
        generalize byteAt b k = y at *
        clear he
        go_wp2
        go_quiet (fail)
        go_wp2
        go_roundw
        case rel => exact ⟨k + 1, q + nq, by omega, by simp, rfl, HN⟩
        case measure => simp [intOf]; omega
      · have HL := Lib.hid (shared_at HH.out (by omega) (by omega) (fun _ _ => he))
        generalize byteAt a k = x at *
        generalize byteAt b k = y at *
        have hne : ((x : Int) == (y : Int)) = false := by simpa using fun e => he (by omega)
        go_wp2
        go_quiet (fail)
        go_wp2
        go_ret
        exact ⟨ret_k HL.out, _, World.drewN_drewN ..⟩
    · obtain rfl : k = m := by omega
      have HL := Lib.hid (shared_at HH.out hma hmb (fun h h' => absurd HM.out.2.2 (by omega)))
      have h1' : decide ((k : Int) < k) = false := by simp
      clear h1
      go_wp2
      go_quiet (fail)
      go_wp2
      go_ret
      exact ⟨ret_k HL.out, _, World.drewN_drewN ..⟩

set_option maxRecDepth 100000 in
set_option maxHeartbeats 2000000 in
theorem wref_shared_any (a b : List UInt8) (ha : a.length ≤ 9223372036854775807) (hb : b.length ≤ 9223372036854775807) (w : World) : Calls Tryd.prog 39 #[.string ⟨a.toArray⟩, .string ⟨b.toArray⟩] w fun e w' => e = .returned (.int .i64 (sharedL a b : Nat)) ∧ ∃ q, w' = w.drewN q := by
  go_enter Tryd.func39, Tryd.ntmps39
  go_wp2
  go_loopw [5] (fun i wr => ∃ k q : Nat, k ≤ a.length ∧ k ≤ b.length ∧ i = .int .i64 k ∧ wr = w.drewN q ∧ Hid (∀ j, j < k → byteAt a j = byteAt b j)) (fun i _ => a.length - (intOf i).toNat)
  case atStart => exact ⟨0, 0, Nat.zero_le _, Nat.zero_le _, rfl, rfl, Lib.hid (fun j hj => absurd hj (Nat.not_lt_zero _))⟩
  case round =>
    obtain ⟨k, q, hka, hkb, rfl, rfl, HH⟩ := hrel
    by_cases hlt : k < a.length ∧ k < b.length
    · obtain ⟨h1, h2⟩ := hlt
      have ga := byte_get a k h1
      have gb := byte_get b k h2
      have ka : (k : Int) < a.length := by omega
      have kb : (k : Int) < b.length := by omega
      by_cases he : byteAt a k = byteAt b k
      · have HN := Lib.hid (next_same HH.out he)
        rw [he] at ga
        generalize byteAt b k = y at *
        clear he
        go_wp2
        go_quiet (fail)
        go_wp2
        go_roundw
        case rel => exact ⟨k + 1, q + nq, by omega, by omega, by simp, rfl, HN⟩
        case measure => simp [intOf]; omega
      · have HL := Lib.hid (shared_at HH.out hka hkb (fun _ _ => he))
        generalize byteAt a k = x at *
        generalize byteAt b k = y at *
        have hne : ((x : Int) == (y : Int)) = false := by simpa using fun e => he (by omega)
        go_wp2
        go_quiet (fail)
        go_wp2
        go_ret
        exact ⟨ret_k HL.out, _, World.drewN_drewN ..⟩
    · have HL := Lib.hid (shared_at HH.out hka hkb (fun h h' => absurd ⟨h, h'⟩ hlt))
      by_cases h1 : k < a.length
      · have h1' : (k : Int) < a.length := by omega
        have h2' : ¬ k < b.length := by omega
        have h3 : decide ((k : Int) < b.length) = false := by simp; omega
        clear hlt
        go_wp2
        go_quiet (fail)
        go_wp2
        go_ret
        exact ⟨ret_k HL.out, _, World.drewN_drewN ..⟩
      · have h1' : decide ((k : Int) < a.length) = false := by simp; omega
        clear hlt
        go_wp2
        go_quiet (fail)
        go_wp2
        go_ret
        exact ⟨ret_k HL.out, _, World.drewN_drewN ..⟩
end Go.Proofs.YthoegicchjadaaaDoor
