/- Find, Prefix, Between. -/
import Derived.Test.YthoegicchjadaaaDoorDFind
namespace Go.Proofs.YthoegicchjadaaaDoor
open Go.RowKit Go.Sort

/-- Is the word found? -/
def findB (l : List (List UInt8)) (w : List UInt8) : Bool := decide (stA l w < stB (other w) l w)
theorem findB_eq (l : List (List UInt8)) (w : List UInt8) : findB l w = decide (RightL l ∧ placeL l w < l.length ∧ l[placeL l w]?.getD [] = w) := by
  unfold findB
  apply dec_iff
  by_cases hr : RightL l
  · rw [stA_yes hr, stB_yes hr]
    have hpl := placeL_le l w
    constructor
    · intro h
      have h1 : 0 < firstAt (other w) (l.drop (placeL l w)) := by omega
      have h2 := firstAt_lt h1
      have h3 := firstAt_le (other w) (l.drop (placeL l w))
      rw [List.length_drop] at h3
      rw [drop_at, Nat.add_zero] at h2
      exact ⟨hr, by omega, by simpa [other] using h2⟩
    · rintro ⟨_, h1, h2⟩
      have : firstAt (other w) (l.drop (placeL l w)) ≠ 0 := fun e => by
        have := firstAt_at (q := other w) (l := l.drop (placeL l w)) (by rw [List.length_drop]; omega)
        rw [e, drop_at, Nat.add_zero, h2] at this
        simp [other] at this
      omega
  · rw [stA_no hr, stB_no hr]
    simp [hr]

set_option maxRecDepth 100000 in
set_option maxHeartbeats 2000000 in
theorem find1_any (B : Nat) (wd t : List UInt8) (w : World) (hB : w.cell? ⟨B, 0, .none⟩ = some (.string ⟨wd.toArray⟩)) : Calls Tryd.prog 33 #[.string ⟨t.toArray⟩, .pointer (some ⟨B, 0, .none⟩)] w fun e w' => e = .returned (.bool (other wd t)) ∧ w' = w := by
  by_cases h : t = wd
  · have he : (t == wd) = true := by simpa using h
    have HE : Hid (false = other wd t) := Lib.hid (by simp [other, h])
    clear h
    go_enter Tryd.func33, Tryd.ntmps33
    go_wp2
    go_ret
    exact ⟨ret_bool HE.out, rfl⟩
  · have he : (t == wd) = false := by simpa using h
    have HE : Hid (true = other wd t) := Lib.hid (by simp [other, h])
    clear h
    go_enter Tryd.func33, Tryd.ntmps33
    go_wp2
    go_ret
    exact ⟨ret_bool HE.out, rfl⟩

set_option maxRecDepth 100000 in
set_option maxHeartbeats 2000000 in
theorem prefix1_any (B : Nat) (wd t : List UInt8) (w : World) (hB : w.cell? ⟨B, 0, .none⟩ = some (.string ⟨wd.toArray⟩)) : Calls Tryd.prog 34 #[.string ⟨t.toArray⟩, .pointer (some ⟨B, 0, .none⟩)] w fun e w' => e = .returned (.bool (parts wd t)) ∧ w' = w := by
  have HP := Lib.hid (prefix_str ⟨t.toArray⟩ ⟨wd.toArray⟩ w)
  have hb : Lib.hasPrefix (ByteArray.mk t.toArray).data.toList (ByteArray.mk wd.toArray).data.toList = begins wd t := by
    unfold Lib.hasPrefix begins
    simp only [List.toList_toArray]
    rw [Bool.eq_iff_iff, List.isPrefixOf_iff_prefix, decide_eq_true_iff]
  rw [hb] at HP
  have HE : Hid ((!begins wd t) = parts wd t) := Lib.hid rfl
  clear hb
  generalize begins wd t = d at *
  go_enter Tryd.func34, Tryd.ntmps34
  go_wp2_with (go_at_call 35; refine HP.out.mono ?_; rintro e w' ⟨rfl, rfl⟩)
  go_ret
  exact ⟨ret_bool HE.out, rfl⟩

set_option maxRecDepth 100000 in
set_option maxHeartbeats 2000000 in
theorem between1_any (B : Nat) (wd t : List UInt8) (w : World) (hB : w.cell? ⟨B, 0, .none⟩ = some (.string ⟨wd.toArray⟩)) : Calls Tryd.prog 36 #[.string ⟨t.toArray⟩, .pointer (some ⟨B, 0, .none⟩)] w fun e w' => e = .returned (.bool (behind wd t)) ∧ w' = w := by
  have HE : Hid ((!(Op.bytesLess t wd || t == wd)) = behind wd t) := Lib.hid (by
    rw [bytesLess_eq]
    unfold behind
    by_cases h1 : t < wd
    · simp [h1, w_asymm h1]
    · by_cases h2 : t = wd
      · subst h2; simp [w_irrefl]
      · have h3 : wd < t := by
          by_cases h : wd < t
          · exact h
          · exact absurd (w_eq h1 h) h2
        simp [h1, h2, h3])
  have HE2 := HE.out
  simp only [Bool.not_or] at HE2
  have HE3 := Lib.hid HE2
  clear HE2
  generalize behind wd t = d at *
  go_enter Tryd.func36, Tryd.ntmps36
  go_wp2
  go_ret
  exact ⟨ret_bool HE3.out, rfl⟩
section
variable (x : Option Addr) (len cap : Nat) (ls : List (List UInt8)) (wd : List UInt8) (hlen : ls.length = len) (hlc : len ≤ cap) (hcm : cap ≤ 9223372036854775807) (w : World) (hI : Strs w.heap.size w (.slice x len cap) ls)
include hlen hlc hcm hI

set_option maxRecDepth 100000 in
set_option maxHeartbeats 4000000 in
theorem find_any : Calls Tryd.prog 17 #[.slice x len cap, .string ⟨wd.toArray⟩] w fun e w' => e = .returned (.tuple #[.int .i64 (stA ls wd : Nat), .bool (findB ls wd)]) ∧ Below w.heap.size w w' := by
  have hb0 := (Below.refl w.heap.size w).alloc (Nat.le_refl _) (.cells #[.string ⟨wd.toArray⟩] 9)
  have bB := Blk.new w 9 #[.string ⟨wd.toArray⟩]
  have HS := Lib.hid (stretch_any (other wd) 33 #[.pointer (some ⟨w.heap.size, 0, .none⟩)] (enters_of Tryd.func33 (by kernel_rfl) rfl) x len cap ls wd hlen hlc hcm _ ((hI.below hb0).mono (by simp)) (fun hr => other_mono (right_asc hr) wd) (fun u W hb => find1_any _ wd u W ((bB.under hb).cell 0)))
  have HF : Hid (decide ((stA ls wd : Int) < (stB (other wd) ls wd : Nat)) = findB ls wd) := Lib.hid (by unfold findB; exact dec_iff (by omega))
  have HF2 : Hid (decide (stA ls wd < stB (other wd) ls wd) = findB ls wd) := Lib.hid rfl
  clear bB hI hlen
  generalize stA ls wd = f at *
  generalize stB (other wd) ls wd = g at *
  go_enter Tryd.func17, Tryd.ntmps17
  go_wp2_with fail
  refine HS.out.mono ?_
  rintro e w1 ⟨rfl, hb1⟩
  go_wp2
  go_ret2
  exact ⟨by rw [← HF2.out]; rfl, hb0.trans (hb1.mono hb0.size)⟩

set_option maxRecDepth 100000 in
set_option maxHeartbeats 4000000 in
theorem prefix_any : Calls Tryd.prog 19 #[.slice x len cap, .string ⟨wd.toArray⟩] w fun e w' => e = .returned (.tuple #[.int .i64 (stA ls wd : Nat), .int .i64 (stB (parts wd) ls wd : Nat)]) ∧ Below w.heap.size w w' := by
  have hb0 := (Below.refl w.heap.size w).alloc (Nat.le_refl _) (.cells #[.string ⟨wd.toArray⟩] 9)
  have bB := Blk.new w 9 #[.string ⟨wd.toArray⟩]
  have HS := Lib.hid (stretch_any (parts wd) 34 #[.pointer (some ⟨w.heap.size, 0, .none⟩)] (enters_of Tryd.func34 (by kernel_rfl) rfl) x len cap ls wd hlen hlc hcm _ ((hI.below hb0).mono (by simp)) (fun hr => parts_mono (right_asc hr) wd) (fun u W hb => prefix1_any _ wd u W ((bB.under hb).cell 0)))
  clear bB hI hlen
  generalize stA ls wd = f at *
  generalize stB (parts wd) ls wd = g at *
  go_enter Tryd.func19, Tryd.ntmps19
  go_wp2_with fail
  refine HS.out.mono ?_
  rintro e w1 ⟨rfl, hb1⟩
  go_wp2
  go_ret2
  exact ⟨rfl, hb0.trans (hb1.mono hb0.size)⟩

set_option maxRecDepth 100000 in
set_option maxHeartbeats 4000000 in
theorem between_any (to : List UInt8) : Calls Tryd.prog 21 #[.slice x len cap, .string ⟨wd.toArray⟩, .string ⟨to.toArray⟩] w fun e w' => e = .returned (.tuple #[.int .i64 (stA ls wd : Nat), .int .i64 (stB (behind to) ls wd : Nat)]) ∧ Below w.heap.size w w' := by
  have hb0 := (Below.refl w.heap.size w).alloc (Nat.le_refl _) (.cells #[.string ⟨to.toArray⟩] 9)
  have bB := Blk.new w 9 #[.string ⟨to.toArray⟩]
  have HS := Lib.hid (stretch_any (behind to) 36 #[.pointer (some ⟨w.heap.size, 0, .none⟩)] (enters_of Tryd.func36 (by kernel_rfl) rfl) x len cap ls wd hlen hlc hcm _ ((hI.below hb0).mono (by simp)) (fun hr => behind_mono (right_asc hr) wd to) (fun u W hb => between1_any _ to u W ((bB.under hb).cell 0)))
  clear bB hI hlen
  generalize stA ls wd = f at *
  generalize stB (behind to) ls wd = g at *
  go_enter Tryd.func21, Tryd.ntmps21
  go_wp2_with fail
  refine HS.out.mono ?_
  rintro e w1 ⟨rfl, hb1⟩
  go_wp2
  go_ret2
  exact ⟨rfl, hb0.trans (hb1.mono hb0.size)⟩
end
end Go.Proofs.YthoegicchjadaaaDoor
