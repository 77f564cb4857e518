/- Which words are a dictionary: the program's Right, the document's Right and place. -/
import Derived.Test.YthoegicchjadaaaDoorDLeaf
import Derived.Laws.Cover1
namespace Go.Proofs.YthoegicchjadaaaDoor
open Go.RowKit

def ChnTo (l : List (List UInt8)) (k : Nat) : Prop := ∀ j, j < k → (l[j]?.getD []).length ≤ 100 ∧ (0 < j → l[j - 1]?.getD [] < l[j]?.getD [])
theorem ChnTo.zero (l : List (List UInt8)) : ChnTo l 0 := fun j hj => absurd hj (Nat.not_lt_zero _)
theorem ChnTo.next {l : List (List UInt8)} {k : Nat} (h : ChnTo l k) (h1 : (l[k]?.getD []).length ≤ 100) (h2 : 0 < k → l[k - 1]?.getD [] < l[k]?.getD []) : ChnTo l (k + 1) := fun j hj => by
  by_cases e : j = k
  · subst e; exact ⟨h1, h2⟩
  · exact h j (by omega)
theorem right_long {l : List (List UInt8)} {k : Nat} (hk : k < l.length) (h : 100 < (l[k]?.getD []).length) : decide (RightL l) = false := by
  rw [decide_eq_false_iff_not]
  exact fun hr => by have := (hr.2 k hk).1; omega
theorem right_fall {l : List (List UInt8)} {k : Nat} (hk : k < l.length) (h0 : 0 < k) (h : ¬ l[k - 1]?.getD [] < l[k]?.getD []) : decide (RightL l) = false := by
  rw [decide_eq_false_iff_not]
  exact fun hr => h ((hr.2 k hk).2 h0)
theorem right_many {l : List (List UInt8)} (h : 1000 < l.length) : decide (RightL l) = false := by
  rw [decide_eq_false_iff_not]
  exact fun hr => by have := hr.1; omega
theorem right_yes {l : List (List UInt8)} (h : l.length ≤ 1000) (hc : ChnTo l l.length) : decide (RightL l) = true := by
  rw [decide_eq_true_iff]
  exact ⟨h, hc⟩
theorem right_chn {l : List (List UInt8)} (hc : ChnTo l l.length) : decide (RightL l) = decide ((l.length : Int) ≤ 1000) := by
  have : RightL l ↔ (l.length : Int) ≤ 1000 := ⟨fun h => by have := h.1; omega, fun h => ⟨by omega, hc⟩⟩
  simp [this]

set_option maxRecDepth 100000 in
set_option maxHeartbeats 4000000 in
theorem right_any (x : Option Addr) (len cap : Nat) (ls : List (List UInt8)) (hlen : ls.length = len) (hcm : len ≤ 9223372036854775807) (w : World) (hI : Strs w.heap.size w (.slice x len cap) ls) :
    Calls Tryd.prog 14 #[.slice x len cap] w fun e w' => e = .returned (.bool (decide (RightL ls))) ∧ w' = w := by
  have HL := Lib.hid hlen; have HI := Lib.hid hI
  by_cases hm : 1000 < len
  · have HR := Lib.hid (right_many (l := ls) (by rw [hlen]; exact hm))
    have hm' : (1000 : Int) < len := by omega
    clear hlen hI
    go_enter Tryd.func14, Tryd.ntmps14
    go_wp2
    go_ret
    exact ⟨ret_bool HR.out.symm, rfl⟩
  · have hm' : (len : Int) ≤ 1000 := by omega
    have hm2 : ¬ (1000 : Int) < len := by omega
    clear hlen hI
    go_enter Tryd.func14, Tryd.ntmps14
    go_wp2
    go_loopw [10] (fun i wr => ∃ k : Nat, k ≤ len ∧ i = .int .i64 k ∧ wr = w ∧ Hid (ChnTo ls k)) (fun i _ => len - (intOf i).toNat)
    case atStart => exact ⟨0, Nat.zero_le _, rfl, rfl, Lib.hid (ChnTo.zero ls)⟩
    case round =>
      obtain ⟨k, hk, rfl, rfl, HC⟩ := hrel
      by_cases hlt : k < len
      · obtain ⟨b, off, rfl, hb, hcell⟩ := HI.out.at_ hlt
        have hlt' : (k : Int) < len := by omega
        have hkl : k < ls.length := by rw [HL.out]; exact hlt
        by_cases hbig : 100 < (ls[k]?.getD []).length
        · have HR := Lib.hid (right_long hkl hbig)
          have hbig' : (100 : Int) < (ls[k]?.getD []).length := by omega
          generalize ls[k]?.getD [] = t at *
          go_wp2
          go_ret
          exact ⟨ret_bool HR.out.symm, rfl⟩
        · have hbig' : ((ls[k]?.getD []).length : Int) ≤ 100 := by omega
          by_cases h0 : k = 0
          · subst h0
            rw [Nat.add_zero] at hcell
            have HN := Lib.hid (HC.out.next (by omega) (fun h => absurd h (by omega)))
            generalize ls[0]?.getD [] = t at *
            have hbig2 : ¬ (100 : Int) < (t.length : Int) := by omega
            go_wp2
            go_roundw
            case rel => exact ⟨1, by omega, by simp, trivial, HN⟩
            case measure => simp [intOf]; omega
          · obtain ⟨b', off', e', _, hcell1⟩ := HI.out.at_ (j := k - 1) (by omega)
            cases e'
            have hp : ((k - 1 : Nat) : Int) = (k : Int) - 1 := by omega
            have h0' : (0 : Int) < k := by omega
            have hk1 : (k : Int) - 1 < len := by omega
            have hk2 : 0 ≤ (k : Int) - 1 := by omega
            have hkn : ((k : Int) - 1).toNat = k - 1 := by omega
            by_cases hf : ls[k - 1]?.getD [] < ls[k]?.getD []
            · have HN := Lib.hid (HC.out.next (by omega) (fun _ => hf))
              have hless : Op.bytesLess (ls[k - 1]?.getD []) (ls[k]?.getD []) = true := by rw [bytesLess_eq]; simpa using hf
              clear hf
              generalize ls[k]?.getD [] = t at *
              generalize ls[k - 1]?.getD [] = u at *
              have hbig2 : ¬ (100 : Int) < (t.length : Int) := by omega
              clear HC
              go_wp2
              go_roundw
              case rel => exact ⟨k + 1, by omega, by simp, trivial, HN⟩
              case measure => simp [intOf]; omega
            · have HR := Lib.hid (right_fall hkl (by omega) hf)
              have hless : Op.bytesLess (ls[k - 1]?.getD []) (ls[k]?.getD []) = false := by rw [bytesLess_eq]; simpa using hf
              clear hf
              generalize ls[k]?.getD [] = t at *
              generalize ls[k - 1]?.getD [] = u at *
              have hbig2 : ¬ (100 : Int) < (t.length : Int) := by omega
              clear HC
              go_wp2
              go_ret
              exact ⟨ret_bool HR.out.symm, rfl⟩
      · obtain rfl : k = len := by omega
        have HR := Lib.hid (right_yes (l := ls) (by rw [HL.out]; omega) (by rw [HL.out]; exact HC.out))
        have hge : ¬ (k : Int) < k := by omega
        clear hlt
        go_wp2
        go_ret
        exact ⟨ret_bool HR.out.symm, rfl⟩

set_option maxRecDepth 100000 in
set_option maxHeartbeats 4000000 in
/-- The document's place: how many words at the head stand ahead of one. -/
theorem rplace_any (x : Option Addr) (len cap : Nat) (ls : List (List UInt8)) (t : List UInt8) (hlen : ls.length = len) (hcm : len ≤ 9223372036854775807) (hs : ∀ j : Nat, (ls[j]?.getD []).length ≤ 9223372036854775807) (ht : t.length ≤ 9223372036854775807) (w : World) (hI : Strs w.heap.size w (.slice x len cap) ls) :
    Calls Tryd.prog 31 #[.slice x len cap, .string ⟨t.toArray⟩] w fun e w' => e = .returned (.int .i64 (placeL ls t : Nat)) ∧ ∃ q, w' = w.drewN q := by
  have HL := Lib.hid hlen; have HI := Lib.hid hI; have HS := Lib.hid hs
  clear hlen hI hs
  go_enter Tryd.func31, Tryd.ntmps31
  go_wp2
  go_loopw [5] (fun i wr => ∃ k q : Nat, k ≤ len ∧ i = .int .i64 k ∧ wr = w.drewN q ∧ Hid (∀ j, j < k → notBelow t (ls[j]?.getD []) = false)) (fun i _ => len - (intOf i).toNat)
  case atStart => exact ⟨0, 0, Nat.zero_le _, rfl, rfl, Lib.hid (fun j hj => absurd hj (Nat.not_lt_zero _))⟩
  case round =>
    obtain ⟨k, q, hk, rfl, rfl, HH⟩ := hrel
    by_cases hlt : k < len
    · obtain ⟨b, off, rfl, hb, hcell⟩ := HI.out.at_ hlt
      have hcell' : (w.drewN q).cell? ⟨b, off + k, none⟩ = some (.string ⟨(ls[k]?.getD []).toArray⟩) := hcell
      have hsk := HS.out k
      have hlt' : (k : Int) < len := by omega
      by_cases hf : ls[k]?.getD [] < t
      · have HN : Hid (∀ j, j < k + 1 → notBelow t (ls[j]?.getD []) = false) := Lib.hid (fun j hj => by
          by_cases e : j = k
          · subst e; simpa [notBelow] using hf
          · exact HH.out j (by omega))
        have HA := Lib.hid (fun W => wahead_any (ls[k]?.getD []) t hsk ht W)
        have hd : decide (ls[k]?.getD [] < t) = true := by simpa using hf
        rw [hd] at HA
        clear hd hf hcell
        generalize ls[k]?.getD [] = u at *
        go_wp2_with (go_at_call 28; refine (HA.out _).mono ?_; rintro e w' ⟨rfl, q2, rfl⟩)
        go_roundw
        case rel => exact ⟨k + 1, q + q2, by omega, by simp, rfl, HN⟩
        case measure => simp [intOf]; omega
      · have HP : Hid (placeL ls t = k) := Lib.hid (firstAt_eq (by rw [HL.out]; omega) HH.out (fun _ => by simpa [notBelow] using hf))
        have HA := Lib.hid (fun W => wahead_any (ls[k]?.getD []) t hsk ht W)
        have hd : decide (ls[k]?.getD [] < t) = false := by simpa using hf
        rw [hd] at HA
        clear hd hf hcell
        generalize ls[k]?.getD [] = u at *
        go_wp2_with (go_at_call 28; refine (HA.out _).mono ?_; rintro e w' ⟨rfl, q2, rfl⟩)
        go_ret
        exact ⟨ret_k HP.out, _, rfl⟩
    · obtain rfl : k = len := by omega
      have HP : Hid (placeL ls t = k) := Lib.hid (firstAt_eq (by rw [HL.out]; omega) HH.out (fun h => absurd h (by rw [HL.out]; omega)))
      have hge : ¬ (k : Int) < k := by omega
      clear hlt
      go_wp2
      go_ret
      exact ⟨ret_k HP.out, _, rfl⟩

set_option maxRecDepth 100000 in
set_option maxHeartbeats 4000000 in
theorem rright_any (x : Option Addr) (len cap : Nat) (ls : List (List UInt8)) (hlen : ls.length = len) (hcm : len ≤ 9223372036854775807) (hs : ∀ j : Nat, (ls[j]?.getD []).length ≤ 9223372036854775807) (w : World) (hI : Strs w.heap.size w (.slice x len cap) ls) :
    Calls Tryd.prog 15 #[.slice x len cap] w fun e w' => e = .returned (.bool (decide (RightL ls))) ∧ ∃ q, w' = w.drewN q := by
  have HL := Lib.hid hlen; have HI := Lib.hid hI; have HS := Lib.hid hs
  clear hlen hI hs
  go_enter Tryd.func15, Tryd.ntmps15
  go_wp2
  go_loopw [3] (fun i wr => ∃ k q : Nat, k ≤ len ∧ i = .int .i64 k ∧ Hid (wr = w.drewN q) ∧ Hid (ChnTo ls k)) (fun i _ => len - (intOf i).toNat)
  case atStart => exact ⟨0, 0, Nat.zero_le _, rfl, Lib.hid rfl, Lib.hid (ChnTo.zero ls)⟩
  case round =>
    obtain ⟨k, q, hk, rfl, HW, HC⟩ := hrel
    by_cases hlt : k < len
    · obtain ⟨b, off, rfl, hb, hcell⟩ := HI.out.at_ hlt
      have hcell' : ∀ m, (wr.drewN m).cell? ⟨b, off + k, none⟩ = some (.string ⟨(ls[k]?.getD []).toArray⟩) := fun _ => by rw [HW.out]; exact hcell
      have hlt' : (k : Int) < len := by omega
      have hkl : k < ls.length := by rw [HL.out]; exact hlt
      have hsk := HS.out k
      by_cases hbig : 100 < (ls[k]?.getD []).length
      · have HR := Lib.hid (right_long hkl hbig)
        clear hcell
        generalize ls[k]?.getD [] = t at *
        have hbig' : (100 : Int) < (t.length : Int) := by omega
        go_wp2
        go_quiet (fail)
        go_wp2
        go_ret
        exact ⟨ret_bool HR.out.symm, q + nq, by rw [HW.out, World.drewN_drewN]⟩
      · by_cases h0 : k = 0
        · subst h0
          rw [Nat.add_zero] at hcell hcell'
          have HN := Lib.hid (HC.out.next (by omega) (fun h => absurd h (by omega)))
          clear hcell
          generalize ls[0]?.getD [] = t at *
          have hbig2 : ¬ (100 : Int) < (t.length : Int) := by omega
          have hbig3 : decide ((100 : Int) < (t.length : Int)) = false := by simp; omega
          have hbig4 : decide (100 < t.length) = false := by simp; omega
          go_wp2
          go_quiet (fail)
          go_wp2
          go_roundw
          case rel => exact ⟨1, q + nq, by omega, by simp, Lib.hid (by rw [HW.out, World.drewN_drewN]), HN⟩
          case measure => simp [intOf]; omega
        · obtain ⟨b', off', e', _, hcell1⟩ := HI.out.at_ (j := k - 1) (by omega)
          cases e'
          have hcell1' : ∀ m, (wr.drewN m).cell? ⟨b, off + (k - 1), none⟩ = some (.string ⟨(ls[k - 1]?.getD []).toArray⟩) := fun _ => by rw [HW.out]; exact hcell1
          have hsk1 := HS.out (k - 1)
          have hp : ((k - 1 : Nat) : Int) = (k : Int) - 1 := by omega
          have h0' : (0 : Int) < k := by omega
          have h0n : 0 < k := by omega
          have hk1 : (k : Int) - 1 < len := by omega
          have hk2 : 0 ≤ (k : Int) - 1 := by omega
          have hkn : ((k : Int) - 1).toNat = k - 1 := by omega
          by_cases hf : ls[k - 1]?.getD [] < ls[k]?.getD []
          · have HN := Lib.hid (HC.out.next (by omega) (fun _ => hf))
            have HA := Lib.hid (fun W => wahead_any (ls[k - 1]?.getD []) (ls[k]?.getD []) hsk1 hsk W)
            have hd : decide (ls[k - 1]?.getD [] < ls[k]?.getD []) = true := by simpa using hf
            rw [hd] at HA
            clear hf hd hcell hcell1
            generalize ls[k]?.getD [] = t at *
            generalize ls[k - 1]?.getD [] = u at *
            have hbig2 : ¬ (100 : Int) < (t.length : Int) := by omega
            have hbig3 : decide ((100 : Int) < (t.length : Int)) = false := by simp; omega
            have hbig4 : decide (100 < t.length) = false := by simp; omega
            clear HC
            go_wp2
            go_quiet ((go_at_call 28; exact Calls.quiet_of (HA.out _)))
            go_wp2
            go_roundw
            case rel => exact ⟨k + 1, q + nq, by omega, by simp, Lib.hid (by rw [HW.out, World.drewN_drewN]), HN⟩
            case measure => simp [intOf]; omega
          · have HR := Lib.hid (right_fall hkl (by omega) hf)
            have HA := Lib.hid (fun W => wahead_any (ls[k - 1]?.getD []) (ls[k]?.getD []) hsk1 hsk W)
            have hd : decide (ls[k - 1]?.getD [] < ls[k]?.getD []) = false := by simpa using hf
            rw [hd] at HA
            clear hf hd hcell hcell1
            generalize ls[k]?.getD [] = t at *
            generalize ls[k - 1]?.getD [] = u at *
            have hbig2 : ¬ (100 : Int) < (t.length : Int) := by omega
            have hbig3 : decide ((100 : Int) < (t.length : Int)) = false := by simp; omega
            have hbig4 : decide (100 < t.length) = false := by simp; omega
            clear HC
            go_wp2
            go_quiet ((go_at_call 28; exact Calls.quiet_of (HA.out _)))
            go_wp2
            go_ret
            exact ⟨ret_bool HR.out.symm, q + nq, by rw [HW.out, World.drewN_drewN]⟩
    · obtain rfl : k = len := by omega
      have HR := Lib.hid (right_chn (l := ls) (by rw [HL.out]; exact HC.out))
      have hl2 := HL.out
      have hge : ¬ (k : Int) < k := by omega
      clear hlt
      go_wp2
      go_ret
      exact ⟨ret_bool (by rw [HR.out, hl2]), q, HW.out⟩
end Go.Proofs.YthoegicchjadaaaDoor
