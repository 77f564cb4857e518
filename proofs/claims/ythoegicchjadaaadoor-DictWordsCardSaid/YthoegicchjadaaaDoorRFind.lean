/- The document's Find, Prefix, Between. -/
import Derived.Test.YthoegicchjadaaaDoorDFind2
namespace Go.Proofs.YthoegicchjadaaaDoor
open Go.RowKit Go.Sort

theorem begins_iff {w t : List UInt8} : begins w t = true ↔ w.length ≤ t.length ∧ t.take w.length = w := by
  unfold begins
  rw [decide_eq_true_iff]
  constructor
  · intro h
    exact ⟨h.length_le, (List.prefix_iff_eq_take.1 h).symm⟩
  · rintro ⟨_, h⟩
    rw [List.prefix_iff_eq_take]
    exact h.symm
theorem first_drop {q : List UInt8 → Bool} {l : List (List UInt8)} {p k : Nat} (hp : p ≤ k) (hk : k ≤ l.length) (h : ∀ j, p ≤ j → j < k → q (l[j]?.getD []) = false) (he : k < l.length → q (l[k]?.getD []) = true) : p + firstAt q (l.drop p) = k := by
  have : firstAt q (l.drop p) = k - p := firstAt_eq (by rw [List.length_drop]; omega) (fun j hj => by rw [drop_at]; exact h _ (by omega) (by omega)) (fun hl => by
    rw [List.length_drop] at hl
    rw [drop_at, show p + (k - p) = k by omega]
    exact he (by omega))
  omega

section
variable (x : Option Addr) (len cap : Nat) (ls : List (List UInt8)) (wd : List UInt8) (hlen : ls.length = len) (hcm : len ≤ 9223372036854775807) (hs : ∀ j : Nat, (ls[j]?.getD []).length ≤ 9223372036854775807) (hw : wd.length ≤ 9223372036854775807) (w : World) (hI : Strs w.heap.size w (.slice x len cap) ls)
include hlen hcm hs hw hI

set_option maxRecDepth 100000 in
set_option maxHeartbeats 4000000 in
theorem rfind_any : Calls Tryd.prog 18 #[.slice x len cap, .string ⟨wd.toArray⟩] w fun e w' => e = .returned (.tuple #[.int .i64 (stA ls wd : Nat), .bool (findB ls wd)]) ∧ ∃ q, w' = w.drewN q := by
  have HR := Lib.hid (rright_any x len cap ls hlen hcm hs w hI)
  by_cases hr : RightL ls
  · have HP := Lib.hid (fun q => rplace_any x len cap ls wd hlen hcm hs hw (w.drewN q) hI)
    have HA := Lib.hid (stA_yes hr wd)
    have HF := Lib.hid (findB_eq ls wd)
    rw [decide_eq_true hr] at HR
    have hpl := placeL_le ls wd
    rw [hlen] at hpl
    by_cases hp : placeL ls wd < len
    · obtain ⟨b, off, rfl, hb, hc⟩ := hI.at_ hp
      by_cases he : ls[placeL ls wd]?.getD [] = wd
      · have HT : Hid (findB ls wd = true) := Lib.hid (by rw [HF.out]; exact decide_eq_true ⟨hr, by rw [hlen]; exact hp, he⟩)
        rw [he] at hc
        clear hI hs hlen he HF
        generalize placeL ls wd = p at *
        have hc' : ∀ m, (w.drewN m).cell? ⟨b, off + p, .none⟩ = some (.string ⟨wd.toArray⟩) := fun _ => hc
        have hp' : (p : Int) < len := by omega
        clear hr
        go_enter Tryd.func18, Tryd.ntmps18
        go_wp2_with fail
        refine HR.out.mono ?_
        rintro e w1 ⟨rfl, q1, rfl⟩
        go_wp2_with fail
        refine (HP.out _).mono ?_
        rintro e w2 ⟨rfl, q2, rfl⟩
        go_wp2
        go_quiet (fail)
        go_wp2
        go_ret2
        exact ⟨by rw [HA.out, HT.out]; rfl, _, World.drewN_drewN ..⟩
      · have HT : Hid (findB ls wd = false) := Lib.hid (by rw [HF.out]; simp [he])
        have hne : (ls[placeL ls wd]?.getD [] == wd) = false := by simpa using he
        clear hI hs hlen he HF
        generalize ls[placeL ls wd]?.getD [] = t at *
        generalize placeL ls wd = p at *
        have hc' : ∀ m, (w.drewN m).cell? ⟨b, off + p, .none⟩ = some (.string ⟨t.toArray⟩) := fun _ => hc
        have hp' : (p : Int) < len := by omega
        clear hr
        go_enter Tryd.func18, Tryd.ntmps18
        go_wp2_with fail
        refine HR.out.mono ?_
        rintro e w1 ⟨rfl, q1, rfl⟩
        go_wp2_with fail
        refine (HP.out _).mono ?_
        rintro e w2 ⟨rfl, q2, rfl⟩
        go_wp2
        go_quiet (fail)
        go_wp2
        go_ret2
        exact ⟨by rw [HA.out, HT.out]; rfl, _, World.drewN_drewN ..⟩
    · have HT : Hid (findB ls wd = false) := Lib.hid (by rw [HF.out]; simp [hlen, hp])
      clear hI hs hlen HF
      obtain ⟨p, hpd⟩ : ∃ p, placeL ls wd = p := ⟨_, rfl⟩
      rw [hpd] at HP HA hpl hp
      clear hpd
      obtain rfl : p = len := by omega
      have h1 : decide ((p : Int) < p) = false := by simp
      clear hr hp hpl
      go_enter Tryd.func18, Tryd.ntmps18
      go_wp2_with fail
      refine HR.out.mono ?_
      rintro e w1 ⟨rfl, q1, rfl⟩
      go_wp2_with fail
      refine (HP.out _).mono ?_
      rintro e w2 ⟨rfl, q2, rfl⟩
      go_wp2
      go_quiet (fail)
      go_wp2
      go_ret2
      exact ⟨by rw [HA.out, HT.out]; rfl, _, World.drewN_drewN ..⟩
  · have HA := Lib.hid (stA_no hr wd)
    have HT : Hid (findB ls wd = false) := Lib.hid (by rw [findB_eq]; simp [hr])
    rw [decide_eq_false hr] at HR
    clear hr hI hs
    go_enter Tryd.func18, Tryd.ntmps18
    go_wp2_with fail
    refine HR.out.mono ?_
    rintro e w1 ⟨rfl, q1, rfl⟩
    go_wp2
    go_ret2
    exact ⟨by rw [HA.out, HT.out]; rfl, _, rfl⟩

set_option maxRecDepth 100000 in
set_option maxHeartbeats 4000000 in
theorem rprefix_any : Calls Tryd.prog 20 #[.slice x len cap, .string ⟨wd.toArray⟩] w fun e w' => e = .returned (.tuple #[.int .i64 (stA ls wd : Nat), .int .i64 (stB (parts wd) ls wd : Nat)]) ∧ ∃ q, w' = w.drewN q := by
  have HR := Lib.hid (rright_any x len cap ls hlen hcm hs w hI)
  by_cases hr : RightL ls
  · have HP := Lib.hid (fun q => rplace_any x len cap ls wd hlen hcm hs hw (w.drewN q) hI)
    have HA := Lib.hid (stA_yes hr wd)
    have HB := Lib.hid (stB_yes (q := parts wd) hr wd)
    rw [decide_eq_true hr] at HR
    have hpl := placeL_le ls wd
    rw [hlen] at hpl
    have HI := Lib.hid hI; have HS := Lib.hid hs; have HL := Lib.hid hlen
    clear hI hs hlen hr
    generalize placeL ls wd = p at *
    go_enter Tryd.func20, Tryd.ntmps20
    go_wp2_with fail
    refine HR.out.mono ?_
    rintro e w1 ⟨rfl, q1, rfl⟩
    go_wp2_with fail
    refine (HP.out _).mono ?_
    rintro e w2 ⟨rfl, q2, rfl⟩
    go_wp2
    go_loopw [7] (fun i wr => ∃ k q : Nat, p ≤ k ∧ k ≤ len ∧ i = .int .i64 k ∧ wr = w.drewN q ∧ Hid (∀ j, p ≤ j → j < k → parts wd (ls[j]?.getD []) = false)) (fun i _ => len - (intOf i).toNat)
    case atStart => exact ⟨p, _, Nat.le_refl _, hpl, rfl, rfl, Lib.hid (fun j h1 h2 => by omega)⟩
    case round =>
      obtain ⟨k, q, hpk, hk, rfl, rfl, HH⟩ := hrel
      by_cases hlt : k < len
      · obtain ⟨b, off, rfl, hb, hcell⟩ := HI.out.at_ hlt
        have hcell' : (w.drewN q).cell? ⟨b, off + k, none⟩ = some (.string ⟨(ls[k]?.getD []).toArray⟩) := hcell
        have hsk := HS.out k
        have hlt' : (k : Int) < len := by omega
        have HN : Hid (parts wd (ls[k]?.getD []) = false → ∀ j, p ≤ j → j < k + 1 → parts wd (ls[j]?.getD []) = false) := Lib.hid (fun h j h1 h2 => by
          by_cases e : j = k
          · subst e; exact h
          · exact HH.out j h1 (by omega))
        have HZ : Hid (parts wd (ls[k]?.getD []) = true → stB (parts wd) ls wd = k) := Lib.hid (fun h => by rw [HB.out]; exact first_drop hpk (by rw [HL.out]; omega) HH.out (fun _ => h))
        have hext := (ext_mk (ls[k]?.getD []) 0 wd.length).trans (mk_str (List.drop_zero ..))
        clear hcell
        have HBI := Lib.hid (begins_iff (w := wd) (t := ls[k]?.getD []))
        have HD : Hid (parts wd (ls[k]?.getD []) = !begins wd (ls[k]?.getD [])) := Lib.hid rfl
        generalize ls[k]?.getD [] = t at *
        by_cases h1 : wd.length ≤ t.length
        · have h1' : (wd.length : Int) ≤ t.length := by omega
          by_cases h2 : t.take wd.length = wd
          · have he : (t.take wd.length == wd) = true := by simpa using h2
            have hx := HN.out (by rw [HD.out, HBI.out.2 ⟨h1, h2⟩]; rfl)
            have HX := Lib.hid hx
            clear hx h2 HN HZ
            generalize t.take wd.length = s at *
            go_wp2
            go_roundw
            case rel => exact ⟨k + 1, q, by omega, by omega, by simp, rfl, HX⟩
            case measure => simp [intOf]; omega
          · have he : (t.take wd.length == wd) = false := by simpa using h2
            have hx := HZ.out (by
              rw [HD.out]
              have : begins wd t = false := by
                rw [Bool.eq_false_iff]
                exact fun h => h2 (HBI.out.1 h).2
              rw [this]; rfl)
            have HX := Lib.hid hx
            clear hx h2 HN HZ
            generalize t.take wd.length = s at *
            go_wp2
            go_ret2
            exact ⟨by rw [HA.out, HX.out]; rfl, _, rfl⟩
        · have h1' : ¬ (wd.length : Int) ≤ t.length := by omega
          have hx := HZ.out (by
            rw [HD.out]
            have : begins wd t = false := by
              rw [Bool.eq_false_iff]
              exact fun h => h1 (HBI.out.1 h).1
            rw [this]; rfl)
          have HX := Lib.hid hx
          clear hx HN HZ
          go_wp2
          go_ret2
          exact ⟨by rw [HA.out, HX.out]; rfl, _, rfl⟩
      · obtain rfl : k = len := by omega
        have HZ : Hid (stB (parts wd) ls wd = k) := Lib.hid (by rw [HB.out]; exact first_drop hpk (by rw [HL.out]; omega) HH.out (fun h => absurd h (by rw [HL.out]; omega)))
        have hge : ¬ (k : Int) < k := by omega
        clear hlt
        go_wp2
        go_ret2
        exact ⟨by rw [HA.out, HZ.out]; rfl, _, rfl⟩
  · have HA := Lib.hid (stA_no hr wd)
    have HB := Lib.hid (stB_no (q := parts wd) hr wd)
    rw [decide_eq_false hr] at HR
    clear hr hI hs
    go_enter Tryd.func20, Tryd.ntmps20
    go_wp2_with fail
    refine HR.out.mono ?_
    rintro e w1 ⟨rfl, q1, rfl⟩
    go_wp2
    go_ret2
    exact ⟨by rw [HA.out, HB.out]; rfl, _, rfl⟩

set_option maxRecDepth 100000 in
set_option maxHeartbeats 4000000 in
theorem rbetween_any (to : List UInt8) (ht : to.length ≤ 9223372036854775807) : Calls Tryd.prog 22 #[.slice x len cap, .string ⟨wd.toArray⟩, .string ⟨to.toArray⟩] w fun e w' => e = .returned (.tuple #[.int .i64 (stA ls wd : Nat), .int .i64 (stB (behind to) ls wd : Nat)]) ∧ ∃ q, w' = w.drewN q := by
  have HR := Lib.hid (rright_any x len cap ls hlen hcm hs w hI)
  by_cases hr : RightL ls
  · have HP := Lib.hid (fun q => rplace_any x len cap ls wd hlen hcm hs hw (w.drewN q) hI)
    have HA := Lib.hid (stA_yes hr wd)
    have HB := Lib.hid (stB_yes (q := behind to) hr wd)
    rw [decide_eq_true hr] at HR
    have hpl := placeL_le ls wd
    rw [hlen] at hpl
    have HI := Lib.hid hI; have HS := Lib.hid hs; have HL := Lib.hid hlen
    clear hI hs hlen hr
    generalize placeL ls wd = p at *
    go_enter Tryd.func22, Tryd.ntmps22
    go_wp2_with fail
    refine HR.out.mono ?_
    rintro e w1 ⟨rfl, q1, rfl⟩
    go_wp2_with fail
    refine (HP.out _).mono ?_
    rintro e w2 ⟨rfl, q2, rfl⟩
    go_wp2
    go_loopw [9] (fun i wr => ∃ k q : Nat, p ≤ k ∧ k ≤ len ∧ i = .int .i64 k ∧ wr = w.drewN q ∧ Hid (∀ j, p ≤ j → j < k → behind to (ls[j]?.getD []) = false)) (fun i _ => len - (intOf i).toNat)
    case atStart => exact ⟨p, _, Nat.le_refl _, hpl, rfl, rfl, Lib.hid (fun j h1 h2 => by omega)⟩
    case round =>
      obtain ⟨k, q, hpk, hk, rfl, rfl, HH⟩ := hrel
      by_cases hlt : k < len
      · obtain ⟨b, off, rfl, hb, hcell⟩ := HI.out.at_ hlt
        have hcell' : (w.drewN q).cell? ⟨b, off + k, none⟩ = some (.string ⟨(ls[k]?.getD []).toArray⟩) := hcell
        have hsk := HS.out k
        have hlt' : (k : Int) < len := by omega
        have HN : Hid (behind to (ls[k]?.getD []) = false → ∀ j, p ≤ j → j < k + 1 → behind to (ls[j]?.getD []) = false) := Lib.hid (fun h j h1 h2 => by
          by_cases e : j = k
          · subst e; exact h
          · exact HH.out j h1 (by omega))
        have HZ : Hid (behind to (ls[k]?.getD []) = true → stB (behind to) ls wd = k) := Lib.hid (fun h => by rw [HB.out]; exact first_drop hpk (by rw [HL.out]; omega) HH.out (fun _ => h))
        have HW := Lib.hid (fun W => wahead_any to (ls[k]?.getD []) ht hsk W)
        have HD : Hid (behind to (ls[k]?.getD []) = decide (to < ls[k]?.getD [])) := Lib.hid rfl
        clear hcell
        generalize ls[k]?.getD [] = t at *
        cases hd : decide (to < t)
        · have HX := Lib.hid (HN.out (by rw [HD.out, hd]))
          rw [hd] at HW
          clear HN HZ HD hd
          go_wp2_with (go_at_call 28; refine (HW.out _).mono ?_; rintro e w' ⟨rfl, q2, rfl⟩)
          go_roundw
          case rel => exact ⟨k + 1, q + q2, by omega, by omega, by simp, rfl, HX⟩
          case measure => simp [intOf]; omega
        · have HX := Lib.hid (HZ.out (by rw [HD.out, hd]))
          rw [hd] at HW
          clear HN HZ HD hd
          go_wp2_with (go_at_call 28; refine (HW.out _).mono ?_; rintro e w' ⟨rfl, q2, rfl⟩)
          go_ret2
          exact ⟨by rw [HA.out, HX.out]; rfl, _, rfl⟩
      · obtain rfl : k = len := by omega
        have HZ : Hid (stB (behind to) ls wd = k) := Lib.hid (by rw [HB.out]; exact first_drop hpk (by rw [HL.out]; omega) HH.out (fun h => absurd h (by rw [HL.out]; omega)))
        have hge : ¬ (k : Int) < k := by omega
        clear hlt
        go_wp2
        go_ret2
        exact ⟨by rw [HA.out, HZ.out]; rfl, _, rfl⟩
  · have HA := Lib.hid (stA_no hr wd)
    have HB := Lib.hid (stB_no (q := behind to) hr wd)
    rw [decide_eq_false hr] at HR
    clear hr hI hs
    go_enter Tryd.func22, Tryd.ntmps22
    go_wp2_with fail
    refine HR.out.mono ?_
    rintro e w1 ⟨rfl, q1, rfl⟩
    go_wp2
    go_ret2
    exact ⟨by rw [HA.out, HB.out]; rfl, _, rfl⟩
end
end Go.Proofs.YthoegicchjadaaaDoor
