/- A search by two questions: stretch; Find, Prefix, Between. -/
import Derived.Test.YthoegicchjadaaaDoorDRight
import Derived.Test.YthoegicchjadaaaDoorDShelf
namespace Go.Proofs.YthoegicchjadaaaDoor
open Go.RowKit Go.Sort

theorem count_first {q : List UInt8 → Bool} {l : List (List UInt8)} (hm : Mono q l) : (List.range l.length).countP (fun i => !q (l[i]?.getD [])) = firstAt q l := by
  have hr : ∀ t, t < l.length → (List.range l.length)[t]! = t := fun t ht => by rw [getElem!_pos _ t (by simpa using ht)]; simp
  refine Go.Lib.countP_boundary _ (List.range l.length) _ (by simpa using firstAt_le q l) (fun t ht => ?_) (fun t h3 h4 => ?_)
  · rw [hr t (by have := firstAt_le q l; omega), firstAt_lt ht]; rfl
  · rw [hr t (by simpa using h4), firstAt_ge hm h3 (by simpa using h4)]; rfl
theorem search_first (g : Nat) (cb : Array Value) (q : List UInt8 → Bool) (ls : List (List UInt8)) (n : Nat) (hn : ls.length = n) (w : World) (eg : ∀ args w, (callFunc g args).run Tryd.prog w = .ok (.enter g args) w) (hsz : n ≤ 1000)
    (hf : ∀ (m : Nat) (os : Array Obj) (i : Nat), i < n → Calls Tryd.prog g (#[.int .i64 i] ++ cb) (grow (w.drewN m) os) fun e w' => e = .returned (.bool (q (ls[i]?.getD []))) ∧ ∃ q, w' = (grow (w.drewN m) os).drewN q)
    (hm : Mono q ls) :
    Calls Tryd.prog 46 #[.int .i64 n, .func (.func g) #[] cb] w fun e w' => e = .returned (.int .i64 (firstAt q ls : Nat)) ∧ Below w.heap.size w w' := by
  subst hn
  refine (search_any g cb ls.length (fun i => q (ls[i]?.getD [])) w eg (by omega) (fun m os i hi => (hf m os i hi).mono ?_) hm).mono ?_
  · rintro e w' ⟨rfl, q, rfl⟩
    exact ⟨rfl, q, #[], by rw [grow_empty]⟩
  · rintro e w' ⟨rfl, k, os, rfl⟩
    exact ⟨by rw [count_first hm], below_grown_sl w.heap.size w k os (Nat.le_refl _)⟩

set_option maxRecDepth 100000 in
set_option maxHeartbeats 2000000 in
/-- The first question: is the word at a place not ahead of wd? -/
theorem st1_any (A B : Nat) (x : Option Addr) (len cap i : Nat) (u wd : List UInt8) (hi : i < len) (hlen : len ≤ 1000) (w : World) (hA : w.cell? ⟨A, 0, .none⟩ = some (.slice x len cap)) (hB : w.cell? ⟨B, 0, .none⟩ = some (.string ⟨wd.toArray⟩)) (b off : Nat) (hx : x = some ⟨b, off, .none⟩) (hc : w.cell? ⟨b, off + i, .none⟩ = some (.string ⟨u.toArray⟩)) :
    Calls Tryd.prog 47 #[.int .i64 i, .pointer (some ⟨A, 0, .none⟩), .pointer (some ⟨B, 0, .none⟩)] w fun e w' => e = .returned (.bool (notBelow wd u)) ∧ ∃ q, w' = w.drewN q := by
  subst hx
  have hA' : ∀ m, (w.drewN m).cell? ⟨A, 0, .none⟩ = some (.slice (some ⟨b, off, .none⟩) len cap) := fun _ => hA
  have hB' : ∀ m, (w.drewN m).cell? ⟨B, 0, .none⟩ = some (.string ⟨wd.toArray⟩) := fun _ => hB
  have hc' : ∀ m, (w.drewN m).cell? ⟨b, off + i, .none⟩ = some (.string ⟨u.toArray⟩) := fun _ => hc
  have hi' : (i : Int) < len := by omega
  have HL : Hid ((!Op.bytesLess u wd) = notBelow wd u) := Lib.hid (by rw [bytesLess_eq]; rfl)
  go_enter Tryd.func47, Tryd.ntmps47
  go_wp2
  go_quiet (fail)
  go_wp2
  go_ret
  exact ⟨ret_bool HL.out, _, rfl⟩

set_option maxRecDepth 100000 in
set_option maxHeartbeats 2000000 in
/-- The second question: does the word at a place hold q? -/
theorem st2_any (q : List UInt8 → Bool) (g : Nat) (cb : Array Value) (eg : ∀ args w, (callFunc g args).run Tryd.prog w = .ok (.enter g args) w) (F A : Nat) (x : Option Addr) (len cap i : Nat) (u : List UInt8) (hi : i < len) (hlen : len ≤ 1000) (w : World)
    (hp : ∀ m, Calls Tryd.prog g (#[.string ⟨u.toArray⟩] ++ cb) (w.drewN m) fun e w' => e = .returned (.bool (q u)) ∧ w' = w.drewN m)
    (hF : w.cell? ⟨F, 0, .none⟩ = some (.func (.func g) #[] cb)) (hA : w.cell? ⟨A, 0, .none⟩ = some (.slice x len cap)) (b off : Nat) (hx : x = some ⟨b, off, .none⟩) (hc : w.cell? ⟨b, off + i, .none⟩ = some (.string ⟨u.toArray⟩)) :
    Calls Tryd.prog 48 #[.int .i64 i, .pointer (some ⟨F, 0, .none⟩), .pointer (some ⟨A, 0, .none⟩)] w fun e w' => e = .returned (.bool (q u)) ∧ ∃ q, w' = w.drewN q := by
  subst hx
  have hF' : ∀ m, (w.drewN m).cell? ⟨F, 0, .none⟩ = some (.func (.func g) #[] cb) := fun _ => hF
  have hA' : ∀ m, (w.drewN m).cell? ⟨A, 0, .none⟩ = some (.slice (some ⟨b, off, .none⟩) len cap) := fun _ => hA
  have hc' : ∀ m, (w.drewN m).cell? ⟨b, off + i, .none⟩ = some (.string ⟨u.toArray⟩) := fun _ => hc
  have hi' : (i : Int) < len := by omega
  have HP := Lib.hid hp
  clear hp
  go_enter Tryd.func48, Tryd.ntmps48
  go_wp2
  go_quiet ((go_at_fn g; exact Calls.quiet_of_same (HP.out _)))
  go_wp2
  go_ret
  exact ⟨rfl, _, rfl⟩
theorem stA_yes {l : List (List UInt8)} (h : RightL l) (w : List UInt8) : stA l w = placeL l w := by unfold stA; rw [if_pos h]
theorem stB_yes {q : List UInt8 → Bool} {l : List (List UInt8)} (h : RightL l) (w : List UInt8) : stB q l w = placeL l w + firstAt q (l.drop (placeL l w)) := by unfold stB; rw [if_pos h]
theorem stA_no {l : List (List UInt8)} (h : ¬ RightL l) (w : List UInt8) : stA l w = 0 := by unfold stA; rw [if_neg h]
theorem stB_no {q : List UInt8 → Bool} {l : List (List UInt8)} (h : ¬ RightL l) (w : List UInt8) : stB q l w = 0 := by unfold stB; rw [if_neg h]
/-- The texts from place p on, wherever they lie. -/
theorem Strs.behind {n₀ : Nat} {W : World} {x : Option Addr} {len cap : Nat} {ls : List (List UInt8)} (h : Strs n₀ W (.slice x len cap) ls) (p c : Nat) (y : Option Addr) (hp : p ≤ len) (hy : ∀ b off, x = some ⟨b, off, .none⟩ → p < len → y = some ⟨b, off + p, .none⟩) : Strs n₀ W (.slice y (len - p) c) (ls.drop p) := by
  have hl := h.len
  rcases Nat.lt_or_ge p len with hlt | hge
  · obtain ⟨b, off, rfl, hb, _⟩ := h.at_ (j := p) hlt
    refine .inr ⟨b, off + p, c, by rw [hy b off rfl hlt, List.length_drop, hl], hb, fun j hj => ?_⟩
    rw [List.length_drop] at hj
    obtain ⟨b', off', e, _, hc⟩ := h.at_ (j := p + j) (by omega)
    cases e
    rw [List.getElem?_drop, Nat.add_assoc]
    exact hc
  · have e1 : len - p = 0 := by omega
    have e2 : ls.drop p = [] := List.drop_eq_nil_of_le (by omega)
    rw [e1, e2]
    exact Strs.none

set_option maxRecDepth 100000 in
set_option maxHeartbeats 8000000 in
theorem stretch_any (q : List UInt8 → Bool) (g : Nat) (cb : Array Value) (eg : ∀ args w, (callFunc g args).run Tryd.prog w = .ok (.enter g args) w) (x : Option Addr) (len cap : Nat) (ls : List (List UInt8)) (wd : List UInt8) (hlen : ls.length = len) (hlc : len ≤ cap) (hcm : cap ≤ 9223372036854775807) (w : World)
    (hI : Strs w.heap.size w (.slice x len cap) ls) (hq : RightL ls → Mono q (ls.drop (placeL ls wd)))
    (hp : ∀ (u : List UInt8) (W : World), Below w.heap.size w W → Calls Tryd.prog g (#[.string ⟨u.toArray⟩] ++ cb) W fun e w' => e = .returned (.bool (q u)) ∧ w' = W) :
    Calls Tryd.prog 32 #[.slice x len cap, .string ⟨wd.toArray⟩, .func (.func g) #[] cb] w fun e w' => e = .returned (.tuple #[.int .i64 (stA ls wd : Nat), .int .i64 (stB q ls wd : Nat)]) ∧ Below w.heap.size w w' := by
  have bA := ((Blk.new w 22 #[.slice x len cap]).alloc (.cells #[.string ⟨wd.toArray⟩] 9)).alloc (.cells #[.func (.func g) #[] cb] 50)
  have bB := (Blk.new (w.alloc (.cells #[.slice x len cap] 22)) 9 #[.string ⟨wd.toArray⟩]).alloc (.cells #[.func (.func g) #[] cb] 50)
  have bF := Blk.new ((w.alloc (.cells #[.slice x len cap] 22)).alloc (.cells #[.string ⟨wd.toArray⟩] 9)) 50 #[.func (.func g) #[] cb]
  have hb0 : Below w.heap.size w (((w.alloc (.cells #[.slice x len cap] 22)).alloc (.cells #[.string ⟨wd.toArray⟩] 9)).alloc (.cells #[.func (.func g) #[] cb] 50)) := (((Below.refl _ w).alloc (Nat.le_refl _) _).alloc (by simp) _).alloc (by simp; omega) _
  have hsz : (((w.alloc (.cells #[.slice x len cap] 22)).alloc (.cells #[.string ⟨wd.toArray⟩] 9)).alloc (.cells #[.func (.func g) #[] cb] 50)).heap.size = w.heap.size + 3 := by simp
  simp only [World.size_alloc] at bA bB bF
  have HI := Lib.hid hI; have HP := Lib.hid hp; have HL := Lib.hid hlen
  clear hI hp hlen
  have key : ∀ W0, W0 = (((w.alloc (.cells #[.slice x len cap] 22)).alloc (.cells #[.string ⟨wd.toArray⟩] 9)).alloc (.cells #[.func (.func g) #[] cb] 50)) → Strs W0.heap.size W0 (.slice x len cap) ls := fun W0 e => by
    subst e
    exact (HI.out.below hb0).mono (by rw [hsz]; omega)
  have HR := Lib.hid (right_any x len cap ls HL.out (by omega) _ (key _ rfl))
  clear key
  by_cases hr : RightL ls
  · have hrl := hr.1
    rw [HL.out] at hrl
    have HA := Lib.hid (notBelow_mono (right_asc hr) wd)
    have HQ := Lib.hid (hq hr)
    have HE := Lib.hid (stA_yes hr wd)
    have HE2 := Lib.hid (stB_yes (q := q) hr wd)
    have hpl := placeL_le ls wd
    rw [HL.out] at hpl
    have hfl := firstAt_le q (ls.drop (placeL ls wd))
    rw [List.length_drop, HL.out] at hfl
    rw [decide_eq_true hr] at HR
    clear hr hq
    obtain ⟨p, hpd⟩ : ∃ p, placeL ls wd = p := ⟨_, rfl⟩
    have HPD : Hid (firstAt (notBelow wd) ls = p) := Lib.hid hpd
    rw [hpd] at HE HE2 HQ hpl hfl
    clear hpd
    have hp' : (p : Int) ≤ len := by omega
    have hlc' : (len : Int) ≤ cap := by omega
    go_enter Tryd.func32, Tryd.ntmps32
    go_wp2_with fail
    refine HR.out.mono ?_
    rintro e w1 ⟨rfl, rfl⟩
    generalize (((w.alloc (.cells #[.slice x len cap] 22)).alloc (.cells #[.string ⟨wd.toArray⟩] 9)).alloc (.cells #[.func (.func g) #[] cb] 50)) = W0 at *
    have cA := bA.cell 0; have cB := bB.cell 0; have cF := bF.cell 0
    dsimp at cA cB cF
    have HS := Lib.hid (search_first 47 #[.pointer (some ⟨w.heap.size, 0, .none⟩), .pointer (some ⟨w.heap.size + 1, 0, .none⟩)] (notBelow wd) ls len HL.out W0 (enters_of Tryd.func47 (by kernel_rfl) rfl) (by omega) (fun m os i hi => by
      obtain ⟨b, off, e, hb, hc⟩ := HI.out.at_ hi
      exact st1_any _ _ x len cap i _ wd hi (by omega) _ (cell_grown bA.lt cA m os) (cell_grown bB.lt cB m os) b off e (cell_grown (by have := hb0.size; show b < _; omega) ((hb0.cell (p := ⟨b, off + i, .none⟩) hb).trans hc) m os)) HA.out)
    rw [HPD.out] at HS
    go_wp2_with fail
    refine HS.out.mono ?_
    rintro e w2 ⟨rfl, hb2⟩
    have cA2 : w2.cell? ⟨w.heap.size, 0, .none⟩ = some (.slice x len cap) := (hb2.cell (p := ⟨w.heap.size, 0, .none⟩) bA.lt).trans cA
    have HB2 := Lib.hid (hb0.trans (hb2.mono hb0.size))
    have bF2 := bF.under hb2
    have HK : Hid (∀ (y : Option Addr) (c : Nat), (∀ b off, x = some ⟨b, off, .none⟩ → p < len → y = some ⟨b, off + p, .none⟩) →
        Calls Tryd.prog 46 #[.int .i64 (len - p : Nat), .func (.func 48) #[] #[.pointer (some ⟨w.heap.size + 1 + 1, 0, .none⟩), .pointer (some ⟨w2.heap.size, 0, .none⟩)]] (w2.alloc (.cells #[.slice y (len - p) c] 22)) fun e w' => e = .returned (.int .i64 (firstAt q (ls.drop p) : Nat)) ∧ Below w.heap.size w w') := Lib.hid (fun y c hy => by
      have hS := HI.out.behind p c y hpl hy
      have hba := HB2.out.alloc HB2.out.size (.cells #[.slice y (len - p) c] 22)
      have bR := Blk.new w2 22 #[.slice y (len - p) c]
      have bG := bF2.alloc (.cells #[.slice y (len - p) c] 22)
      have cR := bR.cell 0; have cG := bG.cell 0
      dsimp at cR cG
      refine (search_first 48 #[.pointer (some ⟨w.heap.size + 1 + 1, 0, .none⟩), .pointer (some ⟨w2.heap.size, 0, .none⟩)] q (ls.drop p) (len - p) (by rw [List.length_drop, HL.out]) _ (enters_of Tryd.func48 (by kernel_rfl) rfl) (by omega) (fun m os i hi => ?_) HQ.out).mono ?_
      · obtain ⟨b, off, e, hb, hc⟩ := hS.at_ hi
        have hg : Below w.heap.size w (grow ((w2.alloc (.cells #[.slice y (len - p) c] 22)).drewN m) os) := hba.trans (below_grown_sl w.heap.size _ m os hba.size)
        exact st2_any q g cb eg _ _ y (len - p) c i _ hi (by omega) _ (fun k => HP.out _ _ (below_drewN hg k)) (cell_grown bG.lt cG m os) (cell_grown bR.lt cR m os) b off e ((hg.cell (p := ⟨b, off + i, .none⟩) hb).trans hc)
      · rintro e w' ⟨rfl, hb⟩
        exact ⟨rfl, hba.trans (hb.mono hba.size)⟩)
    have HF : Hid (∀ e w', e = Ending.returned (.tuple #[.int .i64 (p : Nat), .int .i64 ((p : Int) + (firstAt q (ls.drop p) : Nat))]) → Below w.heap.size w w' → e = .returned (.tuple #[.int .i64 (stA ls wd : Nat), .int .i64 (stB q ls wd : Nat)]) ∧ Below w.heap.size w w') := Lib.hid (fun e w' h hb => ⟨by rw [h, HE.out, HE2.out]; rfl, hb⟩)
    have hfi : ((firstAt q (ls.drop p) : Nat) : Int) ≤ len - p := by omega
    clear bA bB bF cA cB cF HI HP HA HQ HE HE2 HS HR hb2 HL HPD
    generalize firstAt q (ls.drop p) = f at *
    cases x with
    | none =>
      go_wp2_with fail
      refine (HK.out _ _ (fun b off e => by cases e)).mono ?_
      rintro e w3 ⟨rfl, hb3⟩
      go_wp2
      go_ret2
      exact HF.out _ _ rfl hb3
    | some a =>
      go_wp2_with fail
      · refine (HK.out _ _ (fun b off e h => by omega)).mono ?_
        rintro e w3 ⟨rfl, hb3⟩
        go_wp2
        go_ret2
        exact HF.out _ _ rfl hb3
      · refine (HK.out _ _ (fun b off e _ => by cases e; simp [Addr.add])).mono ?_
        rintro e w3 ⟨rfl, hb3⟩
        go_wp2
        go_ret2
        exact HF.out _ _ rfl hb3
  · have HE := Lib.hid (stA_no hr wd)
    have HE2 := Lib.hid (stB_no (q := q) hr wd)
    rw [decide_eq_false hr] at HR
    clear hr hq
    go_enter Tryd.func32, Tryd.ntmps32
    go_wp2_with fail
    refine HR.out.mono ?_
    rintro e w1 ⟨rfl, rfl⟩
    generalize (((w.alloc (.cells #[.slice x len cap] 22)).alloc (.cells #[.string ⟨wd.toArray⟩] 9)).alloc (.cells #[.func (.func g) #[] cb] 50)) = W0 at *
    go_wp2
    go_ret2
    exact ⟨by rw [HE.out, HE2.out]; rfl, hb0⟩
end Go.Proofs.YthoegicchjadaaaDoor
