/- The document's Build. -/
import Derived.Test.YthoegicchjadaaaDoorDBuild
import Derived.Test.YthoegicchjadaaaDoorSPart
import Derived.Deep.RegionHeld3
namespace Go.Proofs.YthoegicchjadaaaDoor
open Go.RowKit Go.Sort

theorem mem_place {l : List (List UInt8)} (h : Asc l) {w : List UInt8} : w ∈ l ↔ placeL l w < l.length ∧ l[placeL l w]?.getD [] = w :=
  ⟨place_mem h, fun ⟨h1, h2⟩ => by rw [← h2]; exact getD_mem h1⟩
theorem ins_in {l : List (List UInt8)} {w : List UInt8} (h : w ∈ l) : insW l w = l := by unfold insW; rw [if_pos h]
theorem ins_out {l : List (List UInt8)} {w : List UInt8} (h : w ∉ l) : insW l w = (l.take (placeL l w) ++ [w]) ++ l.drop (placeL l w) := by unfold insW; rw [if_neg h]; simp
theorem insAll_next {ls : List (List UInt8)} {k : Nat} (h : k < ls.length) : insAll (ls.take (k + 1)) = insW (insAll (ls.take k)) (ls[k]?.getD []) := by rw [take_next h, insAll_snoc]
theorem insAll_asc (l : List (List UInt8)) : Asc (insAll l) := (insAll_spec l).1
theorem insAll_len (l : List (List UInt8)) : (insAll l).length ≤ l.length := by rw [insAll_eq]; exact uniq_length l

/-- Where the words that were put in lie: nowhere, or in a row from its beginning on. -/
def Lies (P : Option Addr) (v : Value) (out : List (List UInt8)) : Prop := (P = none ∧ out = []) ∨ ∃ g cap, P = some ⟨g, 0, none⟩ ∧ v = .slice (some ⟨g, 0, none⟩) out.length cap
theorem own_past {W0 W : World} {n₀ : Nat} {v : Value} {out : List (List UInt8)} (h : OwnS n₀ W0 v out) (hG : Below W0.heap.size W0 W) : OwnS n₀ W v out := rows_under h hG
section
variable {ops : Array Oper} {o : Oper} {a : Act} {Q : Exit → Act → World → Prop} (W0 W : World) (n₀ : Nat) (out : List (List UInt8)) (v : Value) (hO : OwnS n₀ W0 v out) (hG : Below W0.heap.size W0 W) (p : Nat) (hp : p ≤ out.length) (hlen : out.length ≤ 100000)
include hO hG hp hlen
theorem ins1 {K : Act → World → Prop} {E : Prop} (P : Option Addr) (c : Nat) (hP : Lies P v out) (hc : P = none → c = 0) (hgd : o.guard = none)
    (ho : o.op = .call { callee := .builtin .append, args := #[.tmp 41, .tmp 44], argTypes := #[22, 22] }) (hs : a.eval (.tmp 41) = .slice none 0 0) (hx : a.eval (.tmp 44) = .slice P p c)
    (h : ∀ v' w', w'.ownsRow W0.heap.size 9 1 v' p (strVs (out.take p)) → Below W.heap.size W w' → K (a.put o.dst v') w') :
    if Region.wanted o (yielded ops a.tmps) = true then Oper.wp Tryd.prog o a W K Q else E := by
  obtain ⟨i0, hi, hz0, hz1, hz2⟩ := info_parts info_str
  have hO' := own_past hO hG
  refine step_append_part W hgd (.tmp 41) (.tmp 44) 22 ho 9 W0.heap.size i0 (.string ⟨#[]⟩) 16 Tryd.underlying22 hi hz0 hz1 hz2 rfl (.slice none 0 0) 0 [] hs (World.ownsRow_nil _ _ _ _) P p c (strVs (out.take p)) hx (fun e => ⟨?_, hc e⟩) (by rw [strVs_length, List.length_take]; omega) (fun ad e => ?_) strVs_one (by unfold maxLen; omega) (by omega) hG.size (fun v' w' h1 h2 => h v' w' (by simpa using h1) ((Below.refl _ W).grown h2 (Nat.le_refl _) (fun j e => by cases e)))
  · rcases hP with ⟨_, rfl⟩ | ⟨g, cap, e', _⟩
    · simpa using hp
    · rw [e'] at e; cases e
  · rcases hP with ⟨e', _⟩ | ⟨g, cap, e', hv⟩
    · rw [e'] at e; cases e
    · rw [e'] at e
      cases e
      exact head_cells hO' hv p
theorem ins2 {K : Act → World → Prop} {E : Prop} (v1 : Value) (h1 : W.ownsRow W0.heap.size 9 1 v1 p (strVs (out.take p))) (T : Nat) (t : List UInt8) (hT : W.cell? ⟨T, 0, none⟩ = some (.string ⟨t.toArray⟩)) (hgd : o.guard = none)
    (ho : o.op = .call { callee := .builtin .append, args := #[.tmp 45, .tmp 50], argTypes := #[22, 22] }) (hs : a.eval (.tmp 45) = v1) (hx : a.eval (.tmp 50) = .slice (some ⟨T, 0, none⟩) 1 1)
    (h : ∀ v' w', w'.ownsRow W0.heap.size 9 1 v' (p + 1) (strVs (out.take p ++ [t])) → Below W0.heap.size W0 w' → K (a.put o.dst v') w') :
    if Region.wanted o (yielded ops a.tmps) = true then Oper.wp Tryd.prog o a W K Q else E := by
  have _own := hO
  obtain ⟨i0, hi, hz0, hz1, hz2⟩ := info_parts info_str
  refine step_append_part W hgd (.tmp 45) (.tmp 50) 22 ho 9 W0.heap.size i0 (.string ⟨#[]⟩) 16 Tryd.underlying22 hi hz0 hz1 hz2 rfl v1 p _ hs h1 (some ⟨T, 0, none⟩) 1 1 [.string ⟨t.toArray⟩] hx (fun e => by cases e) rfl (fun ad e j u hj => ?_) (by simp [Value.oneCell']) (by unfold maxLen; omega) (by omega) hG.size (fun v' w' h3 h4 => h v' w' (by rw [strVs_snoc]; exact h3) (hG.grown h4 hG.size (fun j e => (h1.lt j e).1)))
  cases e
  match j with
  | 0 =>
    simp only [List.getElem?_cons_zero, Option.some.injEq] at hj
    rw [← hj]
    exact hT
  | j + 1 => simp at hj
theorem ins3 {rest : List Oper} (n r : Nat) (hn : out.length = n) (hr : n - p = r) (v2 : Value) (l2 : List (List UInt8)) (m : Nat) (hm : m ≤ 100001) (hl2 : l2.length = m) (h2 : W.ownsRow W0.heap.size 9 1 v2 m (strVs l2)) (P : Option Addr) (hP : Lies P v out) (y : Option Addr) (c : Nat) (hy : ∀ g, P = some ⟨g, 0, none⟩ → p < n → y = some ⟨g, p, none⟩) (hy0 : y = none → r = 0 ∧ c = 0) (hgd : o.guard = none)
    (ho : o.op = .call { callee := .builtin .append, args := #[.tmp 52, .tmp 55], argTypes := #[22, 22] }) (hs : a.eval (.tmp 52) = v2) (hx : a.eval (.tmp 55) = .slice y r c)
    (h : ∀ v' w', OwnS W0.heap.size w' v' (l2 ++ out.drop p) → Below W0.heap.size W0 w' → wpList Tryd.prog ops Q rest (a.put o.dst v') w') :
    wpList Tryd.prog ops Q (o :: rest) a W := by
  obtain ⟨i0, hi, hz0, hz1, hz2⟩ := info_parts info_str
  have hO' := own_past hO hG
  refine wpList_append_part W hgd (.tmp 52) (.tmp 55) 22 ho 9 W0.heap.size i0 (.string ⟨#[]⟩) 16 Tryd.underlying22 hi hz0 hz1 hz2 rfl v2 m _ hs h2 y r c (strVs (out.drop p)) hx hy0 (by rw [strVs_length, List.length_drop, hn, hr]) (fun ad e j u hj => ?_) strVs_one (by unfold maxLen; omega) (by omega) hG.size (fun v' w' h3 h4 => h v' w' (by unfold OwnS; rw [strVs_append, List.length_append, List.length_drop, hl2, hn, hr]; exact h3) (hG.grown h4 hG.size (fun j e => (h2.lt j e).1)))
  have hj' := (List.getElem?_eq_some_iff.1 hj).1
  rw [strVs_length, List.length_drop] at hj'
  rcases hP with ⟨_, rfl⟩ | ⟨g, cap, e', hv⟩
  · simp at hj'
  · rw [hy g e' (by omega)] at e
    cases e
    exact part_cells hO' hv p j u hj
end
theorem own_base {W : World} {m n₀ : Nat} {v : Value} {k : Nat} {xs : List Value} (h : W.ownsRow m 9 1 v k xs) (hn : n₀ ≤ m) : W.ownsRow n₀ 9 1 v k xs := by
  refine ⟨h.1, ?_⟩
  rcases h.2 with hx | ⟨g, cap, cur, e, hg, rest⟩
  · exact .inl hx
  · exact .inr ⟨g, cap, cur, e, by omega, rest⟩

set_option maxRecDepth 100000 in
set_option maxHeartbeats 8000000 in
theorem rbuild_any (x : Option Addr) (len cap : Nat) (ls : List (List UInt8)) (hlen : ls.length = len) (hl : len ≤ 100000) (hs : ∀ j : Nat, (ls[j]?.getD []).length ≤ 9223372036854775807) (w : World) (hI : Strs w.heap.size w (.slice x len cap) ls) :
    Calls Tryd.prog 13 #[.slice x len cap] w (BuildPost ls w) := by
  obtain ⟨i0, hi, hz0, hz1, hz2⟩ := info_parts info_str
  have HI0 := Lib.hid hi; have HZ0 := Lib.hid hz0; have HZ1 := Lib.hid hz1; have HZ2 := Lib.hid hz2
  have HL := Lib.hid hlen; have HI := Lib.hid hI; have HS := Lib.hid hs
  clear hlen hI hs hi hz0 hz1 hz2
  go_enter Tryd.func13, Tryd.ntmps13
  go_wp2
  go_loopw [4, 5] (fun v i wr => ∃ k : Nat, k ≤ len ∧ i = .int .i64 k ∧ Hid (OwnS w.heap.size wr v (insAll (ls.take k))) ∧ Hid (∀ j, j < k → (ls[j]?.getD []).length ≤ 100) ∧ Below w.heap.size w wr)
    (fun _ i _ => len - (intOf i).toNat)
  case atStart => exact ⟨0, Nat.zero_le _, rfl, Lib.hid (World.ownsRow_nil w _ _ _), Lib.hid (fun j hj => absurd hj (Nat.not_lt_zero _)), Below.refl _ _⟩
  case round =>
    obtain ⟨k, hk, rfl, HO, HH, hB⟩ := hrel
    by_cases hlt : k < len
    · obtain ⟨b, off, rfl, hb, hcell⟩ := HI.out.at_ hlt
      have hkl : k < ls.length := by rw [HL.out]; exact hlt
      have hcw : ∀ W, Below w.heap.size w W → W.cell? ⟨b, off + k, none⟩ = some (.string ⟨(ls[k]?.getD []).toArray⟩) := fun W h => (h.cell (p := ⟨b, off + k, none⟩) hb).trans hcell
      have hc1 := hcw wr hB
      have hlt' : (k : Int) < len := by omega
      by_cases hbig : 100 < (ls[k]?.getD []).length
      · have HP : Hid (∀ w', Below w.heap.size w w' → BuildPost ls w (.returned (.tuple #[.slice none 0 0, .int .i64 50])) w') := Lib.hid (fun w' h => ⟨h, .inr ⟨fun hr => by
          have := (right_uniq.1 hr).1 _ (getD_mem hkl)
          omega, rfl⟩⟩)
        clear hcell hcw
        generalize ls[k]?.getD [] = t at *
        have hbig' : (100 : Int) < (t.length : Int) := by omega
        go_wp2
        go_ret2
        exact HP.out _ hB
      · have HN : Hid (∀ j, j < k + 1 → (ls[j]?.getD []).length ≤ 100) := Lib.hid (fun j hj => by
          by_cases e : j = k
          · subst e; omega
          · exact HH.out j (by omega))
        have HX := Lib.hid (insAll_next hkl)
        have HA := Lib.hid (insAll_asc (ls.take k))
        have HE := Lib.hid (insAll_len (ls.take k))
        have HW : Hid (∀ x ∈ insAll (ls.take k), x.length ≤ 100) := Lib.hid (fun x hx => by
          obtain ⟨j, hj, e⟩ := mem_getD (((insAll_spec _).2 x).1 hx)
          rw [List.length_take] at hj
          rw [List.getElem?_take, if_pos (by omega)] at e
          rw [← e]
          exact HH.out j (by omega))
        have hkt : (ls.take k).length = k := by rw [List.length_take]; omega
        rw [hkt] at HE
        clear hcell hkt
        generalize ls[k]?.getD [] = t at *
        generalize insAll (ls.take k) = out at *
        have hbig' : ¬ (100 : Int) < (t.length : Int) := by omega
        have htl : t.length ≤ 100 := by omega
        obtain ⟨hSt, xo, co, rfl⟩ := strs_own HO.out
        have hol := HE.out
        have HPl := Lib.hid (rplace_any xo out.length co out t rfl (by omega) (fun j => by
          by_cases hj : j < out.length
          · have := HW.out _ (getD_mem hj); omega
          · rw [List.getElem?_eq_none (by omega)]; decide) (by omega) wr hSt)
        have HM := Lib.hid (mem_place HA.out (w := t))
        have hpl := placeL_le out t
        have HIO := Lib.hid (ins_out (l := out) (w := t))
        have HII := Lib.hid (ins_in (l := out) (w := t))
        go_wp2_with fail
        refine HPl.out.mono ?_
        rintro e w2 ⟨rfl, q, rfl⟩
        have hB2 : Below w.heap.size w (wr.drewN q) := below_drewN hB q
        have hc2 := hcw _ hB2
        have hO2 : OwnS w.heap.size (wr.drewN q) (.slice xo out.length co) out := HO.out
        by_cases hin : t ∈ out
        · obtain ⟨hp1, hp2⟩ := HM.out.1 hin
          rw [HII.out hin] at HX
          obtain ⟨g, go, rfl, hg, hgc⟩ := hSt.at_ hp1
          rw [hp2] at hgc
          have hc3 : (wr.drewN q).cell? ⟨g, go + placeL out t, none⟩ = some (.string ⟨t.toArray⟩) := hgc
          generalize hpd : placeL out t = p at *
          have hp' : (p : Int) < out.length := by omega
          have HO2 := Lib.hid hO2
          clear hin hp2 HM HIO HII hSt hO2 hpd HA HW HH
          generalize out.length = n at *
          have hc2' : ∀ m, ((wr.drewN q).drewN m).cell? ⟨b, off + k, none⟩ = some (.string ⟨t.toArray⟩) := fun _ => hc2
          have hc3' : ∀ m, ((wr.drewN q).drewN m).cell? ⟨g, go + p, none⟩ = some (.string ⟨t.toArray⟩) := fun _ => hc3
          go_wp2
          go_quiet (fail)
          go_wp2
          go_roundw
          case rel => exact ⟨k + 1, by omega, by simp, Lib.hid (by rw [HX.out]; exact HO2.out.drew), HN, below_drewN hB _⟩
          case measure => simp [intOf]; omega
        · rw [HIO.out hin] at HX
          have hne : placeL out t < out.length → (out[placeL out t]?.getD [] == t) = false := fun h => by
            have : ¬ out[placeL out t]?.getD [] = t := fun e => hin (HM.out.2 ⟨h, e⟩)
            simpa using this
          have hcg : placeL out t < out.length → ∃ g go, xo = some ⟨g, go, none⟩ ∧ wr.cell? ⟨g, go + placeL out t, none⟩ = some (.string ⟨(out[placeL out t]?.getD []).toArray⟩) := fun h => by
            obtain ⟨g, go, e, _, hgc⟩ := hSt.at_ h
            exact ⟨g, go, e, hgc⟩
          generalize out[placeL out t]?.getD [] = u at *
          generalize hpd : placeL out t = p at *
          have HTk : Hid ((strVs (out.take p)).length = p) := Lib.hid (by rw [strVs_length, List.length_take]; omega)
          have HDr : Hid ((strVs (out.drop p)).length = out.length - p) := Lib.hid (by rw [strVs_length, List.length_drop])
          have HNl : Hid (((out.take p ++ [t]) ++ out.drop p).length = p + 1 + (out.length - p)) := Lib.hid (by simp; omega)
          clear hin HM HIO HII hpd HA HW HH hSt
          have hnl : (out.length : Int) ≤ 100000 := by omega
          have HOL : Hid (∀ m, OwnS w.heap.size ((wr.drewN q).drewN m) (.slice xo out.length co) out) := Lib.hid (fun _ => hO2)
          have hform := rows_form hO2
          clear hO2
          have hc2' : ∀ m, ((wr.drewN q).drewN m).cell? ⟨b, off + k, none⟩ = some (.string ⟨t.toArray⟩) := fun _ => hc2
          by_cases hp : p < out.length
          · obtain ⟨g, go, rfl, hgc⟩ := hcg hp
            have hne' := hne hp
            clear hne hcg
            rcases hform with ⟨e, h0⟩ | ⟨g', cap', e, hg1, hg2, hg3, hg4⟩
            · omega
            · cases e
              rw [Nat.zero_add] at hgc
              have hc3' : ∀ m, ((wr.drewN q).drewN m).cell? ⟨g, p, none⟩ = some (.string ⟨u.toArray⟩) := fun _ => hgc
              have HLies : Hid (Lies (some ⟨g, 0, none⟩) (.slice (some ⟨g, 0, none⟩) out.length co) out) := Lib.hid (.inr ⟨g, co, rfl, rfl⟩)
              have HPC : Hid ((some ⟨g, 0, none⟩ : Option Addr) = none → (co : Nat) = 0) := Lib.hid (fun e => by cases e)
              generalize hnd : out.length = n at *
              have hp' : (p : Int) < n := by omega
              go_wp2
              go_quiet (fail)
              go_wp2
              have HOW := Lib.hid (HOL.out nq)
              have HPL : Hid (p ≤ out.length) := Lib.hid (by rw [hnd]; omega)
              have HNL : Hid (out.length ≤ 100000) := Lib.hid (by rw [hnd]; omega)
              have HND := Lib.hid hnd
              clear hnd
              have hpco : (p : Int) ≤ co := by omega
              have hpco2 : p ≤ co := by omega
              have hB0 : Below w.heap.size w ((wr.drewN q).drewN nq) := below_drewN hB2 nq
              have hl0 := hc2' nq
              generalize ((wr.drewN q).drewN nq) = W0 at *
              have HB0 := Lib.hid hB0
              have hG0 : Below W0.heap.size W0 W0.drew := (Below.refl _ W0).drew
              have hG1 : ∀ o : Obj, Below W0.heap.size W0 ((W0.alloc o).drew) := fun o => ((Below.refl _ W0).alloc (Nat.le_refl _) o).drew
              have hT1 : ∀ c : Value, ((W0.alloc (.cells #[c] 9)).drew).cell? ⟨W0.heap.size, 0, none⟩ = some c := fun c => (Boxed.new W0 9 c).cell
              have HLC : Hid (∀ W, Below W0.heap.size W0 W → W.cell? ⟨b, off + k, none⟩ = some (.string ⟨t.toArray⟩)) := Lib.hid (fun W h => hcw _ (HB0.out.trans (h.mono HB0.out.size)))
              have hS0 := HLC.out _ hG0
              have hS1 : ∀ o : Obj, ((W0.alloc o).drew).cell? ⟨b, off + k, none⟩ = some (.string ⟨t.toArray⟩) := fun o => HLC.out _ (hG1 o)
              clear hc2' hcw hc1 hc2 hB2 hB hB0 HPl hl0
              go_region_held3 (fun W => W.cell? ⟨b, off + k, none⟩ = some (.string ⟨t.toArray⟩)) (first | exact hS0 | exact hS1 _ | assumption | exact hS3 _)
                (first | (refine ins1 W0 _ w.heap.size out _ HOW.out hG0 p HPL.out HNL.out _ _ HLies.out HPC.out rfl rfl rfl rfl ?_; intro v1 w1 hv1 hb1; have hG2 : Below W0.heap.size W0 w1 := hG0.trans (hb1.mono (Nat.le_refl _)); have hS2 : w1.cell? ⟨b, off + k, none⟩ = some (.string ⟨t.toArray⟩) := HLC.out _ hG2; have hS3 : ∀ o : Obj, (w1.alloc o).cell? ⟨b, off + k, none⟩ = some (.string ⟨t.toArray⟩) := fun o => HLC.out _ (hG2.alloc hG2.size o); have HV1 := Lib.hid hv1; clear hv1) | (refine ins1 W0 _ w.heap.size out _ HOW.out (hG1 _) p HPL.out HNL.out _ _ HLies.out HPC.out rfl rfl rfl rfl ?_; intro v1 w1 hv1 hb1; have hT2 : w1.cell? ⟨W0.heap.size, 0, none⟩ = some (.string ⟨t.toArray⟩) := (hb1.cell (p := ⟨W0.heap.size, 0, none⟩) (by simp)).trans (hT1 _); have hG2 : Below W0.heap.size W0 w1 := (hG1 _).trans (hb1.mono (by simp)); have hS2 : w1.cell? ⟨b, off + k, none⟩ = some (.string ⟨t.toArray⟩) := HLC.out _ hG2; have HV1 := Lib.hid hv1; clear hv1) | (refine ins2 W0 _ w.heap.size out _ HOW.out (hG2.alloc hG2.size _) p HPL.out HNL.out _ (HV1.out.alloc _) w1.heap.size t (Boxed.new w1 9 _).cell rfl rfl rfl rfl ?_; intro v2 w2 hv2 hG4; have hS4 : w2.cell? ⟨b, off + k, none⟩ = some (.string ⟨t.toArray⟩) := HLC.out _ hG4; have HV2 := Lib.hid hv2; clear hv2) | (refine ins2 W0 _ w.heap.size out _ HOW.out hG2 p HPL.out HNL.out _ HV1.out W0.heap.size t hT2 rfl rfl rfl rfl ?_; intro v2 w2 hv2 hG4; have hS4 : w2.cell? ⟨b, off + k, none⟩ = some (.string ⟨t.toArray⟩) := HLC.out _ hG4; have HV2 := Lib.hid hv2; clear hv2))
              all_goals
                go_wp2_with (at_builtin; refine ins3 W0 _ w.heap.size out _ HOW.out hG4 p HPL.out HNL.out _ _ HND.out (by first | rfl | omega) _ _ (p + 1) (by have := HNL.out; have := HPL.out; omega) (by have := HPL.out; first | (simp; done) | (simp; omega)) HV2.out _ HLies.out _ _ (fun g' e h => by first | (exfalso; omega) | (cases e; rfl) | (cases e; rw [add_off, Nat.zero_add])) (fun e => by simp at e) rfl rfl rfl rfl ?_; intro v3 w3 hv3 hG5)
              all_goals
                go_roundw
                case rel =>
                  refine ⟨k + 1, by omega, by simp, Lib.hid ?_, HN, HB0.out.trans (hG5.mono HB0.out.size)⟩
                  rw [HX.out]
                  exact own_base hv3 HB0.out.size
                case measure => simp [intOf]; omega
          · rcases hform with ⟨e, h0⟩ | ⟨g', cap', e, hg1, hg2, hg3, hg4⟩
            · simp only [Value.slice.injEq] at e
              obtain ⟨rfl, hn0, rfl⟩ := e
              have HLies : Hid (Lies none (.slice none out.length 0) out) := Lib.hid (.inl ⟨rfl, List.eq_nil_of_length_eq_zero h0⟩)
              have HPC : Hid ((none : Option Addr) = none → (0 : Nat) = 0) := Lib.hid (fun _ => rfl)
              generalize hnd : out.length = n at *
              subst h0
              obtain rfl : p = 0 := by omega
              have h1 : decide ((0 : Int) < (0 : Nat)) = false := by simp
              clear hne hcg hp hn0
              go_wp2
              go_quiet (fail)
              go_wp2
              have HOW := Lib.hid (HOL.out nq)
              have HPL : Hid (0 ≤ out.length) := Lib.hid (Nat.zero_le _)
              have HNL : Hid (out.length ≤ 100000) := Lib.hid (by rw [hnd]; omega)
              have HND := Lib.hid hnd
              clear hnd
              have hB0 : Below w.heap.size w ((wr.drewN q).drewN nq) := below_drewN hB2 nq
              have hl0 := hc2' nq
              generalize ((wr.drewN q).drewN nq) = W0 at *
              have HB0 := Lib.hid hB0
              have hG0 : Below W0.heap.size W0 W0.drew := (Below.refl _ W0).drew
              have hG1 : ∀ o : Obj, Below W0.heap.size W0 ((W0.alloc o).drew) := fun o => ((Below.refl _ W0).alloc (Nat.le_refl _) o).drew
              have hT1 : ∀ c : Value, ((W0.alloc (.cells #[c] 9)).drew).cell? ⟨W0.heap.size, 0, none⟩ = some c := fun c => (Boxed.new W0 9 c).cell
              have HLC : Hid (∀ W, Below W0.heap.size W0 W → W.cell? ⟨b, off + k, none⟩ = some (.string ⟨t.toArray⟩)) := Lib.hid (fun W h => hcw _ (HB0.out.trans (h.mono HB0.out.size)))
              have hS0 := HLC.out _ hG0
              have hS1 : ∀ o : Obj, ((W0.alloc o).drew).cell? ⟨b, off + k, none⟩ = some (.string ⟨t.toArray⟩) := fun o => HLC.out _ (hG1 o)
              clear hc2' hcw hc1 hc2 hB2 hB hB0 HPl hl0
              go_region_held3 (fun W => W.cell? ⟨b, off + k, none⟩ = some (.string ⟨t.toArray⟩)) (first | exact hS0 | exact hS1 _ | assumption | exact hS3 _)
                (first | (refine ins2 W0 _ w.heap.size out _ HOW.out (hG1 _) 0 HPL.out HNL.out _ (World.ownsRow_nil _ _ _ _) W0.heap.size t (hT1 _) rfl rfl rfl rfl ?_; intro v2 w2 hv2 hG4; have hS4 : w2.cell? ⟨b, off + k, none⟩ = some (.string ⟨t.toArray⟩) := HLC.out _ hG4; have HV2 := Lib.hid hv2; clear hv2))
              all_goals
                go_wp2_with (at_builtin; refine ins3 W0 _ w.heap.size out _ HOW.out hG4 0 HPL.out HNL.out _ _ HND.out (by first | rfl | omega) _ _ (0 + 1) (by have := HNL.out; have := HPL.out; omega) (by have := HPL.out; first | (simp; done) | (simp; omega)) HV2.out _ HLies.out _ _ (fun g' e h => by first | (exfalso; omega) | (cases e; rfl) | (cases e; rw [add_off, Nat.zero_add])) (fun _ => ⟨rfl, rfl⟩) rfl rfl rfl rfl ?_; intro v3 w3 hv3 hG5)
              all_goals
                go_roundw
                case rel =>
                  refine ⟨k + 1, by omega, by simp, Lib.hid ?_, HN, HB0.out.trans (hG5.mono HB0.out.size)⟩
                  rw [HX.out]
                  exact own_base hv3 HB0.out.size
                case measure => simp [intOf]; omega
            · cases e
              have HLies : Hid (Lies (some ⟨g', 0, none⟩) (.slice (some ⟨g', 0, none⟩) out.length co) out) := Lib.hid (.inr ⟨g', co, rfl, rfl⟩)
              have HPC : Hid ((some ⟨g', 0, none⟩ : Option Addr) = none → (co : Nat) = 0) := Lib.hid (fun e => by cases e)
              generalize hnd : out.length = n at *
              obtain rfl : p = n := by omega
              have h1 : decide ((p : Int) < p) = false := by simp
              clear hne hcg hp
              go_wp2
              go_quiet (fail)
              go_wp2
              have HOW := Lib.hid (HOL.out nq)
              have HPL : Hid (p ≤ out.length) := Lib.hid (by rw [hnd]; omega)
              have HNL : Hid (out.length ≤ 100000) := Lib.hid (by rw [hnd]; omega)
              have HND := Lib.hid hnd
              clear hnd
              rcases Nat.lt_or_ge p co with hpco | hpco
              · have hpco2 : p ≤ co := by omega
                have hpco3 : (p : Int) ≤ co := by omega
                have hB0 : Below w.heap.size w ((wr.drewN q).drewN nq) := below_drewN hB2 nq
                have hl0 := hc2' nq
                generalize ((wr.drewN q).drewN nq) = W0 at *
                have HB0 := Lib.hid hB0
                have hG0 : Below W0.heap.size W0 W0.drew := (Below.refl _ W0).drew
                have hG1 : ∀ o : Obj, Below W0.heap.size W0 ((W0.alloc o).drew) := fun o => ((Below.refl _ W0).alloc (Nat.le_refl _) o).drew
                have hT1 : ∀ c : Value, ((W0.alloc (.cells #[c] 9)).drew).cell? ⟨W0.heap.size, 0, none⟩ = some c := fun c => (Boxed.new W0 9 c).cell
                have HLC : Hid (∀ W, Below W0.heap.size W0 W → W.cell? ⟨b, off + k, none⟩ = some (.string ⟨t.toArray⟩)) := Lib.hid (fun W h => hcw _ (HB0.out.trans (h.mono HB0.out.size)))
                have hS0 := HLC.out _ hG0
                have hS1 : ∀ o : Obj, ((W0.alloc o).drew).cell? ⟨b, off + k, none⟩ = some (.string ⟨t.toArray⟩) := fun o => HLC.out _ (hG1 o)
                clear hc2' hcw hc1 hc2 hB2 hB hB0 HPl hl0
                go_region_held3 (fun W => W.cell? ⟨b, off + k, none⟩ = some (.string ⟨t.toArray⟩)) (first | exact hS0 | exact hS1 _ | assumption | exact hS3 _)
                  (first | (refine ins1 W0 _ w.heap.size out _ HOW.out hG0 p HPL.out HNL.out _ _ HLies.out HPC.out rfl rfl rfl rfl ?_; intro v1 w1 hv1 hb1; have hG2 : Below W0.heap.size W0 w1 := hG0.trans (hb1.mono (Nat.le_refl _)); have hS2 : w1.cell? ⟨b, off + k, none⟩ = some (.string ⟨t.toArray⟩) := HLC.out _ hG2; have hS3 : ∀ o : Obj, (w1.alloc o).cell? ⟨b, off + k, none⟩ = some (.string ⟨t.toArray⟩) := fun o => HLC.out _ (hG2.alloc hG2.size o); have HV1 := Lib.hid hv1; clear hv1) | (refine ins1 W0 _ w.heap.size out _ HOW.out (hG1 _) p HPL.out HNL.out _ _ HLies.out HPC.out rfl rfl rfl rfl ?_; intro v1 w1 hv1 hb1; have hT2 : w1.cell? ⟨W0.heap.size, 0, none⟩ = some (.string ⟨t.toArray⟩) := (hb1.cell (p := ⟨W0.heap.size, 0, none⟩) (by simp)).trans (hT1 _); have hG2 : Below W0.heap.size W0 w1 := (hG1 _).trans (hb1.mono (by simp)); have hS2 : w1.cell? ⟨b, off + k, none⟩ = some (.string ⟨t.toArray⟩) := HLC.out _ hG2; have HV1 := Lib.hid hv1; clear hv1) | (refine ins2 W0 _ w.heap.size out _ HOW.out (hG2.alloc hG2.size _) p HPL.out HNL.out _ (HV1.out.alloc _) w1.heap.size t (Boxed.new w1 9 _).cell rfl rfl rfl rfl ?_; intro v2 w2 hv2 hG4; have hS4 : w2.cell? ⟨b, off + k, none⟩ = some (.string ⟨t.toArray⟩) := HLC.out _ hG4; have HV2 := Lib.hid hv2; clear hv2) | (refine ins2 W0 _ w.heap.size out _ HOW.out hG2 p HPL.out HNL.out _ HV1.out W0.heap.size t hT2 rfl rfl rfl rfl ?_; intro v2 w2 hv2 hG4; have hS4 : w2.cell? ⟨b, off + k, none⟩ = some (.string ⟨t.toArray⟩) := HLC.out _ hG4; have HV2 := Lib.hid hv2; clear hv2))
                all_goals
                  go_wp2_with (at_builtin; refine ins3 W0 _ w.heap.size out _ HOW.out hG4 p HPL.out HNL.out _ _ HND.out (by first | rfl | omega) _ _ (p + 1) (by have := HNL.out; have := HPL.out; omega) (by have := HPL.out; first | (simp; done) | (simp; omega)) HV2.out _ HLies.out _ _ (fun g' e h => by first | (exfalso; omega) | (cases e; rfl) | (cases e; rw [add_off, Nat.zero_add])) (fun e => by simp at e) rfl rfl rfl rfl ?_; intro v3 w3 hv3 hG5)
                all_goals
                  go_roundw
                  case rel =>
                    refine ⟨k + 1, by omega, by simp, Lib.hid ?_, HN, HB0.out.trans (hG5.mono HB0.out.size)⟩
                    rw [HX.out]
                    exact own_base hv3 HB0.out.size
                  case measure => simp [intOf]; omega
              · obtain rfl : p = co := by omega
                have hB0 : Below w.heap.size w ((wr.drewN q).drewN nq) := below_drewN hB2 nq
                have hl0 := hc2' nq
                generalize ((wr.drewN q).drewN nq) = W0 at *
                have HB0 := Lib.hid hB0
                have hG0 : Below W0.heap.size W0 W0.drew := (Below.refl _ W0).drew
                have hG1 : ∀ o : Obj, Below W0.heap.size W0 ((W0.alloc o).drew) := fun o => ((Below.refl _ W0).alloc (Nat.le_refl _) o).drew
                have hT1 : ∀ c : Value, ((W0.alloc (.cells #[c] 9)).drew).cell? ⟨W0.heap.size, 0, none⟩ = some c := fun c => (Boxed.new W0 9 c).cell
                have HLC : Hid (∀ W, Below W0.heap.size W0 W → W.cell? ⟨b, off + k, none⟩ = some (.string ⟨t.toArray⟩)) := Lib.hid (fun W h => hcw _ (HB0.out.trans (h.mono HB0.out.size)))
                have hS0 := HLC.out _ hG0
                have hS1 : ∀ o : Obj, ((W0.alloc o).drew).cell? ⟨b, off + k, none⟩ = some (.string ⟨t.toArray⟩) := fun o => HLC.out _ (hG1 o)
                clear hc2' hcw hc1 hc2 hB2 hB hB0 HPl hl0
                go_region_held3 (fun W => W.cell? ⟨b, off + k, none⟩ = some (.string ⟨t.toArray⟩)) (first | exact hS0 | exact hS1 _ | assumption | exact hS3 _)
                  (first | (refine ins1 W0 _ w.heap.size out _ HOW.out hG0 p HPL.out HNL.out _ _ HLies.out HPC.out rfl rfl rfl rfl ?_; intro v1 w1 hv1 hb1; have hG2 : Below W0.heap.size W0 w1 := hG0.trans (hb1.mono (Nat.le_refl _)); have hS2 : w1.cell? ⟨b, off + k, none⟩ = some (.string ⟨t.toArray⟩) := HLC.out _ hG2; have hS3 : ∀ o : Obj, (w1.alloc o).cell? ⟨b, off + k, none⟩ = some (.string ⟨t.toArray⟩) := fun o => HLC.out _ (hG2.alloc hG2.size o); have HV1 := Lib.hid hv1; clear hv1) | (refine ins1 W0 _ w.heap.size out _ HOW.out (hG1 _) p HPL.out HNL.out _ _ HLies.out HPC.out rfl rfl rfl rfl ?_; intro v1 w1 hv1 hb1; have hT2 : w1.cell? ⟨W0.heap.size, 0, none⟩ = some (.string ⟨t.toArray⟩) := (hb1.cell (p := ⟨W0.heap.size, 0, none⟩) (by simp)).trans (hT1 _); have hG2 : Below W0.heap.size W0 w1 := (hG1 _).trans (hb1.mono (by simp)); have hS2 : w1.cell? ⟨b, off + k, none⟩ = some (.string ⟨t.toArray⟩) := HLC.out _ hG2; have HV1 := Lib.hid hv1; clear hv1) | (refine ins2 W0 _ w.heap.size out _ HOW.out (hG2.alloc hG2.size _) p HPL.out HNL.out _ (HV1.out.alloc _) w1.heap.size t (Boxed.new w1 9 _).cell rfl rfl rfl rfl ?_; intro v2 w2 hv2 hG4; have hS4 : w2.cell? ⟨b, off + k, none⟩ = some (.string ⟨t.toArray⟩) := HLC.out _ hG4; have HV2 := Lib.hid hv2; clear hv2) | (refine ins2 W0 _ w.heap.size out _ HOW.out hG2 p HPL.out HNL.out _ HV1.out W0.heap.size t hT2 rfl rfl rfl rfl ?_; intro v2 w2 hv2 hG4; have hS4 : w2.cell? ⟨b, off + k, none⟩ = some (.string ⟨t.toArray⟩) := HLC.out _ hG4; have HV2 := Lib.hid hv2; clear hv2))
                all_goals
                  go_wp2_with (at_builtin; refine ins3 W0 _ w.heap.size out _ HOW.out hG4 p HPL.out HNL.out _ _ HND.out (by first | rfl | omega) _ _ (p + 1) (by have := HNL.out; have := HPL.out; omega) (by have := HPL.out; first | (simp; done) | (simp; omega)) HV2.out _ HLies.out _ _ (fun g' e h => by first | (exfalso; omega) | (cases e; rfl) | (cases e; rw [add_off, Nat.zero_add])) (fun e => by simp at e) rfl rfl rfl rfl ?_; intro v3 w3 hv3 hG5)
                all_goals
                  go_roundw
                  case rel =>
                    refine ⟨k + 1, by omega, by simp, Lib.hid ?_, HN, HB0.out.trans (hG5.mono HB0.out.size)⟩
                    rw [HX.out]
                    exact own_base hv3 HB0.out.size
                  case measure => simp [intOf]; omega
    · obtain rfl : k = len := by omega
      have HE : Hid (insAll (ls.take k) = uniq ls) := Lib.hid (by rw [← HL.out, List.take_length, insAll_eq])
      have hown := HO.out
      rw [HE.out] at hown
      have HU := Lib.hid (uniq_length ls)
      have hul := HU.out
      rw [HL.out] at hul
      have HA : Hid (∀ x ∈ ls, x.length ≤ 100) := Lib.hid (fun x hx => by
        obtain ⟨j, hj, e⟩ := mem_getD hx
        rw [← e]
        exact HH.out j (by rw [← HL.out]; exact hj))
      have hge : ¬ (k : Int) < k := by omega
      obtain ⟨hSt, xo, co, rfl⟩ := strs_own hown
      have HO2 := Lib.hid (lst_own hown)
      by_cases hm : (uniq ls).length ≤ 1000
      · have HP : Hid (∀ w', w' = wr → BuildPost ls w (.returned (.tuple #[.slice xo (uniq ls).length co, .int .i64 0])) w') := Lib.hid (fun w' e => by
          subst e
          exact ⟨hB, .inl ⟨right_uniq.2 ⟨HA.out, hm⟩, _, rfl, HO2.out⟩⟩)
        have hm1 : ¬ (1000 : Int) < (uniq ls).length := by omega
        clear hlt hown HO HE hSt HO2 HU
        generalize (uniq ls).length = n at *
        go_wp2
        go_ret2
        exact HP.out _ rfl
      · have HP : Hid (∀ w', w' = wr → BuildPost ls w (.returned (.tuple #[.slice none 0 0, .int .i64 50])) w') := Lib.hid (fun w' e => by
          subst e
          exact ⟨hB, .inr ⟨fun hr => hm (right_uniq.1 hr).2, rfl⟩⟩)
        have hm1 : (1000 : Int) < (uniq ls).length := by omega
        clear hlt hown HO HE hSt HO2 HU
        generalize (uniq ls).length = n at *
        go_wp2
        go_ret2
        exact HP.out _ rfl
end Go.Proofs.YthoegicchjadaaaDoor
