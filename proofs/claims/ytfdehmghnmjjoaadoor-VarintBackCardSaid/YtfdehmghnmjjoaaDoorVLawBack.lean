/- VarintBack: numbers and varints are one to one, whatever stands behind; so are turned numbers: for every number, text (its first two thousand bytes), number with a sign. No condition beyond the row's: the package's two errors lie as start-up laid them (tied to the program's text). -/
import Derived.Test.YtfdehmghnmjjoaaDoorVRow
import Derived.Test.YtfdehmghnmjjoaaDoorVShown
namespace Go.Proofs.YtfdehmghnmjjoaaDoor.varintBack
open Go.ChangeShapes Go.WideShapes Go.ChangeAt Go.RowKit Go.Joins

set_option maxRecDepth 100000 in
set_option maxHeartbeats 4000000 in
theorem walk {n₀ : Nat} (a b : Addr) (n : Nat) (hn : n < 18446744073709551616) (l : List UInt8) (hl : l.length ≤ 9223372036854775807) (m : Int) (hm1 : -9223372036854775808 ≤ m) (hm2 : m ≤ 9223372036854775807) (w : World) (hS : Sent n₀ w a b) (hn₀ : n₀ ≤ w.heap.size) :
    Calls Tryd.prog 4 #[.int .u64 n, .string ⟨l.toArray⟩, .int .i64 m] w fun e w' => e = .returned (.bool true) ∧ Below w.heap.size w w' := by
  have hcl : (l.take 2000).length ≤ 2000 := List.length_take_le _ _
  obtain ⟨g1, g2, g3⟩ := put_get hn (l.take 2000)
  have hpl := length_put hn
  have hpp := length_put_pos n
  have hgp := fun h : vcode (l.take 2000) = 0 => get_put h
  have hgn := vnum_lt (l.take 2000)
  have hgs : ((l.take 2000).drop (vsize (l.take 2000))).length ≤ 2000 := by simp; omega
  have hcc := vcode_cases (l.take 2000)
  have hcut := cut_any l
  have hget0 := fun (w' : World) (h1 : Sent n₀ w' a b) (h2 : n₀ ≤ w'.heap.size) => get_any a b (vput n ++ l.take 2000) (by simp; omega) w' h1 h2
  have hget1 := fun (w' : World) (h1 : Sent n₀ w' a b) (h2 : n₀ ≤ w'.heap.size) => get_any a b (l.take 2000) (by omega) w' h1 h2
  have hput0 := put1_any n hn
  have hput1 := put1_any (vnum (l.take 2000)) hgn
  have hglen := length_put hgn
  unfold GetPost at hget0 hget1
  rw [g1, g2, g3, List.drop_left' rfl] at hget0
  have hadd0 : ∀ W : World, (Op.stringOp .add ⟨(vput n).toArray⟩ ⟨(l.take 2000).toArray⟩).run Tryd.prog W = .ok (.string ⟨(vput n ++ l.take 2000).toArray⟩) W := fun W => by
    rw [run_string_add_sum W _ _ (by simp [ByteArray.size]; omega), app_mk]
  have hadd1 : ∀ W : World, (Op.stringOp .add ⟨(vput (vnum (l.take 2000))).toArray⟩ ⟨((l.take 2000).drop (vsize (l.take 2000))).toArray⟩).run Tryd.prog W = .ok (.string ⟨(vput (vnum (l.take 2000)) ++ (l.take 2000).drop (vsize (l.take 2000))).toArray⟩) W := fun W => by
    rw [run_string_add_sum W _ _ (by simp [ByteArray.size] at hgs ⊢; omega), app_mk]
  have HG0 := Lib.hid hget0; have HG1 := Lib.hid hget1; have HP0 := Lib.hid hput0; have HP1 := Lib.hid hput1; have HC := Lib.hid hcut; have HGP := Lib.hid hgp
  clear hget0 hget1 hput0 hput1 hcut hgp g1 g2 g3 hgs hgn hglen
  generalize vcode (l.take 2000) = gc at *
  generalize vnum (l.take 2000) = gn at *
  generalize (l.take 2000).drop (vsize (l.take 2000)) = gr at *
  generalize vput gn = gp at *
  generalize hc : l.take 2000 = c at *
  clear hc
  have HT := Lib.hid (turn_any m hm1 hm2)
  have htl := turn_lo hm1 hm2
  have HTB : Hid (backOf (turnOf m) = m) := Lib.hid (back_turn m)
  have HBT : Hid (turnOf (backOf (n : Int)) = n) := Lib.hid (turn_back (by omega))
  have hbl := back_lo (n := n) (by omega) (by omega)
  have HB1 := Lib.hid (back_any (turnOf m) htl.1 htl.2)
  have HB2 := Lib.hid (back_any (n : Int) (by omega) (by omega))
  have HT2 := Lib.hid (turn_any (backOf (n : Int)) hbl.1 hbl.2)
  rw [HTB.out] at HB1
  rw [HBT.out] at HT2
  clear HTB HBT htl hbl
  generalize turnOf m = tm at *
  generalize backOf (n : Int) = bn at *
  go_enter Tryd.func4, Tryd.ntmps4
  go_wp2_with fail
  refine (shown_any a b _ hS hn₀).mono ?_
  rintro e w1 ⟨rfl, hB1⟩
  go_wp2_with fail
  refine (HP0.out _).mono ?_
  rintro e w2 ⟨rfl, hb2⟩
  have hB2 := hB1.trans (hb2.mono hB1.size)
  go_wp2_with fail
  refine (HC.out _).mono ?_
  rintro e w' ⟨rfl, rfl⟩
  generalize hp : vput n = p at *
  go_wp2_with fail
  refine (HG0.out _ (hS.below (hB2.mono hn₀)) (Nat.le_trans hn₀ hB2.size)).mono ?_
  rintro e w3 ⟨rfl, hb3⟩
  have hB3 := hB2.trans (hb3.mono hB2.size)
  go_wp2_with fail
  refine (HC.out _).mono ?_
  rintro e w' ⟨rfl, rfl⟩
  go_wp2_with fail
  refine (HG1.out _ (hS.below (hB3.mono hn₀)) (Nat.le_trans hn₀ hB3.size)).mono ?_
  rintro e w4 ⟨rfl, hb4⟩
  have hB4 := hB3.trans (hb4.mono hB3.size)
  clear hb2 hb3 hb4 HG0 HG1 HP0
  have hp1 : (p.length : Int) ≤ 10 := by omega
  have hp2 : (1 : Int) ≤ p.length := by omega
  clear hpl hpp
  rcases hcc with h0 | h0
  · subst h0
    have hgp := HGP.out rfl
    rw [hgp] at hadd1
    clear hgp
    go_wp2_with fail
    refine (HP1.out _).mono ?_
    rintro e w5 ⟨rfl, hb5⟩
    have hB5 := hB4.trans (hb5.mono hB4.size)
    clear hb5
    go_wp2_with fail
    refine (HC.out _).mono ?_
    rintro e w' ⟨rfl, rfl⟩
    go_wp2_with fail
    refine (HC.out _).mono ?_
    rintro e w' ⟨rfl, rfl⟩
    go_wp2_with fail
    refine (HT.out _).mono ?_
    rintro e w' ⟨rfl, rfl⟩
    go_wp2_with fail
    refine (HB1.out _).mono ?_
    rintro e w' ⟨rfl, rfl⟩
    go_wp2_with fail
    refine (HB2.out _).mono ?_
    rintro e w' ⟨rfl, rfl⟩
    go_wp2_with fail
    refine (HT2.out _).mono ?_
    rintro e w' ⟨rfl, rfl⟩
    go_wp2
    go_ret
    exact ⟨rfl, hB5⟩
  · have hne : (gc == 0) = false := by simp; omega
    clear h0
    go_wp2_with fail
    refine (HC.out _).mono ?_
    rintro e w' ⟨rfl, rfl⟩
    go_wp2_with fail
    refine (HT.out _).mono ?_
    rintro e w' ⟨rfl, rfl⟩
    go_wp2_with fail
    refine (HB1.out _).mono ?_
    rintro e w' ⟨rfl, rfl⟩
    go_wp2_with fail
    refine (HB2.out _).mono ?_
    rintro e w' ⟨rfl, rfl⟩
    go_wp2_with fail
    refine (HT2.out _).mono ?_
    rintro e w' ⟨rfl, rfl⟩
    go_wp2
    go_ret
    exact ⟨rfl, hB4⟩

set_option maxRecDepth 100000 in
set_option maxHeartbeats 1000000 in
theorem lifted (os : Os) (started : os.Started) (H : Type) (enc : TypeId × Value → H) :
    ReturnsInHanded {} Tryd.checked os 4 .any (fun w args => (Rows.varintBackSpec.pre enc Tryd.prog Tryd.f4 [] false w args ∧ laidMetH Tryd.prog laid2 w) ∧ sizedMet enc Tryd.prog Tryd.f4 (OpenSpec.ofChange Rows.varintBackSpec) false w args)
      (Rows.varintBackSpec.post enc Tryd.prog Tryd.f4 false true false false) := by
  refine returnsInHanded_of_change_and (C := Tryd.checked) (X := fun w _ => laidMetH Tryd.prog laid2 w) (fun _ _ _ hh h => h.of_heap hh) own started (by kernel_rfl) Tryd.func4
    (ChangeSpec.witness_shaped (enc := enc) (C := Tryd.checked) (os := os) (X := fun w _ => laidMetH Tryd.prog laid2 w) false (World.doorLaid Tryd.prog 47 os) #[.int .u64 0, .string ⟨#[]⟩, .int .i64 0] 8 rfl (World.shaped_of_RefB (by kernel_rfl) (by kernel_rfl)) (by kernel_rfl) (by kernel_rfl) (by kernel_rfl) (door_met os _)) ?_
  intro W base args ds gs before hval0 hW _ _ hL _
  rw [laid_plain] at hL
  obtain ⟨a, b, hS⟩ := sent_of_laid hL
  have hval : ∀ (j : Nat) t v, Tryd.f4.params[j]? = some t → args[j]? = some v → Value.okWide Tryd.prog W .any base t v := hval0
  have hW' := hW
  obtain ⟨p, q, hA0, hV, rfl, hfz, hnd⟩ := hW
  have hA : DataW.TrodAll enc Tryd.prog W 0 (fun _ => true) true Tryd.f4.params.toList args.toList ds p := hA0
  rw [Tryd.params4] at hA hval
  obtain ⟨v0, vs0, d0, ds0, p0, q0, hargs, rfl, rfl, h0, r0⟩ := trodAll_cons hA
  obtain ⟨v1, vs1, d1, ds1, p1, q1, rfl, rfl, rfl, h1, r1⟩ := trodAll_cons r0
  obtain ⟨v2, vs2, d2, ds2, p2, q2, rfl, rfl, rfl, h2, r2⟩ := trodAll_cons r1
  obtain ⟨rfl, rfl, rfl⟩ := trodAll_nil r2
  obtain rfl : args = #[v0, v1, v2] := by cases args; simp_all
  obtain ⟨rfl, rfl⟩ := trodVars_none hV
  obtain ⟨a0, rfl, rfl, rfl, w0⟩ := open_int Tryd.underlying22 (hval 0 22 v0 rfl rfl) h0
  obtain ⟨m0, rfl, u0⟩ := u64_of_wf w0
  obtain ⟨z1, rfl, l1, rfl, hr1⟩ := open_text (hval 1 9 v1 rfl rfl) h1
  obtain ⟨a2, rfl, rfl, rfl, w2⟩ := open_int Tryd.underlying2 (hval 2 2 v2 rfl rfl) h2
  obtain ⟨l2, u2⟩ := i64_of_wf w2
  clear hA0 hval0
  simp only [List.append_nil] at hW'
  refine (walk a b m0 u0 z1 l1 a2 l2 u2 W hS (Nat.le_refl _)).mono fun e W' ⟨he, hg⟩ => ?_
  subst he
  exact ⟨_, rfl, post_below (pa := []) (pv := []) hW' (fun _ _ _ => (trodAll_cons_mk (shut_bool Tryd.underlying4 _) trodAll_mk0)) (fun sp hsp => (trodAll_cons_mk (shut_int Tryd.underlying22 w0) (trodAll_cons_mk (hr1 _ _ _ _) (trodAll_cons_mk (shut_int Tryd.underlying2 w2) trodAll_mk0)))) (fun _ _ => rfl) rfl
    hg (ok_one (by kernel_rfl) rfl (okWide_bool_mk Tryd.underlying4 _))⟩

theorem over : Rows.VarintBackSaid :=
  OpenClaim.holds_of_wide 4 Tryd.f4 rfl rfl rfl rfl rfl rfl rfl ⟨rfl, rfl, rfl, rfl, rfl⟩ rfl rfl rfl rfl rfl (by kernel_rfl) Tryd.func4 (by kernel_rfl)
    (of_decide_eq_true (by kernel_rfl)) (by unfold Func.isWrapper; first | (rw [if_pos (by decide +kernel)]; kernel_rfl) | (rw [if_neg (by decide +kernel)]; exact ⟨rfl, rfl⟩))
    (fun os started H enc _ => lifted os started H enc)

/-- The statement: the tied card. -/
theorem proved : Rows.VarintBackCardSaid :=
  Claim7.holds_tied_plain_at .later [] [.sentinel, .sentinel] true _ true
    over (fun _ h => by cases h) (by kernel_rfl) (fun _ h => by cases h) varintBack_row_tie rfl ⟨rfl, rfl⟩ (by kernel_rfl) rfl
    (fun f fn hf hfn => by
      obtain rfl : f = 4 := Option.some.inj ((show Tryd.prog.funcNamed "tesserae/tesseraelaw02.VarintBack" = some 4 by kernel_rfl).symm.trans hf) |>.symm
      obtain rfl : fn = Tryd.f4 := (Option.some.inj (Tryd.func4.symm.trans hfn)).symm
      exact ⟨by kernel_rfl, fun j t ht => by
        rw [Tryd.params4] at ht
        have hm : t ∈ [22, 9, 2] := by simpa using Array.mem_of_getElem? ht
        have hall : ([22, 9, 2].all fun u => !Tryd.prog.wantsStandIn u) = true := by kernel_rfl
        exact (show Tryd.prog.wantsStandIn t = false by simpa using List.all_eq_true.1 hall t hm)⟩)
    (by kernel_rfl)
#print axioms proved
end Go.Proofs.YtfdehmghnmjjoaaDoor.varintBack
