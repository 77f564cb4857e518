/- FrameFinds: one byte that is another one is found, wherever it is behind the first four, for every text (its first two thousand bytes), place, change. No condition beyond the row's: the package's table of steps lies as start-up laid it (tied to the program's text). -/
import Derived.Test.YtkjiinhcmhoejaaDoorFRow
import Derived.Test.YtkjiinhcmhoejaaDoorFShown
import Derived.Lib.ConvBytes
namespace Go.Proofs.YtkjiinhcmhoejaaDoor.frameFinds
open Go.ChangeShapes Go.WideShapes Go.ChangeAt Go.RowKit Go.Joins

theorem u8_xor (x y : UInt8) : bits .xor .u8 (x.toNat : Int) (y.toNat : Int) = ((x ^^^ y).toNat : Int) := by
  show IntKind.u8.wrap ((BitVec.ofInt 8 x.toNat ^^^ BitVec.ofInt 8 y.toNat).toNat : Int) = _
  have hx := x.toNat_lt
  have hy := y.toNat_lt
  have h := (x ^^^ y).toNat_lt
  rw [UInt8.toNat_xor] at h ⊢
  rw [BitVec.toNat_xor, BitVec.ofInt_natCast, BitVec.ofInt_natCast, BitVec.toNat_ofNat, BitVec.toNat_ofNat, Nat.mod_eq_of_lt (show x.toNat < 2 ^ 8 by omega), Nat.mod_eq_of_lt (show y.toNat < 2 ^ 8 by omega), u8_wrap]
  omega
theorem xor_other {x y : UInt8} (h : y.toNat ≠ 0) : x ^^^ y ≠ x := by
  intro e
  have e1 := congrArg UInt8.toNat e
  rw [UInt8.toNat_xor] at e1
  have e2 := congrArg (x.toNat ^^^ ·) e1
  simp only [← Nat.xor_assoc, Nat.xor_self, Nat.zero_xor] at e2
  exact h e2

set_option maxRecDepth 100000 in
set_option maxHeartbeats 4000000 in
theorem walk (l : List UInt8) (hl : l.length ≤ 9223372036854775807) (k : Int) (hk1 : -9223372036854775808 ≤ k) (hk2 : k ≤ 9223372036854775807) (x : UInt8) (w : World) (hT : Tab w) :
    Calls Tryd.prog 6 #[.string ⟨l.toArray⟩, .int .i64 k, .int .u8 (x.toNat : Int)] w fun e w' => e = .returned (.bool true) ∧ Below w.heap.size w w' := by
  have hcl : (l.take 2000).length ≤ 2000 := List.length_take_le _ _
  have HC := Lib.hid (cut_any l)
  generalize l.take 2000 = c at *
  have HM := Lib.hid (fun w' h => make_any c (by omega) w' h)
  have hfl := frameB_length c
  by_cases hin : 4 ≤ k ∧ k < (frameB c).length ∧ x.toNat ≠ 0
  · obtain ⟨n, rfl⟩ : ∃ n : Nat, k = n := ⟨k.toNat, by omega⟩
    have hn4 : 4 ≤ n := by omega
    have hn : n < (frameB c).length := by omega
    have hx0 := hin.2.2
    have hget : (frameB c)[n]? = some ((frameB c).getD n 0) := by rw [List.getD_eq_getElem?_getD, List.getElem?_eq_getElem hn]; rfl
    have hcode := read_set c (by omega) n hn4 hn ((frameB c).getD n 0 ^^^ x) (by rw [hget]; intro e; exact xor_other hx0 (Option.some.inj e).symm)
    have HR := Lib.hid (fun w' h => read_any ((frameB c).set n ((frameB c).getD n 0 ^^^ x)) (by rw [List.length_set]; omega) w' h)
    unfold RPost at HR
    rw [rbytes_bad (by rw [hcode]; decide), rrest_bad (by rw [hcode]; decide), hcode] at HR
    have hfm : (frameB c).length ≤ 2008 := by omega
    have hxor := u8_xor ((frameB c).getD n 0) x
    have HF := Lib.hid hget
    clear hcode hfl hget
    generalize frameB c = f at *
    generalize f.getD n 0 = y at *
    have hne : ((x.toNat : Int) == 0) = false := by simp; omega
    have hnl : (n : Int) < f.length := by omega
    have hn4' : (4 : Int) ≤ n := by omega
    clear hin hx0
    go_enter Tryd.func6, Tryd.ntmps6
    go_wp2_with fail
    refine (shown_any _ hT).mono ?_
    rintro e w1 ⟨rfl, hB1⟩
    go_wp2_with fail
    refine (HC.out _).mono ?_
    rintro e w' ⟨rfl, rfl⟩
    go_wp2_with fail
    refine (HM.out _ (hT.below hB1)).mono ?_
    rintro e w2 ⟨rfl, hb2⟩
    have hB2 := hB1.trans (hb2.mono hB1.size)
    clear hb2
    have hcv := Lib.run_convert_string_bytes (P := Tryd.prog) w2 9 40 5 ⟨f.toArray⟩ Tryd.underlying9 Tryd.underlying40 Tryd.underlying5
    have hbw := below_bytes w2 5 ⟨f.toArray⟩
    have hfs : (⟨f.toArray⟩ : ByteArray).size = f.length := by simp [ByteArray.size]
    have hcell : Hid (∀ j, j < f.length → (Lib.bytesWorld w2 5 ⟨f.toArray⟩).cell? ⟨w2.heap.size, j, none⟩ = some (.int .u8 ((f.getD j 0).toNat : Nat))) := Lib.hid (fun j hj => Lib.bytesWorld_cell w2 _ _ j (by rw [hfs]; exact hj))
    have hnew := Lib.bytesWorld_at_new w2 5 ⟨f.toArray⟩
    have hsz := Lib.bytesWorld_size w2 5 ⟨f.toArray⟩
    rw [hfs] at hcv
    have hfz : (Lib.bytesWorld w2 5 ⟨f.toArray⟩).frozen? ⟨w2.heap.size, n, none⟩ = false := by
      have hs : n < (Lib.bytesCells w2 5 ⟨f.toArray⟩).size := by
        unfold Lib.bytesCells
        simp
        omega
      unfold World.frozen?
      rw [hnew]
      simp
      omega
    clear hnew hfs
    generalize grownCap w2 f.length 0 5 = cap at *
    generalize Lib.bytesWorld w2 5 ⟨f.toArray⟩ = w3 at *
    have hB3 : Below w.heap.size w w3 := hB2.trans (hbw.mono hB2.size)
    have c3 : w3.cell? ⟨w2.heap.size, n, none⟩ = some (.int .u8 (y.toNat : Nat)) := by
      have h := hcell.out n hn
      rw [List.getD_eq_getElem?_getD, HF.out] at h
      exact h
    have hcells : Hid (∀ (j : Nat) (hj : j < (f.set n (y ^^^ x)).length), (w3.setCell ⟨w2.heap.size, n, none⟩ (.int .u8 ((y ^^^ x).toNat : Int))).cell? ⟨w2.heap.size, j, none⟩ = some (.int .u8 ((f.set n (y ^^^ x))[j].toNat : Int))) := Lib.hid (fun j hj => by
      have hj' : j < f.length := by simpa using hj
      by_cases e : j = n
      · subst e
        rw [World.cell?_setCell_same _ _ _ c3]
        simp
      · rw [World.cell?_setCell_other _ _ _ _ (fun h => e (by cases h; rfl)), hcell.out j hj', List.getElem_set_ne (by omega), List.getD_eq_getElem?_getD, List.getElem?_eq_getElem hj']
        rfl)
    have hB4 : Below w.heap.size w (w3.setCell ⟨w2.heap.size, n, none⟩ (.int .u8 ((y ^^^ x).toNat : Int))) := hB3.setCell (p := ⟨w2.heap.size, n, none⟩) hB2.size _
    have hcv2 : Hid (∀ W : World, (∀ (j : Nat) (hj : j < (f.set n (y ^^^ x)).length), W.cell? ⟨w2.heap.size, j, none⟩ = some (.int .u8 ((f.set n (y ^^^ x))[j].toNat : Int))) → (convert 40 9 (.slice (some ⟨w2.heap.size, 0, none⟩) f.length cap)).run Tryd.prog W = .ok (.string ⟨(f.set n (y ^^^ x)).toArray⟩) W) := Lib.hid (fun W h => by
      have := conv_cells (f.set n (y ^^^ x)) cap W w2.heap.size h
      rwa [List.length_set] at this)
    generalize f.set n (y ^^^ x) = g at *
    generalize y ^^^ x = z at *
    have hsz4 : (w3.setCell ⟨w2.heap.size, n, none⟩ (.int .u8 (z.toNat : Int))).heap.size = w2.heap.size + 1 := by
      rw [← hsz]
      simp [World.setCell]
    have hcv4 := hcv2.out _ hcells.out
    clear hcell HF
    go_wp2_with fail
    refine (HR.out _ (hT.below hB4)).mono ?_
    rintro e w5 ⟨rfl, hb5⟩
    have hB5 := hB4.trans (hb5.mono hB4.size)
    have hcv5 := hcv2.out w5 (fun j hj => (hb5.cell (p := ⟨w2.heap.size, j, none⟩) (by rw [hsz4]; exact Nat.lt_succ_self _)).trans (hcells.out j hj))
    clear hcv hcv4
    go_wp2
    go_ret
    exact ⟨rfl, hB5⟩
  · have hout : k < 4 ∨ ((frameB c).length ≤ k ∧ 4 ≤ k) ∨ (x.toNat = 0 ∧ 4 ≤ k ∧ k < (frameB c).length) := by omega
    clear hin
    generalize frameB c = f at *
    rcases hout with h | ⟨h, h4⟩ | ⟨h, h4, h5⟩
    · go_enter Tryd.func6, Tryd.ntmps6
      go_wp2_with fail
      refine (shown_any _ hT).mono ?_
      rintro e w1 ⟨rfl, hB1⟩
      go_wp2_with fail
      refine (HC.out _).mono ?_
      rintro e w' ⟨rfl, rfl⟩
      go_wp2_with fail
      refine (HM.out _ (hT.below hB1)).mono ?_
      rintro e w2 ⟨rfl, hb2⟩
      have hB2 := hB1.trans (hb2.mono hB1.size)
      go_wp2
      go_ret
      exact ⟨rfl, hB2⟩
    · go_enter Tryd.func6, Tryd.ntmps6
      go_wp2_with fail
      refine (shown_any _ hT).mono ?_
      rintro e w1 ⟨rfl, hB1⟩
      go_wp2_with fail
      refine (HC.out _).mono ?_
      rintro e w' ⟨rfl, rfl⟩
      go_wp2_with fail
      refine (HM.out _ (hT.below hB1)).mono ?_
      rintro e w2 ⟨rfl, hb2⟩
      have hB2 := hB1.trans (hb2.mono hB1.size)
      go_wp2
      go_ret
      exact ⟨rfl, hB2⟩
    · have hx0 : (x.toNat : Int) = 0 := by omega
      rw [hx0]
      go_enter Tryd.func6, Tryd.ntmps6
      go_wp2_with fail
      refine (shown_any _ hT).mono ?_
      rintro e w1 ⟨rfl, hB1⟩
      go_wp2_with fail
      refine (HC.out _).mono ?_
      rintro e w' ⟨rfl, rfl⟩
      go_wp2_with fail
      refine (HM.out _ (hT.below hB1)).mono ?_
      rintro e w2 ⟨rfl, hb2⟩
      have hB2 := hB1.trans (hb2.mono hB1.size)
      go_wp2
      go_ret
      exact ⟨rfl, hB2⟩

set_option maxRecDepth 100000 in
set_option maxHeartbeats 1000000 in
theorem lifted (os : Os) (started : os.Started) (H : Type) (enc : TypeId × Value → H) :
    ReturnsInHanded {} Tryd.checked os 6 .any (fun w args => (Rows.frameFindsSpec.pre enc Tryd.prog Tryd.f6 [] false w args ∧ laidMetH Tryd.prog laid1 w) ∧ sizedMet enc Tryd.prog Tryd.f6 (OpenSpec.ofChange Rows.frameFindsSpec) false w args)
      (Rows.frameFindsSpec.post enc Tryd.prog Tryd.f6 false true false false) := by
  refine returnsInHanded_of_change_and (C := Tryd.checked) (X := fun w _ => laidMetH Tryd.prog laid1 w) (fun _ _ _ hh h => h.of_heap hh) own started (by kernel_rfl) Tryd.func6
    (ChangeSpec.witness_shaped (enc := enc) (C := Tryd.checked) (os := os) (X := fun w _ => laidMetH Tryd.prog laid1 w) false (World.doorLaid Tryd.prog 14 os) #[.string ⟨#[]⟩, .int .i64 0, .int .u8 0] 8 rfl (World.shaped_of_RefB (by kernel_rfl) (by kernel_rfl)) (by kernel_rfl) (by kernel_rfl) (by kernel_rfl) (door_met os _)) ?_
  intro W base args ds gs before hval0 hW _ _ hL _
  rw [laid_plain] at hL
  have hT := tab_of_laid hL
  have hval : ∀ (j : Nat) t v, Tryd.f6.params[j]? = some t → args[j]? = some v → Value.okWide Tryd.prog W .any base t v := hval0
  have hW' := hW
  obtain ⟨p, q, hA0, hV, rfl, hfz, hnd⟩ := hW
  have hA : DataW.TrodAll enc Tryd.prog W 0 (fun _ => true) true Tryd.f6.params.toList args.toList ds p := hA0
  rw [Tryd.params6] at hA hval
  obtain ⟨v0, vs0, d0, ds0, p0, q0, hargs, rfl, rfl, h0, r0⟩ := trodAll_cons hA
  obtain ⟨v1, vs1, d1, ds1, p1, q1, rfl, rfl, rfl, h1, r1⟩ := trodAll_cons r0
  obtain ⟨v2, vs2, d2, ds2, p2, q2, rfl, rfl, rfl, h2, r2⟩ := trodAll_cons r1
  obtain ⟨rfl, rfl, rfl⟩ := trodAll_nil r2
  obtain rfl : args = #[v0, v1, v2] := by cases args; simp_all
  obtain ⟨rfl, rfl⟩ := trodVars_none hV
  obtain ⟨z0, rfl, l0, rfl, hr0⟩ := open_text (hval 0 9 v0 rfl rfl) h0
  obtain ⟨a1, rfl, rfl, rfl, w1⟩ := open_int Tryd.underlying3 (hval 1 3 v1 rfl rfl) h1
  obtain ⟨l1, u1⟩ := i64_of_wf w1
  obtain ⟨a2, rfl, rfl, rfl, w2⟩ := open_int Tryd.underlying5 (hval 2 5 v2 rfl rfl) h2
  obtain ⟨m2, rfl⟩ := u8_of_wf w2
  clear hA0 hval0
  simp only [List.append_nil] at hW'
  refine (walk z0 l0 a1 l1 u1 m2 W hT).mono fun e W' ⟨he, hg⟩ => ?_
  subst he
  exact ⟨_, rfl, post_below (pa := []) (pv := []) hW' (fun _ _ _ => (trodAll_cons_mk (shut_bool Tryd.underlying4 _) trodAll_mk0)) (fun sp hsp => (trodAll_cons_mk (hr0 _ _ _ _) (trodAll_cons_mk (shut_int Tryd.underlying3 w1) (trodAll_cons_mk (shut_int Tryd.underlying5 w2) trodAll_mk0)))) (fun _ _ => rfl) rfl
    hg (ok_one (by kernel_rfl) rfl (okWide_bool_mk Tryd.underlying4 _))⟩

theorem over : Rows.FrameFindsSaid :=
  OpenClaim.holds_of_wide 6 Tryd.f6 rfl rfl rfl rfl rfl rfl rfl ⟨rfl, rfl, rfl, rfl, rfl⟩ rfl rfl rfl rfl rfl (by kernel_rfl) Tryd.func6 (by kernel_rfl)
    (of_decide_eq_true (by kernel_rfl)) (by unfold Func.isWrapper; first | (rw [if_pos (by decide +kernel)]; kernel_rfl) | (rw [if_neg (by decide +kernel)]; exact ⟨rfl, rfl⟩))
    (fun os started H enc _ => lifted os started H enc)

/-- The statement: the tied card. -/
theorem proved : Rows.FrameFindsCardSaid :=
  Claim7.holds_tied_plain_at .later [] [.data] true _ false
    over (fun _ h => by cases h) (by kernel_rfl) (fun _ h => by cases h) frameFinds_row_tie rfl ⟨rfl, rfl⟩ (by kernel_rfl) rfl
    (fun f fn hf hfn => by
      obtain rfl : f = 6 := Option.some.inj ((show Tryd.prog.funcNamed "tesserae/tesseraelaw03.FrameFinds" = some 6 by kernel_rfl).symm.trans hf) |>.symm
      obtain rfl : fn = Tryd.f6 := (Option.some.inj (Tryd.func6.symm.trans hfn)).symm
      exact ⟨by kernel_rfl, fun j t ht => by
        rw [Tryd.params6] at ht
        have hm : t ∈ [9, 3, 5] := by simpa using Array.mem_of_getElem? ht
        have hall : ([9, 3, 5].all fun u => !Tryd.prog.wantsStandIn u) = true := by kernel_rfl
        exact (show Tryd.prog.wantsStandIn t = false by simpa using List.all_eq_true.1 hall t hm)⟩)
    (by kernel_rfl)
#print axioms proved
end Go.Proofs.YtkjiinhcmhoejaaDoor.frameFinds
