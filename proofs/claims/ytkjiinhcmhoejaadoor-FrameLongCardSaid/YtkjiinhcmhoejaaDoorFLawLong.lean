/- FrameLong: sixty thousand bytes make a frame, more do not: for any number of bytes (59990 to 60010), byte. No condition beyond the row's: the package's table of steps lies as start-up laid it (tied to the program's text). -/
import Derived.Test.YtkjiinhcmhoejaaDoorFRow
import Derived.Test.YtkjiinhcmhoejaaDoorFShown
import Derived.Test.YtkjiinhcmhoejaaDoorFBytes
namespace Go.Proofs.YtkjiinhcmhoejaaDoor.frameLong
open Go.ChangeShapes Go.WideShapes Go.ChangeAt Go.RowKit Go.Joins

theorem conv_eight (y z : UInt8) (W : World) :
    (convert 40 9 (.slice (some ⟨W.heap.size, 0, none⟩) 8 8)).run Tryd.prog (W.alloc (.cells #[.int .u8 0, .int .u8 0, .int .u8 (y.toNat : Int), .int .u8 (z.toNat : Int), .int .u8 0, .int .u8 0, .int .u8 0, .int .u8 0] 5)) = .ok (.string ⟨[0, 0, y, z, 0, 0, 0, 0].toArray⟩) (W.alloc (.cells #[.int .u8 0, .int .u8 0, .int .u8 (y.toNat : Int), .int .u8 (z.toNat : Int), .int .u8 0, .int .u8 0, .int .u8 0, .int .u8 0] 5)) :=
  conv_cells [0, 0, y, z, 0, 0, 0, 0] 8 _ W.heap.size (fun j hj => ((Blk.new W 5 _).cell j).trans (match j, hj with
    | 0, _ => rfl
    | 1, _ => rfl
    | 2, _ => rfl
    | 3, _ => rfl
    | 4, _ => rfl
    | 5, _ => rfl
    | 6, _ => rfl
    | 7, _ => rfl))
theorem head_code (n : Nat) (y z : UInt8) (g : List UInt8) (h1 : 60000 < n) (hy : y.toNat = n / 256) (hz : z.toNat = n % 256) : rcode ([0, 0, y, z, 0, 0, 0, 0] ++ g) = 30 := by
  refine rcode_big (by simp) ?_
  show 60000 < num4 (0 :: 0 :: y :: z :: ([0, 0, 0, 0] ++ g))
  rw [num4_at, hy, hz]
  simp only [UInt8.toNat_zero]
  omega

set_option maxRecDepth 100000 in
set_option maxHeartbeats 8000000 in
theorem walk (k : Int) (hk1 : -9223372036854775808 ≤ k) (hk2 : k ≤ 9223372036854775807) (x : UInt8) (w : World) (hT : Tab w) :
    Calls Tryd.prog 8 #[.int .i64 k, .int .u8 (x.toNat : Int)] w fun e w' => e = .returned (.bool true) ∧ Below w.heap.size w w' := by
  by_cases hlo : k < 59990
  · go_enter Tryd.func8, Tryd.ntmps8
    go_wp2_with fail
    refine (shown_any _ hT).mono ?_
    rintro e w1 ⟨rfl, hB1⟩
    go_wp2
    go_ret
    exact ⟨rfl, hB1⟩
  by_cases hhi : 60010 < k
  · have hlo' : 59990 ≤ k := by omega
    go_enter Tryd.func8, Tryd.ntmps8
    go_wp2_with fail
    refine (shown_any _ hT).mono ?_
    rintro e w1 ⟨rfl, hB1⟩
    go_wp2
    go_ret
    exact ⟨rfl, hB1⟩
  obtain ⟨n, rfl⟩ : ∃ n : Nat, k = n := ⟨k.toNat, by omega⟩
  have hn1 : 59990 ≤ n := by omega
  have hn2 : n ≤ 60010 := by omega
  have hlo' : (59990 : Int) ≤ n := by omega
  have hhi' : (n : Int) ≤ 60010 := by omega
  have hmk := make_u8 n (by omega)
  clear hlo hhi hk1 hk2
  -- the bytes: x, then zeros
  have hlen : ((List.replicate n (0 : UInt8)).set 0 x).length = n := by simp
  have hBy : ∀ W : World, Bytes ((List.replicate n (0 : UInt8)).set 0 x) ((zeros n).setIfInBounds 0 (.int .u8 (x.toNat : Int))) := fun _ => (bytes_zeros n).set (by rw [List.length_replicate, zeros_size]; exact Nat.le_refl _) 0 x
  have hz0 := zeros_at (n := n) (j := 0) (by omega)
  go_enter Tryd.func8, Tryd.ntmps8
  go_wp2_with fail
  refine (shown_any _ hT).mono ?_
  rintro e w1 ⟨rfl, hB1⟩
  have b1 := Blk.new w1 5 (zeros n)
  have c1 := b1.cell 0
  rw [hz0] at c1
  have f1 := b1.frozen 0
  have b2 := Blk.new w1 5 ((zeros n).setIfInBounds 0 (.int .u8 (x.toNat : Int)))
  have hB2 : Below w.heap.size w (w1.alloc (.cells ((zeros n).setIfInBounds 0 (.int .u8 (x.toNat : Int))) 5)) := hB1.alloc hB1.size _
  have v2 := conv_blk (c := n) hlen (hBy w) b2
  have HV : Hid (∀ W : World, Blk W w1.heap.size 5 ((zeros n).setIfInBounds 0 (.int .u8 (x.toNat : Int))) → (convert 40 9 (.slice (some ⟨w1.heap.size, 0, none⟩) n n)).run Tryd.prog W = .ok (.string ⟨((List.replicate n (0 : UInt8)).set 0 x).toArray⟩) W) := Lib.hid (fun W h => conv_blk (c := n) hlen (hBy w) h)
  clear hBy
  generalize (List.replicate n (0 : UInt8)).set 0 x = g at *
  by_cases hbig : 60000 < n
  · have hbig' : (60000 : Int) < n := by omega
    have HM := Lib.hid (fun W => make_bad g (by omega) (by omega) W)
    obtain ⟨y, hy⟩ : ∃ y : UInt8, y.toNat = n / 256 := ⟨UInt8.ofNat (n / 256), ofNat_toNat _ (by omega)⟩
    obtain ⟨z, hz⟩ : ∃ z : UInt8, z.toNat = n % 256 := ⟨UInt8.ofNat (n % 256), ofNat_toNat _ (by omega)⟩
    have hcode := head_code n y z g hbig hy hz
    have HR := Lib.hid (fun W h => read_any ([0, 0, y, z, 0, 0, 0, 0] ++ g) (by simp; omega) W h)
    unfold RPost at HR
    rw [rbytes_bad (by rw [hcode]; decide), rrest_bad (by rw [hcode]; decide), hcode] at HR
    have hadd : ∀ W : World, (Op.stringOp .add ⟨[0, 0, y, z, 0, 0, 0, 0].toArray⟩ ⟨g.toArray⟩).run Tryd.prog W = .ok (.string ⟨([0, 0, y, z, 0, 0, 0, 0] ++ g).toArray⟩) W := fun W => by
      rw [run_string_add_sum W _ _ (by simp [ByteArray.size]; omega), app_mk]
    have he1 : (n : Int) / 256 = (y.toNat : Int) := by omega
    have he2 : (n : Int) % 256 = (z.toNat : Int) := by omega
    have he3 : (n : Int) / 256 % 256 = (y.toNat : Int) := by omega
    have h8 := conv_eight y z
    clear hcode hy hz
    generalize hq : [0, 0, y, z, 0, 0, 0, 0] ++ g = q at *
    clear hq
    go_wp2_with fail
    refine (HM.out _).mono ?_
    rintro e w3 ⟨rfl, hb3⟩
    have hB3 := hB2.trans (hb3.mono hB2.size)
    have b3 := b2.under hb3
    have v3 := HV.out _ (b3.alloc (.cells #[.int .u8 0, .int .u8 0, .int .u8 (y.toNat : Int), .int .u8 (z.toNat : Int), .int .u8 0, .int .u8 0, .int .u8 0, .int .u8 0] 5))
    have hB4 : Below w.heap.size w (w3.alloc (.cells #[.int .u8 0, .int .u8 0, .int .u8 (y.toNat : Int), .int .u8 (z.toNat : Int), .int .u8 0, .int .u8 0, .int .u8 0, .int .u8 0] 5)) := hB3.alloc hB3.size _
    go_wp2_with fail
    refine (HR.out _ (hT.below hB4)).mono ?_
    rintro e w5 ⟨rfl, hb5⟩
    have hB5 := hB4.trans (hb5.mono hB4.size)
    go_wp2
    go_ret
    exact ⟨rfl, hB5⟩
  · have hbig' : (n : Int) ≤ 60000 := by omega
    have HM := Lib.hid (fun W h => make_any g (by omega) W h)
    have hfl := frameB_length g
    obtain ⟨r1, r2, r3⟩ := read_make g [] (by omega)
    rw [List.append_nil] at r1 r2 r3
    have HR := Lib.hid (fun W h => read_any (frameB g) (by omega) W h)
    unfold RPost at HR
    rw [r1, r2, r3] at HR
    clear r1 r2 r3 hfl
    generalize frameB g = f at *
    go_wp2_with fail
    refine (HM.out _ (hT.below hB2)).mono ?_
    rintro e w3 ⟨rfl, hb3⟩
    have hB3 := hB2.trans (hb3.mono hB2.size)
    have b3 := b2.under hb3
    go_wp2_with fail
    refine (HR.out _ (hT.below hB3)).mono ?_
    rintro e w4 ⟨rfl, hb4⟩
    have hB4 := hB3.trans (hb4.mono hB3.size)
    have v4 := HV.out _ (b3.under hb4)
    clear v2
    go_wp2
    go_ret
    exact ⟨rfl, hB4⟩

set_option maxRecDepth 100000 in
set_option maxHeartbeats 1000000 in
theorem lifted (os : Os) (started : os.Started) (H : Type) (enc : TypeId × Value → H) :
    ReturnsInHanded {} Tryd.checked os 8 .any (fun w args => (Rows.frameLongSpec.pre enc Tryd.prog Tryd.f8 [] false w args ∧ laidMetH Tryd.prog laid1 w) ∧ sizedMet enc Tryd.prog Tryd.f8 (OpenSpec.ofChange Rows.frameLongSpec) false w args)
      (Rows.frameLongSpec.post enc Tryd.prog Tryd.f8 false true false false) := by
  refine returnsInHanded_of_change_and (C := Tryd.checked) (X := fun w _ => laidMetH Tryd.prog laid1 w) (fun _ _ _ hh h => h.of_heap hh) own started (by kernel_rfl) Tryd.func8
    (ChangeSpec.witness_shaped (enc := enc) (C := Tryd.checked) (os := os) (X := fun w _ => laidMetH Tryd.prog laid1 w) false (World.doorLaid Tryd.prog 14 os) #[.int .i64 0, .int .u8 0] 8 rfl (World.shaped_of_RefB (by kernel_rfl) (by kernel_rfl)) (by kernel_rfl) (by kernel_rfl) (by kernel_rfl) (door_met os _)) ?_
  intro W base args ds gs before hval0 hW _ _ hL _
  rw [laid_plain] at hL
  have hT := tab_of_laid hL
  have hval : ∀ (j : Nat) t v, Tryd.f8.params[j]? = some t → args[j]? = some v → Value.okWide Tryd.prog W .any base t v := hval0
  have hW' := hW
  obtain ⟨p, q, hA0, hV, rfl, hfz, hnd⟩ := hW
  have hA : DataW.TrodAll enc Tryd.prog W 0 (fun _ => true) true Tryd.f8.params.toList args.toList ds p := hA0
  rw [Tryd.params8] at hA hval
  obtain ⟨v0, vs0, d0, ds0, p0, q0, hargs, rfl, rfl, h0, r0⟩ := trodAll_cons hA
  obtain ⟨v1, vs1, d1, ds1, p1, q1, rfl, rfl, rfl, h1, r1⟩ := trodAll_cons r0
  obtain ⟨rfl, rfl, rfl⟩ := trodAll_nil r1
  obtain rfl : args = #[v0, v1] := by cases args; simp_all
  obtain ⟨rfl, rfl⟩ := trodVars_none hV
  obtain ⟨a0, rfl, rfl, rfl, w0⟩ := open_int Tryd.underlying3 (hval 0 3 v0 rfl rfl) h0
  obtain ⟨l0, u0⟩ := i64_of_wf w0
  obtain ⟨a1, rfl, rfl, rfl, w1⟩ := open_int Tryd.underlying5 (hval 1 5 v1 rfl rfl) h1
  obtain ⟨m1, rfl⟩ := u8_of_wf w1
  clear hA0 hval0
  simp only [List.append_nil] at hW'
  refine (walk a0 l0 u0 m1 W hT).mono fun e W' ⟨he, hg⟩ => ?_
  subst he
  exact ⟨_, rfl, post_below (pa := []) (pv := []) hW' (fun _ _ _ => (trodAll_cons_mk (shut_bool Tryd.underlying4 _) trodAll_mk0)) (fun sp hsp => (trodAll_cons_mk (shut_int Tryd.underlying3 w0) (trodAll_cons_mk (shut_int Tryd.underlying5 w1) trodAll_mk0))) (fun _ _ => rfl) rfl
    hg (ok_one (by kernel_rfl) rfl (okWide_bool_mk Tryd.underlying4 _))⟩

theorem over : Rows.FrameLongSaid :=
  OpenClaim.holds_of_wide 8 Tryd.f8 rfl rfl rfl rfl rfl rfl rfl ⟨rfl, rfl, rfl, rfl, rfl⟩ rfl rfl rfl rfl rfl (by kernel_rfl) Tryd.func8 (by kernel_rfl)
    (of_decide_eq_true (by kernel_rfl)) (by unfold Func.isWrapper; first | (rw [if_pos (by decide +kernel)]; kernel_rfl) | (rw [if_neg (by decide +kernel)]; exact ⟨rfl, rfl⟩))
    (fun os started H enc _ => lifted os started H enc)

/-- The statement: the tied card. -/
theorem proved : Rows.FrameLongCardSaid :=
  Claim7.holds_tied_plain_at .later [] [.data] true _ false
    over (fun _ h => by cases h) (by kernel_rfl) (fun _ h => by cases h) frameLong_row_tie rfl ⟨rfl, rfl⟩ (by kernel_rfl) rfl
    (fun f fn hf hfn => by
      obtain rfl : f = 8 := Option.some.inj ((show Tryd.prog.funcNamed "tesserae/tesseraelaw03.FrameLong" = some 8 by kernel_rfl).symm.trans hf) |>.symm
      obtain rfl : fn = Tryd.f8 := (Option.some.inj (Tryd.func8.symm.trans hfn)).symm
      exact ⟨by kernel_rfl, fun j t ht => by
        rw [Tryd.params8] at ht
        have hm : t ∈ [3, 5] := by simpa using Array.mem_of_getElem? ht
        have hall : ([3, 5].all fun u => !Tryd.prog.wantsStandIn u) = true := by kernel_rfl
        exact (show Tryd.prog.wantsStandIn t = false by simpa using List.all_eq_true.1 hall t hm)⟩)
    (by kernel_rfl)
#print axioms proved
end Go.Proofs.YtkjiinhcmhoejaaDoor.frameLong
