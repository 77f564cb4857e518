/- (*reader).number: a varint read. -/
import Derived.Test.YthoegicchjadaaaDoorVNumM
import Derived.Deep.RegionWith
import Derived.Deep.DeepCutAuto
namespace Go.Proofs.YthoegicchjadaaaDoor
open Go.RowKit
attribute [local go_sem] Oper.semAt_some

set_option maxRecDepth 100000 in
set_option maxHeartbeats 1000000 in
theorem number_any {n₀ : Nat} (a b : Addr) (B : Nat) (s : List UInt8) (hs : s.length ≤ 9223372036854775807) (w : World) (hS : Sent n₀ w a b) (hn₀ : n₀ ≤ w.heap.size) (_ : n₀ ≤ B) (bB : Blk w B 148 #[.string ⟨s.toArray⟩, .nilIface]) :
    Calls Tryd.prog 92 #[.pointer (some ⟨B, 0, none⟩)] w (NumPost a b B s w) := by
  have hBlt := bB.lt
  refine (callsIn_wide (n := 4)).1 ?_
  refine callsIn_of_wp_marks Tryd.func92 rfl trivial ?_ rfl
  simp only [Tryd.ntmps92, List.size_toArray, List.length_cons, List.length_nil, Nat.reduceAdd, Nat.reduceSub, Array.replicate_succ, Array.replicate_zero, List.push_toArray, List.append_toArray, List.nil_append, List.cons_append]
  rw [wpIn_wide]
  go_wp2
  go_step3
  go_wp2
  go_step3
  go_wp2_with (go_at_call 95; refine (ahead_any _ _).mono ?_; rintro e w' ⟨rfl, rfl⟩)
  have bn := (((Blk.new w 53 #[.int .u64 0]).alloc (.cells #[.int .i64 0] 3)).alloc (.cells #[.int .u8 0] 5)).alloc (.cells #[.pointer (some ⟨B, 0, none⟩)] 158)
  have bz := ((Blk.new (w.alloc (.cells #[.int .u64 0] 53)) 3 #[.int .i64 0]).alloc (.cells #[.int .u8 0] 5)).alloc (.cells #[.pointer (some ⟨B, 0, none⟩)] 158)
  have bt := (Blk.new ((w.alloc (.cells #[.int .u64 0] 53)).alloc (.cells #[.int .i64 0] 3)) 5 #[.int .u8 0]).alloc (.cells #[.pointer (some ⟨B, 0, none⟩)] 158)
  have bl := Blk.new (((w.alloc (.cells #[.int .u64 0] 53)).alloc (.cells #[.int .i64 0] 3)).alloc (.cells #[.int .u8 0] 5)) 158 #[.pointer (some ⟨B, 0, none⟩)]
  simp only [World.size_alloc] at bz bt bl
  have hB0 : Below w.heap.size w ((((w.alloc (.cells #[.int .u64 0] 53)).alloc (.cells #[.int .i64 0] 3)).alloc (.cells #[.int .u8 0] 5)).alloc (.cells #[.pointer (some ⟨B, 0, none⟩)] 158)) := ((((Below.refl _ w).alloc (Nat.le_refl _) _).alloc (by simp) _).alloc (by simp; omega) _).alloc (by simp; omega) _
  have hsz : ((((w.alloc (.cells #[.int .u64 0] 53)).alloc (.cells #[.int .i64 0] 3)).alloc (.cells #[.int .u8 0] 5)).alloc (.cells #[.pointer (some ⟨B, 0, none⟩)] 158)).heap.size = w.heap.size + 4 := by simp
  have bB0 := bB.under hB0
  generalize ((((w.alloc (.cells #[.int .u64 0] 53)).alloc (.cells #[.int .i64 0] 3)).alloc (.cells #[.int .u8 0] 5)).alloc (.cells #[.pointer (some ⟨B, 0, none⟩)] 158)) = W0 at *
  refine (wpIn_wide (n := 4)).1 ?_
  refine wpIn_rangeFunc_ownF (n := 4) rfl (by decide) (gf := 98) (lb := #[.pointer (some ⟨w.heap.size + 1 + 1 + 1, 0, none⟩)]) rfl trivial (enters_of Tryd.func98 (by kernel_rfl) rfl)
    (ahead_stops 3 (by decide) (w.heap.size + 1 + 1 + 1) B s .nilIface hs W0 bl bB0) keeps2_t (keeps2_b (by omega) (by omega)) (Below.refl _ _) (fun _ => rfl)
    (fun pre W => (((Blk W w.heap.size 53 #[.int .u64 (orAll s pre)] ∧ Blk W (w.heap.size + 1) 3 #[.int .i64 0]) ∧ Blk W (w.heap.size + 1 + 1) 5 #[.int .u8 0]) ∧ AllHi s pre) ∧ Below w.heap.size w W)
    (fun c pre W => (c = .exit 0 ∧ StopsAt s w.heap.size pre W) ∧ Below w.heap.size w W)
    (OwnFrom.and (OwnFrom.and (OwnFrom.and (OwnFrom.and (Own.from (blk_own _ _ (fun pre => #[.int .u64 (orAll s pre)])) _) (Own.from (blk_own _ _ (fun _ => #[.int .i64 0])) _)) (Own.from (blk_own _ _ (fun _ => #[.int .u8 0])) _)) (ownFrom_pure _ _)) (ownFrom_below (Nat.le_refl _) (by omega)))
    (fun c => OwnFrom.and (Own.from (fun s' X Y row hs hg hr => ⟨hs.1, stops_own _ s s' X Y row hs.2 hg hr⟩) _) (ownFrom_below (Nat.le_refl _) (by omega)))
    ⟨⟨⟨⟨bn, bz⟩, bt⟩, fun p hp => by cases hp⟩, hB0⟩
    (fun x => { tmps := #[.pointer (some ⟨B, 0, none⟩), undef, .int .u64 0, .pointer (some ⟨w.heap.size, 0, none⟩), .pointer (some ⟨w.heap.size + 1, 0, none⟩), .pointer (some ⟨w.heap.size + 1 + 1, 0, none⟩), .int .i64 (m10 x : Nat), .int .u8 (byteAt s (m10 x) : Nat), .pointer (some ⟨B, 0, none⟩), .pointer (some ⟨B, 0, none⟩), .pointer (some ⟨B, 0, none⟩), .func (.func 98) #[] #[.pointer (some ⟨w.heap.size + 1 + 1 + 1, 0, none⟩)], .int .i64 (m10 x : Nat), .int .u8 (byteAt s (m10 x) : Nat), undef, undef, undef, undef, undef, undef, undef, undef, undef, undef, undef, undef, undef, undef, undef, undef, undef, undef, undef, undef, undef, undef, undef, undef, undef, undef, undef, undef, undef, undef, undef, undef, undef, undef, undef, undef, undef, undef, undef, undef, undef, undef, undef, undef, undef, undef, undef, undef, undef, undef, undef, undef, undef, undef], defers := [] }) ?assign ?body ?done ?stop
  case assign =>
    intro l x W K hK
    gi_wp2
    exact hK
  case body =>
    rintro l pre x W ⟨⟨⟨⟨b1, b2⟩, b3⟩, hp⟩, hB1⟩ _
    have c1 := b1.cell 0; have f1 := b1.frozen 0
    have c2 := b2.cell 0; have f2 := b2.frozen 0
    have c3 := b3.cell 0; have f3 := b3.frozen 0
    dsimp at c1 c2 c3
    have hm := m10_lt x
    have hbt := byteAt_lt s (m10 x)
    have HO : Hid (orAll s (pre ++ [x]) = bits .or .u64 (orAll s pre) (shl7 (byteAt s (m10 x)) (m10 x))) := Lib.hid (by simp [orAll, orAt])
    generalize hk : m10 x = k at *
    generalize hd : byteAt s k = d at *
    have HK := Lib.hid hk; have HD := Lib.hid hd
    clear hk hd
    have hm' : (k : Int) < 10 := by omega
    have hd' : (d : Int) < 256 := by omega
    have hsh := shift7 d k hm
    generalize shl7 d k = v at *
    generalize orAll s pre = p at *
    gi_wp2
    refine wpIn_mono (Q := fun e a' w' => e = .normal ∧ (∃ u14 u15 u16 u17 u18 u19 u20 u21 : Value, a' = { tmps := #[.pointer (some ⟨B, 0, none⟩), undef, .int .u64 0, .pointer (some ⟨w.heap.size, 0, none⟩), .pointer (some ⟨w.heap.size + 1, 0, none⟩), .pointer (some ⟨w.heap.size + 1 + 1, 0, none⟩), .int .i64 k, .int .u8 d, .pointer (some ⟨B, 0, none⟩), .pointer (some ⟨B, 0, none⟩), .pointer (some ⟨B, 0, none⟩), .func (.func 98) #[] #[.pointer (some ⟨w.heap.size + 1 + 1 + 1, 0, none⟩)], .int .i64 k, .int .u8 d, u14, u15, u16, u17, u18, u19, u20, u21, undef, undef, undef, undef, undef, undef, undef, undef, undef, undef, undef, undef, undef, undef, undef, undef, undef, undef, undef, undef, undef, undef, undef, undef, undef, undef, undef, undef, undef, undef, undef, undef, undef, undef, undef, undef, undef, undef, undef, undef, undef, undef, undef, undef, undef, undef], defers := [] }) ∧ w' = (W.setCell ⟨w.heap.size, 0, none⟩ (.int .u64 (bits .or .u64 p v))).drew) ?_ ?_
    · refine wpIn_region_round rfl (by kernel_rfl) (by kernel_rfl) ?_
      refine wpAnyIn_take (i := 1) (v := ?_) rfl rfl (by kernel_rfl) (by kernel_rfl) (by kernel_rfl) (fun _ _ _ h => by cases h.1) ⟨Or.inl ⟨by rfl, ?_⟩, fun _ => rfl⟩ ?_
      rotate_left
      · intro w; go_simp; try with_reducible rfl
      refine wpAnyIn_take (i := 2) (v := ?_) rfl rfl (by kernel_rfl) (by kernel_rfl) (by kernel_rfl) (fun _ _ _ h => by cases h.1) ⟨Or.inl ⟨by rfl, ?_⟩, fun _ => rfl⟩ ?_
      rotate_left
      · intro w; go_simp; try with_reducible rfl
      refine wpAnyIn_take (i := 3) (v := ?_) rfl rfl (by kernel_rfl) (by kernel_rfl) (by kernel_rfl) (fun _ _ _ h => by cases h.1) ⟨Or.inl ⟨by rfl, ?_⟩, fun _ => rfl⟩ ?_
      rotate_left
      · intro w; go_simp; try with_reducible rfl
      refine wpAnyIn_take (i := 4) (v := ?_) rfl rfl (by kernel_rfl) (by kernel_rfl) (by kernel_rfl) (fun _ _ _ h => by cases h.1) ⟨Or.inl ⟨by rfl, ?_⟩, fun _ => rfl⟩ ?_
      rotate_left
      · intro w; go_simp; try with_reducible rfl
      refine wpAnyIn_take (i := 5) (v := ?_) rfl rfl (by kernel_rfl) (by kernel_rfl) (by kernel_rfl) (fun _ _ _ h => by cases h.1) ⟨Or.inl ⟨by rfl, ?_⟩, fun _ => rfl⟩ ?_
      rotate_left
      · intro w; go_simp; try with_reducible rfl
      refine wpAnyIn_take (i := 6) (v := ?_) rfl rfl (by kernel_rfl) (by kernel_rfl) (by kernel_rfl) (fun _ _ _ h => by cases h.1) ⟨Or.inl ⟨by rfl, ?_⟩, fun _ => rfl⟩ ?_
      rotate_left
      · intro w; go_simp; try with_reducible rfl
      refine wpAnyIn_ready (rs := [0]) (by kernel_rfl) (by simp) ?_
      refine AllReadyIn.cons rfl (fun K hK => ?_) AllReadyIn.nil
      go_simp
      refine hK _ _ ?_
      clear hK K
      refine wpAnyIn_ready (rs := [7]) (by kernel_rfl) (by simp) ?_
      refine AllReadyIn.cons rfl (fun K hK => ?_) AllReadyIn.nil
      go_simp
      refine hK _ _ ?_
      clear hK K
      refine wpAnyIn_ready (rs := [8]) (by kernel_rfl) (by simp) ?_
      refine AllReadyIn.cons rfl (fun K hK => ?_) AllReadyIn.nil
      go_simp
      refine hK _ _ ?_
      clear hK K
      refine wpAnyIn_done (by kernel_rfl) ?_ _
      exact ⟨rfl, ⟨_, _, _, _, _, _, _, _, rfl⟩, rfl⟩
    · rintro e a' w' ⟨rfl, ⟨u14, u15, u16, u17, u18, u19, u20, u21, rfl⟩, rfl⟩
      by_cases hlo : (d : Int) < 128
      · gi_wp2
        refine ⟨(((KeepsOthers.setCell _ _ _).trans (KeepsOthers.setCell _ _ _)).trans (KeepsOthers.setCell _ _ _)).trans (KeepsOthers.drew _), ⟨rfl, pre, x, rfl, hp, by rw [HK.out, HD.out]; omega, ?_, ?_, ?_⟩, ?_⟩
        · rw [HO.out]; exact (((b1.set_ 0 _).far (by simp) _).far (by simp; omega) _).drew
        · rw [HK.out]; exact (((b2.far (by simp) _).set_ 0 _).far (by simp) _).drew
        · rw [HK.out, HD.out]; exact (((b3.far (by simp; omega) _).far (by simp) _).set_ 0 _).drew
        · exact (((hB1.setCell (p := ⟨w.heap.size, 0, none⟩) (Nat.le_refl _) _).setCell (p := ⟨w.heap.size + 1, 0, none⟩) (by simp) _).setCell (p := ⟨w.heap.size + 1 + 1, 0, none⟩) (by simp; omega) _).drew
      · gi_wp2
        refine ⟨(KeepsOthers.setCell _ _ _).trans (KeepsOthers.drew _), keeps2_drew (keeps2_set _ _ _ (by simp; omega) (by simp; omega)), ⟨⟨⟨?_, ?_⟩, ?_⟩, ?_⟩, ?_⟩
        · rw [HO.out]; exact (b1.set_ 0 _).drew
        · exact (b2.far (by simp) _).drew
        · exact (b3.far (by simp; omega) _).drew
        · intro y hy
          rcases List.mem_append.1 hy with hy | hy
          · exact hp y hy
          · rw [List.mem_singleton.1 hy, HK.out, HD.out]; omega
        · exact (hB1.setCell (p := ⟨w.heap.size, 0, none⟩) (Nat.le_refl _) _).drew
  case done =>
    rintro D ys W hD rfl ⟨⟨⟨⟨b1, b2⟩, b3⟩, hp⟩, hB1⟩ hK
    have hD0 : w.heap.size ≤ D := by omega
    have c1 := b1.cell 0; have c2 := b2.cell 0; have c3 := b3.cell 0
    dsimp at c1 c2 c3
    have bB2 := bB.under hB1
    have dB := bB2.cell 0; have dB1 := bB2.cell 1; have fB1 := bB2.frozen 1
    dsimp at dB dB1
    have hS2 := hS.below (hB1.mono hn₀)
    have va := hS2.va; have vb := hS2.vb
    by_cases hlen : s.length < 10
    · have hl : (s.length : Int) < 10 := by omega
      have HP := Lib.hid (num_more (a := a) (b := b) hp hlen hB1 bB2)
      clear hp
      go_wp2
      rw [Exit.noGoto_ret]
      have hK2 := (KeepsOthers.setCell W ⟨B, 1, none⟩ (.iface 164 (.pointer (some a)))).same D _ hK rfl
      exact ⟨by simp, .inl ⟨_, _, rfl, run_takeDeferred hK2, _, results_tmp (t := 2) rfl _ _ _, (show NumPost a b B s w (.returned (.int .u64 0)) _ from HP.out.put hBlt hD0 _)⟩⟩
    · have hl : ¬ (s.length : Int) < 10 := by omega
      have HP := Lib.hid (num_long (a := a) (b := b) hp hlen hB1 bB2)
      clear hp
      go_wp2
      try rw [Exit.noGoto_ret]
      have hK2 := (KeepsOthers.setCell W ⟨B, 1, none⟩ (.iface 164 (.pointer (some b)))).same D _ hK rfl
      exact ⟨by simp, .inl ⟨_, _, rfl, run_takeDeferred hK2, _, results_tmp (t := 2) rfl _ _ _, (show NumPost a b B s w (.returned (.int .u64 0)) _ from HP.out.put hBlt hD0 _)⟩⟩
  case stop =>
    rintro D c pre W hD ⟨k, hk, rfl⟩ ⟨⟨rfl, ini, x, e1, e2, e3, b1, b2, b3⟩, hB1⟩ hK
    have hD0 : w.heap.size ≤ D := by omega
    rw [List.range_succ] at e1
    obtain ⟨rfl, e1⟩ := List.append_inj' e1 rfl
    obtain rfl : k = x := by simpa using e1
    have hk10 : k < 10 := by omega
    rw [m10_eq hk10] at e3 b2 b3
    have c1 := b1.cell 0; have c2 := b2.cell 0; have c3 := b3.cell 0
    dsimp at c1 c2 c3
    have bB2 := bB.under hB1
    have dB := bB2.cell 0; have dB1 := bB2.cell 1; have fB1 := bB2.frozen 1
    dsimp at dB dB1
    have hS2 := hS.below (hB1.mono hn₀)
    have va := hS2.va; have vb := hS2.vb
    have h0 : ((k : Int) + 1 == 0) = false := by simp; omega
    refine (wpIn_wide (n := 4)).2 ?_
    by_cases hbad : (1 < k + 1 ∧ byteAt s k = 0) ∨ (k + 1 = 10 ∧ 1 < byteAt s k)
    · have HP := Lib.hid (num_bad (a := a) (b := b) hk e2 e3 hbad hB1 bB2)
      clear e2
      generalize orAll s (List.range (k + 1)) = p at *
      generalize byteAt s k = d at *
      have hK2 := (KeepsOthers.setCell W ⟨B, 1, none⟩ (.iface 164 (.pointer (some b)))).same D _ hK rfl
      rcases hbad with ⟨h1, rfl⟩ | ⟨h1, h2⟩
      · have hk4 : (1 : Int) < (k : Int) + 1 := by omega
        go_wp2
        try rw [Exit.noGoto_ret]
        exact ⟨by simp, .inl ⟨_, _, rfl, run_takeDeferred hK2, _, results_tmp (t := 2) rfl _ _ _, (show NumPost a b B s w (.returned (.int .u64 0)) _ from HP.out.put hBlt hD0 _)⟩⟩
      · obtain rfl : k = 9 := by omega
        have hd2 : ((d : Int) == 0) = false := by simp; omega
        have hd3 : (1 : Int) < d := by omega
        go_wp2
        try rw [Exit.noGoto_ret]
        exact ⟨by simp, .inl ⟨_, _, rfl, run_takeDeferred hK2, _, results_tmp (t := 2) rfl _ _ _, (show NumPost a b B s w (.returned (.int .u64 0)) _ from HP.out.put hBlt hD0 _)⟩⟩
    · have HP := Lib.hid (num_good (a := a) (b := b) hk e2 e3 hbad hB1 bB2)
      clear e2
      have hsk : ∀ w', Blk w' B 148 #[.string ⟨s.toArray⟩, .nilIface] → Calls Tryd.prog 96 #[.pointer (some ⟨B, 0, none⟩), .int .i64 ((k : Int) + 1)] w' fun e w'' => (∃ v, e = .returned v) ∧ w'' = w'.setCell ⟨B, 0, none⟩ (.string ⟨(s.drop (k + 1)).toArray⟩) := fun w' hb => by
        have := skip_any B s .nilIface (k + 1) (by omega) w' hb
        simpa using this
      have HS := Lib.hid hsk
      clear hsk
      generalize hq : (s.drop (k + 1)) = q at *
      clear hq
      generalize orAll s (List.range (k + 1)) = p at *
      generalize byteAt s k = d at *
      have bB3 := bB2.drew
      have hK2 := (KeepsOthers.setCell W ⟨B, 0, none⟩ (.string ⟨q.toArray⟩)).same D _ hK rfl
      have hpar : (k = 0 ∧ d < 128) ∨ (0 < k ∧ k < 9 ∧ 0 < d) ∨ (k = 9 ∧ d = 1) := by omega
      rcases hpar with ⟨rfl, _⟩ | ⟨hk1, hk2, hd1⟩ | ⟨rfl, rfl⟩
      · go_wp2
        go_cut [2] from 27 to 31 (fun s2 wx => s2 = .int .u64 0 ∧ wx = (W.setCell ⟨B, 0, none⟩ (.string ⟨q.toArray⟩)).drew)
        case first =>
          refine wp_region_noPanic ?_
          go_region_with (go_at_call 96; refine (HS.out _ bB3).mono ?_; rintro e w' ⟨⟨v, rfl⟩, rfl⟩)
          all_goals (refine NoPanic.normal ?_; go_wp2_with fail; go_meet; exact ⟨rfl, rfl⟩)
        case rest =>
          obtain ⟨rfl, rfl⟩ := hcut
          go_wp2
          try rw [Exit.noGoto_ret]
          exact ⟨by simp, .inl ⟨_, _, rfl, run_takeDeferred hK2, _, results_tmp (t := 2) rfl _ _ _, (show NumPost a b B s w (.returned (.int .u64 p)) _ from (HP.out.drew).put hBlt hD0 _)⟩⟩
      · have hk3 : ((k : Int) + 1 == 10) = false := by simp; omega
        have hk4 : (1 : Int) < (k : Int) + 1 := by omega
        have hd2 : ((d : Int) == 0) = false := by simp; omega
        go_wp2
        go_cut [2] from 27 to 31 (fun s2 wx => s2 = .int .u64 0 ∧ wx = (W.setCell ⟨B, 0, none⟩ (.string ⟨q.toArray⟩)).drew)
        case first =>
          refine wp_region_noPanic ?_
          go_region_with (go_at_call 96; refine (HS.out _ bB3).mono ?_; rintro e w' ⟨⟨v, rfl⟩, rfl⟩)
          all_goals (refine NoPanic.normal ?_; go_wp2_with fail; go_meet; exact ⟨rfl, rfl⟩)
        case rest =>
          obtain ⟨rfl, rfl⟩ := hcut
          go_wp2
          try rw [Exit.noGoto_ret]
          exact ⟨by simp, .inl ⟨_, _, rfl, run_takeDeferred hK2, _, results_tmp (t := 2) rfl _ _ _, (show NumPost a b B s w (.returned (.int .u64 p)) _ from (HP.out.drew).put hBlt hD0 _)⟩⟩
      · go_wp2
        go_cut [2] from 27 to 31 (fun s2 wx => s2 = .int .u64 0 ∧ wx = (W.setCell ⟨B, 0, none⟩ (.string ⟨q.toArray⟩)).drew)
        case first =>
          refine wp_region_noPanic ?_
          go_region_with (go_at_call 96; refine (HS.out _ bB3).mono ?_; rintro e w' ⟨⟨v, rfl⟩, rfl⟩)
          all_goals (refine NoPanic.normal ?_; go_wp2_with fail; go_meet; exact ⟨rfl, rfl⟩)
        case rest =>
          obtain ⟨rfl, rfl⟩ := hcut
          go_wp2
          try rw [Exit.noGoto_ret]
          exact ⟨by simp, .inl ⟨_, _, rfl, run_takeDeferred hK2, _, results_tmp (t := 2) rfl _ _ _, (show NumPost a b B s w (.returned (.int .u64 p)) _ from (HP.out.drew).put hBlt hD0 _)⟩⟩
end Go.Proofs.YthoegicchjadaaaDoor
