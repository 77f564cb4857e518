import Derived.Test.YtbfchlfagdhglaaDoorMG11
import Derived.Deep.AppendLies
import Derived.RangeFuncBox
import Derived.Test.YtbfchlfagdhglaaDoorMG10
import Derived.Test.YtbfchlfagdhglaaDoorMG5
/- roar.Values. -/
namespace Go.Proofs.YtbfchlfagdhglaaDoor
open Go.RowKit
attribute [local go_sem] Oper.semAt_some

/-- The numbers of a container, as they lie behind the call. -/
theorem values_row (f : Int) (d : List UInt8) (hf1 : -9223372036854775808 ≤ f) (hf2 : f ≤ 9223372036854775807) (hd : d.length ≤ 9223372036854775807) (W : World) : Calls Tryd.prog 26 #[.agg #[.int .i64 f, .string ⟨d.toArray⟩]] W fun e w' => ∃ y cy, e = .returned (.slice y (vals (readS f d)).length cy) ∧ (∀ b, y = some ⟨b, 0, none⟩ → W.heap.size ≤ b) ∧ (∀ j, j < (vals (readS f d)).length → ∃ b, y = some ⟨b, 0, none⟩ ∧ b < w'.heap.size ∧ w'.cell? ⟨b, j, none⟩ = some (.int .i64 (((vals (readS f d)).getD j 0 : Nat) : Int))) ∧ Below W.heap.size W w' :=
  (values_any f hf1 hf2 d hd W).mono fun _ _ ⟨v, e, ho, hb⟩ => by
    rcases ho.2 with ⟨rfl, h0⟩ | ⟨gg, c2, cur, rfl, hbg, hg, h1, h2, _⟩
    · exact ⟨none, 0, by rw [h0]; exact e, (fun b e => by cases e), (fun j hj => by omega), hb⟩
    · refine ⟨_, c2, e, (fun b e => by cases e; exact hbg), fun j hj => ⟨gg, rfl, (Array.getElem?_eq_some_iff.1 hg).1, ?_⟩, hb⟩
      have := ho.cells (g := gg) rfl j (.int .i64 (((vals (readS f d)).getD j 0 : Nat) : Int)) (by
        unfold intVs
        rw [List.getElem?_map, List.getD_eq_getElem?_getD, List.getElem?_eq_getElem hj]; rfl)
      rwa [show (⟨gg, 0, none⟩ : Addr).add j = ⟨gg, j, none⟩ by unfold Addr.add; split <;> simp_all] at this
/-- A chunk's box is no row of numbers. -/
theorem boxC_far {W w1 : World} {g : Nat} {c : Ch} {base : Nat} {v : Value} {k : Nat} {xs : List Value} {tmp : Obj} (h : BoxC g c W) (hrow : W.ownsRow base 3 1 v k xs) (hg : (W.alloc tmp).grownBy w1 v.ownBlock) : BoxC g c w1 := by
  have hne : some g ≠ v.ownBlock := by
    rcases hrow.2 with ⟨rfl, _⟩ | ⟨q, cap, cur, rfl, _, hq, _⟩
    · simp [Value.ownBlock]
    · intro e
      obtain rfl : g = q := by simpa [Value.ownBlock] using e
      unfold BoxC Blk at h
      rw [h] at hq
      cases hq
  exact (hg.block g (Blk.lt (h.alloc tmp)) (fun e => hne e)).trans (h.alloc tmp)
theorem blk_far {W w1 : World} {g : Nat} {t : TypeId} {cs : Array Value} {base : Nat} {v : Value} {k : Nat} {xs : List Value} {tmp : Obj} (h : Blk W g t cs) (ht : t ≠ 3) (hrow : W.ownsRow base 3 1 v k xs) (hg : (W.alloc tmp).grownBy w1 v.ownBlock) : Blk w1 g t cs := by
  have hne : some g ≠ v.ownBlock := by
    rcases hrow.2 with ⟨rfl, _⟩ | ⟨q, cap, cur, rfl, _, hq, _⟩
    · simp [Value.ownBlock]
    · intro e
      obtain rfl : g = q := by simpa [Value.ownBlock] using e
      unfold Blk at h
      rw [h] at hq
      cases hq
      exact absurd rfl ht
  exact (hg.block g (Blk.lt (h.alloc tmp)) (fun e => hne e)).trans (h.alloc tmp)
/-- What holds between two rounds. -/
def VaI (w : World) (sv : Value) (pre : List Ch) (W : World) : Prop := ((∃ v, Boxed W (w.heap.size + 1) 35 v ∧ W.ownsRow w.heap.size 3 1 v (valsR pre).length (intVs (valsR pre)) ∧ True) ∧ Blk W (w.heap.size + 1 + 1) 24 #[sv]) ∧ Below w.heap.size w W
theorem vaI_own (w : World) (sv : Value) (m : Nat) (hm : w.heap.size ≤ m) : OwnFrom m (VaI w sv) :=
  OwnFrom.and (OwnFrom.and (Own.from (holdsRow_own w.heap.size (w.heap.size + 1) 35 3 1 (fun (pre : List Ch) => (valsR pre).length) (fun pre => intVs (valsR pre)) (fun _ _ => True)) _) (Own.from (blk_own _ _ (fun _ => #[sv])) _)) (ownFrom_below (Nat.le_refl _) hm)
theorem VaI.under {w a b : World} {sv : Value} {pre : List Ch} (h : VaI w sv pre a) (hb : Below a.heap.size a b) : VaI w sv pre b := by
  obtain ⟨⟨⟨v, h1, h2, _⟩, h3⟩, h4⟩ := h
  exact ⟨⟨⟨v, Blk.under h1 hb, own_under h2 hb, trivial⟩, h3.under hb⟩, h4.trans (hb.mono h4.size)⟩
theorem VaI.lt {w a : World} {sv : Value} {pre : List Ch} (h : VaI w sv pre a) : w.heap.size + 1 + 1 < a.heap.size := h.1.2.lt
theorem VaI.base {w a : World} {sv : Value} {pre : List Ch} (h : VaI w sv pre a) : w.heap.size ≤ a.heap.size := h.2.size
/-- The boxes that the region reads. -/
def VaS (w : World) (v : Value) (g : Nat) (c : Ch) (W : World) : Prop := Boxed W (w.heap.size + 1) 35 v ∧ BoxC g c W
theorem VaS.under {w a b : World} {v : Value} {g : Nat} {c : Ch} (h : VaS w v g c a) (hb : Below a.heap.size a b) : VaS w v g c b := ⟨Blk.under h.1 hb, Blk.under h.2 hb⟩
theorem VaS.held {w a : World} {v : Value} {g : Nat} {c : Ch} (h : VaS w v g c a) : a.cell? ⟨w.heap.size + 1, 0, none⟩ = some v ∧ a.cell? ⟨g, 0, none⟩ = some (.int .i64 c.1) ∧ VaS w v g c a := ⟨h.1.cell, h.2.cell 0, h⟩
/-- What holds within a round, behind j of the chunk's numbers. -/
def VaL (w : World) (sv : Value) (W5 : World) (l0 l1 : List Nat) (g : Nat) (c : Ch) (y : Option Addr) (j : Nat) (wr : World) : Prop :=
  (∃ v, Boxed wr (w.heap.size + 1) 35 v ∧ wr.ownsRow w.heap.size 3 1 v (l0.length + j) (intVs (l0 ++ l1.take j)) ∧ ∀ b, y = some ⟨b, 0, none⟩ → b < W5.heap.size → v.ownBlock ≠ some b ∧ w.heap.size + 1 < b ∧ wr.heap[b]? = W5.heap[b]?) ∧
  BoxC g c wr ∧ Blk wr (w.heap.size + 1 + 1) 24 #[sv] ∧ KeepsOthers W5 wr ∧ Below w.heap.size W5 wr
theorem VaL.drew {w : World} {sv : Value} {W5 : World} {l0 l1 : List Nat} {g : Nat} {c : Ch} {y : Option Addr} {j : Nat} {wr : World} (h : VaL w sv W5 l0 l1 g c y j wr) : VaL w sv W5 l0 l1 g c y j wr.drew := by
  obtain ⟨⟨v, h1, h2, h3⟩, h4, h5, h6, h7⟩ := h
  exact ⟨⟨v, Blk.drew h1, h2.drew, h3⟩, Blk.drew h4, h5.drew, h6.trans (keepsB_below (Below.refl _ _).drew), h7.drew⟩
theorem intVs_snoc (l : List Nat) (n : Nat) : intVs (l ++ [n]) = intVs l ++ [Value.int .i64 ((n : Nat) : Int)] := by simp [intVs]
theorem blk_ne {W : World} {g g' : Nat} {t t' : TypeId} {cs cs' : Array Value} (h : Blk W g t cs) (k : Blk W g' t' cs') (ht : t ≠ t') : g ≠ g' := fun e => by
  subst e
  unfold Blk at h k
  rw [h] at k
  cases k
  exact ht rfl
theorem VaL.start {w W W5 : World} {sv : Value} {pre : List Ch} (h : VaI w sv pre W) (hb : Below W.heap.size W W5) {g : Nat} {c : Ch} (hc : BoxC g c W) {y : Option Addr} (hy : ∀ b, y = some ⟨b, 0, none⟩ → W.heap.size ≤ b) (l1 : List Nat) : VaL w sv W5 (valsR pre) l1 g c y 0 W5 := by
  obtain ⟨⟨⟨v, h1, h2, _⟩, h3⟩, h4⟩ := h
  refine ⟨⟨v, Blk.under h1 hb, by rw [List.take_zero, List.append_nil]; exact own_under h2 hb, fun b e _ => ⟨fun e2 => ?_, by have := hy b e; have := h3.lt; omega, rfl⟩⟩, Blk.under hc hb, h3.under hb, KeepsOthers.refl _, Below.refl _ _⟩
  have := hy b e
  rcases h2.2 with ⟨rfl, _⟩ | ⟨q, cap, cur, rfl, _, hq, _⟩
  · cases e2
  · obtain rfl : q = b := by simpa [Value.ownBlock] using e2
    have := (Array.getElem?_eq_some_iff.1 hq).1
    omega
theorem VaL.next {w : World} {sv : Value} {W5 : World} {l0 l1 : List Nat} {g : Nat} {c : Ch} {y : Option Addr} {j : Nat} {WD w6 : World} {v : Value} {tmp : Obj} {g' cap' : Nat} {z : Nat} (hv : Boxed WD (w.heap.size + 1) 35 v) (hrow : WD.ownsRow w.heap.size 3 1 v (l0.length + j) (intVs (l0 ++ l1.take j)))
    (hy : ∀ b, y = some ⟨b, 0, none⟩ → b < W5.heap.size → v.ownBlock ≠ some b ∧ w.heap.size + 1 < b ∧ WD.heap[b]? = W5.heap[b]?) (hc : BoxC g c WD) (hr : Blk WD (w.heap.size + 1 + 1) 24 #[sv]) (hk : KeepsOthers W5 WD) (hb : Below w.heap.size W5 WD) (hn : w.heap.size ≤ WD.heap.size) (h5 : W5.heap.size ≤ WD.heap.size)
    (hown' : w6.ownsRow w.heap.size 3 1 (.slice (some ⟨g', 0, none⟩) (l0.length + j + 1) cap') (l0.length + j + 1) (intVs (l0 ++ l1.take j) ++ [.int .i64 ((z : Nat) : Int)])) (hgrow : (WD.alloc tmp).grownBy w6 v.ownBlock) (hlie : v.ownBlock = some g' ∨ g' = (WD.alloc tmp).heap.size) (hz : l1.take (j + 1) = l1.take j ++ [z]) :
    VaL w sv W5 l0 l1 g c y (j + 1) (w6.setCell ⟨w.heap.size + 1, 0, none⟩ (.slice (some ⟨g', 0, none⟩) (l0.length + j + 1) cap')) := by
  obtain ⟨hv1, hv2, hr2, hk2, hb2⟩ := hv.appended (by decide) hrow hn (by omega) hown' hgrow
  have hc1 := boxC_far hc hrow hgrow
  have hr1 := blk_far hr (by decide) hrow hgrow
  refine ⟨⟨_, hv2, ?_, fun b e hlt => ⟨fun e2 => ?_, (hy b e hlt).2.1, ?_⟩⟩, Blk.far hc1 (fun e => blk_ne (t := 48) hc1 hv1 (by decide) e) _, hr1.far (by simp) _, hk.trans hk2, hb.trans hb2⟩
  · rw [hz, ← List.append_assoc, intVs_snoc]; exact hr2
  · obtain rfl : g' = b := by simpa [Value.ownBlock] using e2
    rcases hlie with h | h
    · exact (hy _ e hlt).1 h
    · simp at h; omega
  · obtain ⟨h1, h3, h2⟩ := hy b e hlt
    have hbW : b < WD.heap.size := by omega
    have hb6 : w6.heap[b]? = WD.heap[b]? := (hgrow.block b (by simp; omega) (fun e => h1 e.symm)).trans (Below.heap_alloc _ _ b hbW)
    exact (Below.heap_setCell _ _ _ _ (by simp; omega)).trans (hb6.trans h2)
theorem numC_eq (c : Ch) (k : Nat) (hk : c.1 = (k : Int)) : valsC c = (vals (readS c.2.1 c.2.2)).map fun n => 256 * k + n := by
  unfold valsC
  rw [hk]; rfl
theorem take_map_succ {l : List Nat} {j : Nat} (h : j < l.length) (f : Nat → Nat) : (l.map f).take (j + 1) = (l.map f).take j ++ [f (l.getD j 0)] := by
  rw [List.take_add_one, List.getElem?_map, List.getD_eq_getElem?_getD, List.getElem?_eq_getElem h]; rfl

set_option maxRecDepth 100000 in
set_option maxHeartbeats 4000000 in
theorem values_roar (x : Option Addr) (len cap : Nat) (r : List Ch) (hk : OkCs r) (hm : len ≤ 9223372036854775807) (w : World) (h : Chs w.heap.size w (.slice x len cap) r) :
    Calls Tryd.prog 15 #[.agg #[.slice x len cap]] w (ValsRes w (valsZ r)) := by
  have hB0 : Below w.heap.size w (((w.alloc (.cells #[.slice x len cap] 24)).alloc (.cells #[.slice none 0 0] 35)).alloc (.cells #[.slice x len cap] 24)) := (((Below.refl _ w).alloc (Nat.le_refl _) _).alloc (by simp) _).alloc (by simp; omega) _
  have hI0 : VaI w (.slice x len cap) [] (((w.alloc (.cells #[.slice x len cap] 24)).alloc (.cells #[.slice none 0 0] 35)).alloc (.cells #[.slice x len cap] 24)) := by
    have h1 := (Blk.new (w.alloc (.cells #[.slice x len cap] 24)) 35 #[.slice none 0 0]).alloc (.cells #[.slice x len cap] 24)
    rw [World.size_alloc] at h1
    have h2 := Blk.new ((w.alloc (.cells #[.slice x len cap] 24)).alloc (.cells #[.slice none 0 0] 35)) 24 #[.slice x len cap]
    rw [World.size_alloc, World.size_alloc] at h2
    exact ⟨⟨⟨_, h1, ⟨rfl, .inl ⟨rfl, rfl⟩⟩, trivial⟩, h2⟩, hB0⟩
  have HSq := Lib.hid (chunks_seq 3 (by decide) (w.heap.size + 1 + 1) x len cap r hk hm _ hI0.1.2 ((h.below hB0).more hB0.size))
  have HX := Lib.hid h.rowIn
  have HV := Lib.hid (valsR_all r)
  have HI0 := Lib.hid hI0
  have HO := Lib.hid hk
  have hsz0 := hI0.lt
  obtain ⟨i0, hi, hz0, hz1, hz2⟩ := info_parts info_int
  have HInf := Lib.hid hi; have HZ0 := Lib.hid hz0; have HZ1 := Lib.hid hz1; have HZ2 := Lib.hid hz2
  clear h hB0 hI0 hk hi hz0 hz1 hz2
  refine (callsIn_wide (n := 4)).1 ?_
  refine callsIn_of_wp_marks Tryd.func15 rfl trivial ?_ rfl
  simp only [Tryd.ntmps15, List.size_toArray, List.length_cons, List.length_nil, Nat.reduceAdd, Nat.reduceSub, Array.replicate_succ, Array.replicate_zero, List.push_toArray, List.append_toArray, List.nil_append, List.cons_append]
  rw [wpIn_wide]
  go_wp2_with (go_at_call 25; refine (chunks_any _ _).mono ?_; rintro e w' ⟨rfl, rfl⟩)
  generalize (((w.alloc (.cells #[.slice x len cap] 24)).alloc (.cells #[.slice none 0 0] 35)).alloc (.cells #[.slice x len cap] 24)) = W0 at *
  refine (wpIn_wide (n := 4)).1 ?_
  refine wpIn_rangeFunc_nextB (n := 4) rfl (by decide) (gf := 36) (lb := #[.pointer (some ⟨w.heap.size + 1 + 1, 0, none⟩)]) rfl trivial (enters_of Tryd.func36 (by kernel_rfl) rfl)
    HSq.out kpC_t (fun W l o hl => kpC_b (n := W0.heap.size) hsz0 (HX.out.mono (by omega)) W l o hl) (fun _ => rfl)
    (VaI w (.slice x len cap)) (fun _ _ _ => False) (vaI_own w _ _ (by omega)) (fun _ _ _ _ _ hs _ _ => hs) HI0.out
    (fun c a' W => ∃ g, a' = { tmps := #[.agg #[.slice x len cap], .pointer (some ⟨w.heap.size, 0, none⟩), .slice none 0 0, .pointer (some ⟨w.heap.size + 1, 0, none⟩), .pointer (some ⟨g, 0, none⟩), undef, undef, .agg #[.slice x len cap], .func (.func 36) #[] #[.pointer (some ⟨w.heap.size + 1 + 1, 0, none⟩)], .agg #[.int .i64 c.1, .int .i64 c.2.1, .string ⟨c.2.2.toArray⟩], undef, undef, undef, undef, undef, undef, undef, undef, undef, undef, undef, undef, undef, undef, undef, undef, undef], defers := [] } ∧ BoxC g c W)
    (fun c a' _ X Y row ⟨g, e, hb⟩ hg hr => ⟨g, e, boxC_own W0.heap.size g c () X Y row hb hg hr⟩) ?assign ?body ?done ?stop
  case assign =>
    intro l pre c W K hI hE hK
    have hIa := hI.under ((Below.refl _ W).alloc (Nat.le_refl _) (.cells #[.int .i64 c.1, .int .i64 c.2.1, .string ⟨c.2.2.toArray⟩] 48))
    have HK := Lib.hid (hK _ (W.alloc (.cells #[.int .i64 c.1, .int .i64 c.2.1, .string ⟨c.2.2.toArray⟩] 48)) (KeepsOthers.alloc _ _) (kpC_below ((Below.refl _ W).alloc (Nat.le_refl _) _) hI.lt (HX.out.mono hI.base)) hIa ⟨_, rfl, Blk.new W _ _⟩)
    clear hK hI hIa hE
    unfold chEnc
    gi_wp2
    exact HK.out
  case body =>
    rintro l pre c a' W hI hE ⟨g, rfl, hb⟩
    have hok := nextC_ok hE HO.out
    have hck := (right_rises hE.1).key c (nextC_mem hE)
    have HVal := Lib.hid (fun W => values_row c.2.1 c.2.2 hok.2.1.1 hok.2.1.2 hok.2.2 W)
    have hle := nextC_le hE
    have c0 := hb.cell 0; have c1 := hb.cell 1; have c2 := hb.cell 2
    dsimp at c0 c1 c2
    have HI := Lib.hid hI
    have HBx := Lib.hid hb
    obtain ⟨k, hkk⟩ : ∃ k : Nat, c.1 = (k : Int) := ⟨c.1.toNat, by omega⟩
    have HT : Hid (valsR (pre ++ [c]) = valsR pre ++ (vals (readS c.2.1 c.2.2)).map fun n => 256 * k + n) := Lib.hid (by rw [valsR_snoc, numC_eq c k hkk])
    have hlm : (vals (readS c.2.1 c.2.2)).length ≤ 256 := valsTo_le _ 256
    have HSm := Lib.hid (fun j => show (vals (readS c.2.1 c.2.2)).getD j 0 < 256 from by
      rw [List.getD_eq_getElem?_getD]
      cases e : (vals (readS c.2.1 c.2.2))[j]? with
      | none => decide
      | some z => exact vals_small _ z (List.mem_of_getElem? e))
    clear hE hI hb hok
    generalize vals (readS c.2.1 c.2.2) = lv at *
    obtain ⟨ck, f, d⟩ := c
    dsimp only at *
    subst hkk
    gi_wp2_with (refine ⟨trivial, ?_⟩; gi_at_call 26; refine (CallsIn.inRound l (callsIn_wide.2 (HVal.out _))).mono ?_; rintro e w5 ⟨y, cy, rfl, hy1, hy, hb5⟩)
    have HL0 := Lib.hid (VaL.start HI.out hb5 HBx.out hy1 (lv.map fun n => 256 * k + n))
    have HBW := Lib.hid (HI.out.2)
    have HB5 := Lib.hid hb5
    have HKp : Hid (Blk W (w.heap.size + 1 + 1) 24 #[.slice x len cap]) := Lib.hid HI.out.1.2
    clear hy1 HBx HI HVal c0 c1 c2 hb5
    gi_loopw [14] (fun i wr => ∃ j : Nat, j ≤ lv.length ∧ i = .int .i64 j ∧ VaL w (.slice x len cap) w5 (valsR pre) (lv.map fun n => 256 * k + n) g ((k : Int), f, d) y j wr)
      (fun i _ => lv.length - (intOf i).toNat)
    case atStart => exact ⟨0, Nat.zero_le _, rfl, HL0.out⟩
    case round =>
      obtain ⟨j, hj, rfl, hL⟩ := hrel
      by_cases hlt : j < lv.length
      · have hlt' : (j : Int) < lv.length := by omega
        obtain ⟨b, rfl, hb5, hd0⟩ := hy j hlt
        have hLd := hL.drew
        obtain ⟨⟨v, hv, hrow, hyb⟩, hcb, hrb, hko, hbl⟩ := hLd
        have d0 : wr.cell? ⟨b, j, none⟩ = some (.int .i64 ((lv.getD j 0 : Nat) : Int)) := by
          have := (hyb b rfl hb5).2.2
          have h2 : wr.drew.cell? ⟨b, j, none⟩ = w5.cell? ⟨b, j, none⟩ := by unfold World.cell?; rw [this]
          exact h2.trans hd0
        have hz := HSm.out j
        have HTk := Lib.hid (take_map_succ hlt (fun n => 256 * k + n))
        have hsz5 : w5.heap.size ≤ wr.drew.heap.size := hbl.size
        have hn0 : w.heap.size ≤ wr.drew.heap.size := Nat.le_trans (Nat.le_trans HBW.out.size HB5.out.size) hsz5
        have hL1 : (valsR pre).length ≤ 65536 := hle
        have hL2 : (valsR pre).length + j + 1 ≤ 70000 := by omega
        have HVb := Lib.hid hv; have HRow := Lib.hid hrow; have HYb := Lib.hid hyb; have HCb := Lib.hid hcb; have HRb := Lib.hid hrb; have HKo := Lib.hid hko; have HBl := Lib.hid hbl
        have HS0 : Hid (VaS w v g ((k : Int), f, d) wr.drew) := Lib.hid ⟨hv, hcb⟩
        generalize lv.getD j 0 = z at *
        clear hL hv hrow hyb hcb hrb hko hbl hd0 HSm
        gi_wp2
        refine wpIn_region_roundM (m := 7) (S := fun W => W.cell? ⟨w.heap.size + 1, 0, none⟩ = some v ∧ W.cell? ⟨g, 0, none⟩ = some (.int .i64 (k : Nat)) ∧ VaS w v g ((k : Int), f, d) W) (by kernel_rfl) (by kernel_rfl) (fun ⟨_, _, h⟩ => h) (HS0.out.held) (fun hH => ?_)
        generalize wr.drew = WD at *
        refine wpAnyM_take (by kernel_rfl) (i := 0) (by decide) (oi := { dst := some 18, op := Go.Op.load 35 (Go.Operand.tmp 3), type := 35, pos := "roar.go:69", after := #[], guard := none }) (v := ?_) rfl (by kernel_rfl) (by kernel_rfl) (by kernel_rfl) (fun _ _ _ h => h) (Or.inl ⟨by rfl, ?_⟩) hH ?_
        rotate_left
        · intro w hSw; (try dsimp only at hSw); go_simp; try with_reducible rfl
        try simp only [Act.put, List.setIfInBounds_toArray, List.set_cons_zero, List.set_cons_succ]
        refine wpAnyM_take (by kernel_rfl) (i := 1) (by decide) (oi := { dst := some 19, op := Go.Op.fieldAddr 48 (Go.Operand.tmp 4) 0, type := 0, pos := "roar.go:69", after := #[], guard := none }) (v := ?_) rfl (by kernel_rfl) (by kernel_rfl) (by kernel_rfl) (fun _ _ _ h => h) (Or.inl ⟨by rfl, ?_⟩) hH ?_
        rotate_left
        · intro w hSw; (try dsimp only at hSw); go_simp; try with_reducible rfl
        try simp only [Act.put, List.setIfInBounds_toArray, List.set_cons_zero, List.set_cons_succ]
        refine wpAnyM_take (by kernel_rfl) (i := 2) (by decide) (oi := { dst := some 20, op := Go.Op.load 3 (Go.Operand.tmp 19), type := 3, pos := "roar.go:69", after := #[{ on := 1, ground := Go.Ground.data }], guard := none }) (v := ?_) rfl (by kernel_rfl) (by kernel_rfl) (by kernel_rfl) (fun _ _ _ h => h) (Or.inl ⟨by rfl, ?_⟩) hH ?_
        rotate_left
        · intro w hSw; (try dsimp only at hSw); go_simp; try with_reducible rfl
        try simp only [Act.put, List.setIfInBounds_toArray, List.set_cons_zero, List.set_cons_succ]
        refine wpAnyM_take (by kernel_rfl) (i := 3) (by decide) (oi := { dst := some 21, op := Go.Op.move (Go.Operand.tmp 6), type := 3, pos := "roar.go:69", after := #[], guard := none }) (v := ?_) rfl (by kernel_rfl) (by kernel_rfl) (by kernel_rfl) (fun _ _ _ h => h) (Or.inl ⟨by rfl, ?_⟩) hH ?_
        rotate_left
        · intro w hSw; (try dsimp only at hSw); go_simp; try with_reducible rfl
        try simp only [Act.put, List.setIfInBounds_toArray, List.set_cons_zero, List.set_cons_succ]
        refine wpAnyM_one (i := 4) (by decide) (o := { dst := some 22, op := Go.Op.call { callee := Go.Callee.value (Go.Operand.func 27), args := #[Go.Operand.tmp 20, Go.Operand.tmp 21], argTypes := #[3, 3] }, type := 3, pos := "roar.go:69", after := #[{ on := 2, ground := Go.Ground.data }, { on := 3, ground := Go.Ground.data }], guard := none }) (by kernel_rfl) rfl (fun K hK => ?_)
        go_simp
        go_at_call 27
        refine (num_any k z (by omega) hz _).mono ?_
        rintro e w5 ⟨rfl, rfl⟩
        first | refine hK.out _ _ (hH) (fun hH4 => ?_) | (go_wp2_with fail; refine hK.out _ _ (hH) (fun hH4 => ?_))
        clear hK K hH
        try simp only [Act.put, List.setIfInBounds_toArray, List.set_cons_zero, List.set_cons_succ]
        refine wpAnyM_one (i := 5) (by decide) (o := { dst := some 23, op := Go.Op.buildSlice 35 1 #[(0, Go.Operand.tmp 22)], type := 35, pos := "roar.go:69", after := #[{ on := 4, ground := Go.Ground.data }], guard := none }) (by kernel_rfl) rfl (fun K hK => ?_)
        go_simp
        first | refine hK.out _ _ ((hH4.2.2.under ((Below.refl _ _).alloc (Nat.le_refl _) _)).held) (fun hH5 => ?_) | (go_wp2_with fail; refine hK.out _ _ ((hH4.2.2.under ((Below.refl _ _).alloc (Nat.le_refl _) _)).held) (fun hH5 => ?_))
        clear hK K hH4
        try simp only [Act.put, List.setIfInBounds_toArray, List.set_cons_zero, List.set_cons_succ]
        refine wpAnyM_one (i := 6) (by decide) (o := { dst := some 24, op := Go.Op.call { callee := Go.Callee.builtin Go.Builtin.append, args := #[Go.Operand.tmp 18, Go.Operand.tmp 23], argTypes := #[35, 35] }, type := 35, pos := "roar.go:69", after := #[{ on := 0, ground := Go.Ground.data }, { on := 5, ground := Go.Ground.data }, { on := 4, ground := Go.Ground.chain }], guard := none }) (by kernel_rfl) rfl (fun K hK => ?_)
        rw [if_pos (by rfl)]
        refine wp_append_lies (P := Tryd.prog) _ _ _ _ rfl w.heap.size 3 i0 (.int .i64 0) 1 8 Tryd.underlying35 HInf.out HZ0.out HZ1.out HZ2.out rfl (by decide) _ _ _ rfl (HRow.out.alloc _) ⟨WD.heap.size, 0, none⟩ 1 1 [.int .i64 ((256 * k + z : Nat) : Int)] rfl rfl (cell_one_new _ _ _) (by simp [Value.oneCell']) (by decide) (by unfold maxLen; omega) (by omega) (by simp; omega) _ rfl ?_
        intro g' cap' w6 hown' hgrow hlie hlt6
        obtain ⟨hv1, hv2, hr2, hk2, hb2⟩ := HVb.out.appended (by decide) HRow.out hn0 (by omega) hown' hgrow
        first | refine hK.out _ _ (VaS.held ⟨hv1, boxC_far HCb.out HRow.out hgrow⟩) (fun hH6 => ?_) | (go_wp2_with fail; refine hK.out _ _ (VaS.held ⟨hv1, boxC_far HCb.out HRow.out hgrow⟩) (fun hH6 => ?_))
        clear hK K hH5
        try simp only [Act.put, List.setIfInBounds_toArray, List.set_cons_zero, List.set_cons_succ]
        have hf := hv1.frozen
        refine wpAnyM_last (by kernel_rfl) (o := { dst := none, op := Go.Op.store 35 (Go.Operand.tmp 3) (Go.Operand.tmp 24), type := 0, pos := "roar.go:69", after := #[{ on := 6, ground := Go.Ground.data }, { on := 6, ground := Go.Ground.chain }, { on := 0, ground := Go.Ground.phase }, { on := 1, ground := Go.Ground.phase }, { on := 2, ground := Go.Ground.phase }, { on := 3, ground := Go.Ground.phase }, { on := 4, ground := Go.Ground.phase }, { on := 5, ground := Go.Ground.phase }, { on := 6, ground := Go.Ground.phase }], guard := none }) rfl (by kernel_rfl) (fun K hK => ?_)
        go_simp
        refine hK.out _ _ ?_
        clear hK K
        try simp only [Act.put, List.setIfInBounds_toArray, List.set_cons_zero, List.set_cons_succ]
        have HL1 := Lib.hid (VaL.next HVb.out HRow.out HYb.out HCb.out HRb.out HKo.out HBl.out hn0 hsz5 hown' hgrow hlie HTk.out)
        clear hH6 hb2 hk2 hr2 hv2 hv1 hlt6 hlie hgrow hown' hf d0
        gi_wp2
        go_roundw
        case rel => exact ⟨j + 1, by omega, by simp, HL1.out⟩
        case measure => simp [intOf]; omega
      · obtain rfl : j = lv.length := by omega
        have hge : ¬ (lv.length : Int) < lv.length := by omega
        obtain ⟨⟨v, hv, hrow, _⟩, hcb, hrb, hko, hbl⟩ := hL
        rw [List.take_of_length_le (by rw [List.length_map]; exact Nat.le_refl _), ← HT.out] at hrow
        have hlen : (valsR (pre ++ [((k : Int), f, d)])).length = (valsR pre).length + lv.length := by rw [HT.out, List.length_append, List.length_map]
        rw [← hlen] at hrow
        have hW5 := HB5.out
        have hbW := HBW.out
        have HP : Hid (KeepsOthers W wr ∧ KpC (w.heap.size + 1 + 1) x len W wr ∧ VaI w (.slice x len cap) (pre ++ [((k : Int), f, d)]) wr) := Lib.hid ⟨(keepsB_below hW5).trans hko, ⟨hrb.trans HKp.out.symm, fun b o e hl => (hbl.block b (HX.out b o e hl)).trans (hW5.block b (Nat.lt_of_lt_of_le (HX.out b o e hl) hbW.size))⟩, ⟨⟨v, hv, hrow, trivial⟩, hrb⟩, hbW.trans ((hW5.mono hbW.size).trans hbl)⟩
        clear hv hrow hcb hrb hko hbl hlen hW5 hbW hy
        gi_wp2
        exact HP.out
  case done =>
    rintro D ys W hD rfl ⟨⟨⟨v, hv, hrow, _⟩, hbl⟩, hB⟩ hK
    have hc := hv.cell
    rw [HV.out] at hrow
    have HN : Hid (ValsRes w (valsZ r) (.returned v) (W.putObj D (.deferred none))) := Lib.hid (by
      obtain ⟨x2, c2, rfl, hI⟩ := row_ints rfl (ownsRow_putObj hrow _ hK rfl)
      exact ⟨x2, c2, rfl, hI, hB.grown (grownBy_putObj' W D _) hB.size (fun k e => by cases e; omega)⟩)
    clear hbl hB hv hrow
    go_wp2
    try rw [Exit.noGoto_ret]
    exact ⟨by simp, .inl ⟨_, _, rfl, run_takeDeferred hK, _, results_tmp (t := 2) rfl _ _ _, HN.out⟩⟩
  case stop =>
    rintro D cd pre W hD hSp h hK
    exact h.elim
end Go.Proofs.YtbfchlfagdhglaaDoor
/- roar.Make: the numbers by their greater byte; the array of their rows. -/
namespace Go.Proofs.YtbfchlfagdhglaaDoor
open Go.RowKit

/-! ### Mathematics -/
/-- The lesser bytes of the numbers whose greater byte is j. -/
def lowL (zs : List Int) (j : Nat) : List Nat := (zs.filter fun z => decide (z / 256 = (j : Int))).map fun z => (z % 256).toNat
theorem lowL_nil (j : Nat) : lowL [] j = [] := rfl
theorem lowL_snoc (zs : List Int) (z : Int) (j : Nat) : lowL (zs ++ [z]) j = if z / 256 = (j : Int) then lowL zs j ++ [(z % 256).toNat] else lowL zs j := by
  unfold lowL
  by_cases h : z / 256 = (j : Int)
  · rw [if_pos h, List.filter_append, List.map_append]
    simp [h]
  · rw [if_neg h, List.filter_append, List.map_append]
    simp [h]
theorem lowL_take (zs : List Int) {k : Nat} (hk : k < zs.length) (j : Nat) : lowL (zs.take (k + 1)) j = if (zs[k]?.getD 0) / 256 = (j : Int) then lowL (zs.take k) j ++ [((zs[k]?.getD 0) % 256).toNat] else lowL (zs.take k) j := by
  rw [List.take_add_one, List.getElem?_eq_getElem hk]
  exact lowL_snoc _ _ j
theorem lowL_small (zs : List Int) (j : Nat) : ∀ n ∈ lowL zs j, n < 256 := fun n hn => by
  unfold lowL at hn
  rw [List.mem_map] at hn
  obtain ⟨z, _, rfl⟩ := hn
  omega
theorem lowL_le (zs : List Int) (j : Nat) : (lowL zs j).length ≤ zs.length := by
  unfold lowL
  rw [List.length_map]
  exact List.length_filter_le _ _
theorem lowL_set (zs : List Int) (j : Nat) : Same (ofL (zsOf (lowL zs j))) (part (ofL zs) j) := fun i hi => by
  unfold part ofL
  rw [Bool.eq_iff_iff, List.any_eq_true, List.any_eq_true]
  constructor
  · rintro ⟨y, hy, he⟩
    unfold zsOf lowL at hy
    rw [List.mem_map] at hy
    obtain ⟨n, hn, rfl⟩ := hy
    rw [List.mem_map] at hn
    obtain ⟨z, hz, rfl⟩ := hn
    rw [List.mem_filter, decide_eq_true_iff] at hz
    refine ⟨z, hz.1, ?_⟩
    rw [beq_iff_eq] at he ⊢
    omega
  · rintro ⟨z, hz, he⟩
    rw [beq_iff_eq] at he
    refine ⟨((z % 256).toNat : Int), ?_, ?_⟩
    · unfold zsOf lowL
      refine List.mem_map.2 ⟨(z % 256).toNat, List.mem_map.2 ⟨z, ?_, rfl⟩, rfl⟩
      rw [List.mem_filter, decide_eq_true_iff]
      exact ⟨hz, by omega⟩
    · rw [beq_iff_eq]; omega
/-- One chunk more, or none. -/
theorem ofTo_low_some {zs : List Int} {j : Nat} (hn : lowL zs j ≠ []) : ofTo (ofL zs) (j + 1) = ofTo (ofL zs) j ++ [(((j : Int), ((bestF (ofL (zsOf (lowL zs j))) : Nat) : Int), bestD (ofL (zsOf (lowL zs j)))) : Ch)] := by
  have hs := lowL_set zs j
  rw [ofTo_some, bestF_congr hs, bestD_congr hs]; rfl
  intro e
  obtain ⟨n, hm⟩ := List.exists_mem_of_ne_nil _ hn
  have h256 := lowL_small zs j n hm
  have : n ∈ vals (part (ofL zs) j) := by
    refine mem_valsTo.2 ⟨h256, ?_⟩
    rw [← hs n h256]
    unfold ofL zsOf
    rw [List.any_eq_true]
    exact ⟨(n : Int), List.mem_map.2 ⟨n, hm, rfl⟩, beq_self_eq_true _⟩
  rw [e] at this; cases this
theorem ofTo_low_none {zs : List Int} {j : Nat} (hn : lowL zs j = []) : ofTo (ofL zs) (j + 1) = ofTo (ofL zs) j := by
  refine ofTo_none ?_
  unfold vals valsTo
  rw [List.filter_eq_nil_iff]
  intro i hi
  have hi := List.mem_range.1 hi
  rw [← lowL_set zs j i hi, hn]
  exact Bool.false_ne_true

/-! ### Memory -/
def nilS : Value := .slice none 0 0
/-- The two first blocks, the rows of the array. -/
def MkC (w : World) (L : Nat → List Nat) (cs : Array Value) (W : World) : Prop :=
  cs.size = 256 ∧ Blk W w.heap.size 24 #[.slice none 0 0] ∧ Blk W (w.heap.size + 1) 60 cs ∧ (∀ j, j < 256 → W.ownsRow (w.heap.size + 2) 3 1 (cs.getD j nilS) (L j).length (intVs (L j))) ∧
  (∀ i j, i < 256 → j < 256 → i ≠ j → ∀ b, (cs.getD i nilS).ownBlock = some b → (cs.getD j nilS).ownBlock ≠ some b) ∧ Below w.heap.size w W
theorem MkC.under {w A B : World} {L : Nat → List Nat} {cs : Array Value} (h : MkC w L cs A) (hb : Below A.heap.size A B) : MkC w L cs B :=
  ⟨h.1, h.2.1.under hb, h.2.2.1.under hb, fun j hj => own_under (h.2.2.2.1 j hj) hb, h.2.2.2.2.1, h.2.2.2.2.2.trans (hb.mono h.2.2.2.2.2.size)⟩
theorem MkC.lt {w W : World} {L : Nat → List Nat} {cs : Array Value} (h : MkC w L cs W) : w.heap.size + 1 < W.heap.size := h.2.2.1.lt
theorem MkC.at_ {w W : World} {L : Nat → List Nat} {cs : Array Value} (h : MkC w L cs W) {j : Nat} (hj : j < 256) : W.cell? ⟨w.heap.size + 1, j, none⟩ = some (cs.getD j nilS) := by
  rw [h.2.2.1.cell j]
  have hj2 : j < cs.size := by rw [h.1]; exact hj
  rw [Array.getElem?_eq_getElem hj2, Array.getD_eq_getD_getElem?, Array.getElem?_eq_getElem hj2]; rfl
theorem arr_zero : Tryd.zeroCells60 = Array.replicate 256 nilS := by kernel_rfl
theorem getD_zero (j : Nat) : (Tryd.zeroCells60).getD j nilS = nilS := by
  rw [arr_zero, Array.getD_eq_getD_getElem?, Array.getElem?_replicate]
  split <;> rfl
theorem MkC.start (w : World) : MkC w (lowL []) Tryd.zeroCells60 ((w.alloc (.cells #[.slice none 0 0] 24)).alloc (.cells Tryd.zeroCells60 60)) := by
  have h2 := Blk.new (w.alloc (.cells #[.slice none 0 0] 24)) 60 Tryd.zeroCells60
  rw [World.size_alloc] at h2
  refine ⟨Tryd.zeroCells60_size, (Blk.new w _ _).alloc _, h2, fun j _ => ?_, fun i j _ _ _ b e => ?_, ((Below.refl _ w).alloc (Nat.le_refl _) _).alloc (by simp) _⟩
  · rw [getD_zero]; exact ⟨rfl, .inl ⟨rfl, rfl⟩⟩
  · rw [getD_zero] at e; cases e
/-- A number is laid into its row. -/
theorem MkC.put {w a w4 : World} {L L' : Nat → List Nat} {cs : Array Value} {key b : Nat} {v2 : Value} {o : Obj} (h : MkC w L cs a) (hk : key < 256) (hgr : (a.alloc o).grownBy w4 (cs.getD key nilS).ownBlock)
    (hown : w4.ownsRow (w.heap.size + 2) 3 1 v2 ((L key).length + 1) (intVs (L key) ++ [.int .i64 (b : Nat)])) (hob : v2.ownBlock = (cs.getD key nilS).ownBlock ∨ v2.ownBlock = some (a.alloc o).heap.size)
    (hL : ∀ j, L' j = if j = key then L key ++ [b] else L j) :
    w4.cell? ⟨w.heap.size + 1, key, none⟩ = some (cs.getD key nilS) ∧ w4.frozen? ⟨w.heap.size + 1, key, none⟩ = false ∧ MkC w L' (cs.setIfInBounds key v2) (w4.setCell ⟨w.heap.size + 1, key, none⟩ v2) := by
  have h2 := h.under ((Below.refl _ a).alloc (Nat.le_refl _) o)
  have hrow : ∀ k, (cs.getD key nilS).ownBlock = some k → w.heap.size + 2 ≤ k := fun k e => ((h.2.2.2.1 key hk).lt k e).1
  have hB : Below (w.heap.size + 2) (a.alloc o) w4 := (Below.refl _ _).grown hgr (by have := h2.lt; omega) hrow
  have b0 := h2.2.1.below hB (by omega)
  have b1 := h2.2.2.1.below hB (by omega)
  have hks : key < cs.size := by rw [h.1]; exact hk
  have hg : ∀ j, (cs.setIfInBounds key v2).getD j nilS = if j = key then v2 else cs.getD j nilS := fun j => by
    rw [Array.getD_eq_getD_getElem?, Array.getElem?_setIfInBounds]
    by_cases e : j = key
    · subst e; rw [if_pos rfl, if_pos rfl, if_pos hks]; rfl
    · rw [if_neg (fun e2 => e e2.symm), if_neg e, Array.getD_eq_getD_getElem?]
  refine ⟨?_, b1.frozen key, by simpa using h.1, b0.far (by simp) _, b1.set_ key v2, fun j hj => ?_, fun i j hi hj hne c e => ?_, ?_⟩
  · rw [b1.cell key, Array.getElem?_eq_getElem hks, Array.getD_eq_getD_getElem?, Array.getElem?_eq_getElem hks]; rfl
  · rw [hg j, hL j]
    by_cases e : j = key
    · subst e
      rw [if_pos rfl, if_pos rfl, List.length_append]
      have : intVs (L j ++ [b]) = intVs (L j) ++ [.int .i64 (b : Nat)] := by unfold intVs; simp
      rw [this]
      exact rows_far hown (by simp) v2
    · rw [if_neg e, if_neg e]
      refine rows_far ((h2.2.2.2.1 j hj).kept hgr ?_) (by simp) v2
      cases e1 : (cs.getD key nilS).ownBlock with
      | none =>
        cases e2 : (cs.getD j nilS).ownBlock with
        | none => exact .inl rfl
        | some c => exact .inr (by simp)
      | some c => exact .inr (fun e2 => h.2.2.2.2.1 key j hk hj (fun e3 => e e3.symm) c e1 e2)
  · rw [hg i] at e
    rw [hg j]
    have hlt : ∀ i, i < 256 → ∀ c, (cs.getD i nilS).ownBlock = some c → c < a.heap.size := fun i hi c e => ((h.2.2.2.1 i hi).lt c e).2
    by_cases e1 : i = key
    · subst e1
      rw [if_pos rfl] at e
      rw [if_neg (fun e2 => hne e2.symm)]
      rcases hob with h3 | h3
      · rw [h3] at e; exact h.2.2.2.2.1 i j hi hj hne c e
      · rw [h3] at e
        intro e4
        have := hlt j hj c e4
        simp at e; omega
    · rw [if_neg e1] at e
      by_cases e2 : j = key
      · subst e2
        rw [if_pos rfl]
        rcases hob with h3 | h3
        · rw [h3]; exact h.2.2.2.2.1 i j hi hj hne c e
        · rw [h3]
          intro e4
          have := hlt i hi c e
          simp at e4; omega
      · rw [if_neg e2]; exact h.2.2.2.2.1 i j hi hj hne c e
  · exact (h2.2.2.2.2.2.trans (hB.mono (by omega))).setCell (by simp) v2
theorem size_arr : (Tryd.prog.info? 60).map (·.size) = some 256 := by kernel_rfl
/-- The whole array. -/
theorem load_arr {w W : World} {L : Nat → List Nat} {cs : Array Value} (h : MkC w L cs W) : (loadVar 60 ⟨w.heap.size + 1, 0, none⟩).run Tryd.prog W = .ok (.agg cs) W :=
  run_loadVar_row W _ _ 60 cs (0, 0) _ h.2.2.1 Tryd.underlying60 rfl (by rw [h.1]; exact size_arr)
theorem index_arr {cs : Array Value} (hc : cs.size = 256) {j : Nat} (hj : j < 256) {v : Value} (hv : cs.getD j nilS = v) (W : World) : (Instr.index 60 (.agg cs) (.int .i64 (j : Nat))).run Tryd.prog W = .ok v W := by
  subst hv
  have hj2 : j < cs.size := by omega
  simp [Instr.index, asIntOf, run_underlying Tryd.underlying60, Go.part, Tryd.sizeOf35, Tryd.isAgg35, hj, Array.getElem?_eq_getElem hj2]
end Go.Proofs.YtbfchlfagdhglaaDoor
