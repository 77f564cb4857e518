import Derived.Test.YtbfchlfagdhglaaMG12
import Derived.Deep.AppendLies
import Derived.RangeFuncBox
import Derived.Test.YtbfchlfagdhglaaMG13
/- roar.Values. -/
namespace Go.Proofs.Ytbfchlfagdhglaa
open Go.RowKit
attribute [local go_sem] Oper.semAt_some

/-- The numbers of a container, as they lie behind the call. -/
theorem values_row (f : Int) (d : List UInt8) (hf1 : -9223372036854775808 ≤ f) (hf2 : f ≤ 9223372036854775807) (hd : d.length ≤ 9223372036854775807) (W : World) : Calls Try.prog 39 #[.agg #[.int .i64 f, .string ⟨d.toArray⟩]] W fun e w' => ∃ y cy, e = .returned (.slice y (vals (readS f d)).length cy) ∧ (∀ b, y = some ⟨b, 0, none⟩ → W.heap.size ≤ b) ∧ (∀ j, j < (vals (readS f d)).length → ∃ b, y = some ⟨b, 0, none⟩ ∧ b < w'.heap.size ∧ w'.cell? ⟨b, j, none⟩ = some (.int .i64 (((vals (readS f d)).getD j 0 : Nat) : Int))) ∧ Below W.heap.size W w' :=
  (values_any f hf1 hf2 d hd W).mono fun _ _ ⟨v, e, ho, hb⟩ => by
    rcases ho.2 with ⟨rfl, h0⟩ | ⟨gg, c2, cur, rfl, hbg, hg, h1, h2, _⟩
    · exact ⟨none, 0, by rw [h0]; exact e, (fun b e => by cases e), (fun j hj => by omega), hb⟩
    · refine ⟨_, c2, e, (fun b e => by cases e; exact hbg), fun j hj => ⟨gg, rfl, (Array.getElem?_eq_some_iff.1 hg).1, ?_⟩, hb⟩
      have := ho.cells (g := gg) rfl j (.int .i64 (((vals (readS f d)).getD j 0 : Nat) : Int)) (by
        unfold intVs
        rw [List.getElem?_map, List.getD_eq_getElem?_getD, List.getElem?_eq_getElem hj]; rfl)
      rwa [show (⟨gg, 0, none⟩ : Addr).add j = ⟨gg, j, none⟩ by unfold Addr.add; split <;> simp_all] at this
/-- A chunk's box is no row of numbers. -/
theorem boxC_far {W w1 : World} {g : Nat} {c : Ch} {base : Nat} {v : Value} {k : Nat} {xs : List Value} {tmp : Obj} (h : BoxC g c W) (hrow : W.ownsRow base 3 1 v k xs) (hg : (W.alloc tmp).grownBy w1 v.ownBlock) : BoxC g c w1 := by
  have hne : some g ≠ v.ownBlock := by
    rcases hrow.2 with ⟨rfl, _⟩ | ⟨q, cap, cur, rfl, _, hq, _⟩
    · simp [Value.ownBlock]
    · intro e
      obtain rfl : g = q := by simpa [Value.ownBlock] using e
      unfold BoxC Blk at h
      rw [h] at hq
      cases hq
  exact (hg.block g (Blk.lt (h.alloc tmp)) (fun e => hne e)).trans (h.alloc tmp)
theorem blk_far {W w1 : World} {g : Nat} {t : TypeId} {cs : Array Value} {base : Nat} {v : Value} {k : Nat} {xs : List Value} {tmp : Obj} (h : Blk W g t cs) (ht : t ≠ 3) (hrow : W.ownsRow base 3 1 v k xs) (hg : (W.alloc tmp).grownBy w1 v.ownBlock) : Blk w1 g t cs := by
  have hne : some g ≠ v.ownBlock := by
    rcases hrow.2 with ⟨rfl, _⟩ | ⟨q, cap, cur, rfl, _, hq, _⟩
    · simp [Value.ownBlock]
    · intro e
      obtain rfl : g = q := by simpa [Value.ownBlock] using e
      unfold Blk at h
      rw [h] at hq
      cases hq
      exact absurd rfl ht
  exact (hg.block g (Blk.lt (h.alloc tmp)) (fun e => hne e)).trans (h.alloc tmp)
/-- What holds between two rounds. -/
def VaI (w : World) (sv : Value) (pre : List Ch) (W : World) : Prop := ((∃ v, Boxed W (w.heap.size + 1) 25 v ∧ W.ownsRow w.heap.size 3 1 v (valsR pre).length (intVs (valsR pre)) ∧ True) ∧ Blk W (w.heap.size + 1 + 1) 24 #[sv]) ∧ Below w.heap.size w W
theorem vaI_own (w : World) (sv : Value) (m : Nat) (hm : w.heap.size ≤ m) : OwnFrom m (VaI w sv) :=
  OwnFrom.and (OwnFrom.and (Own.from (holdsRow_own w.heap.size (w.heap.size + 1) 25 3 1 (fun (pre : List Ch) => (valsR pre).length) (fun pre => intVs (valsR pre)) (fun _ _ => True)) _) (Own.from (blk_own _ _ (fun _ => #[sv])) _)) (ownFrom_below (Nat.le_refl _) hm)
theorem VaI.under {w a b : World} {sv : Value} {pre : List Ch} (h : VaI w sv pre a) (hb : Below a.heap.size a b) : VaI w sv pre b := by
  obtain ⟨⟨⟨v, h1, h2, _⟩, h3⟩, h4⟩ := h
  exact ⟨⟨⟨v, Blk.under h1 hb, own_under h2 hb, trivial⟩, h3.under hb⟩, h4.trans (hb.mono h4.size)⟩
theorem VaI.lt {w a : World} {sv : Value} {pre : List Ch} (h : VaI w sv pre a) : w.heap.size + 1 + 1 < a.heap.size := h.1.2.lt
theorem VaI.base {w a : World} {sv : Value} {pre : List Ch} (h : VaI w sv pre a) : w.heap.size ≤ a.heap.size := h.2.size
/-- The boxes that the region reads. -/
def VaS (w : World) (v : Value) (g : Nat) (c : Ch) (W : World) : Prop := Boxed W (w.heap.size + 1) 25 v ∧ BoxC g c W
theorem VaS.under {w a b : World} {v : Value} {g : Nat} {c : Ch} (h : VaS w v g c a) (hb : Below a.heap.size a b) : VaS w v g c b := ⟨Blk.under h.1 hb, Blk.under h.2 hb⟩
theorem VaS.held {w a : World} {v : Value} {g : Nat} {c : Ch} (h : VaS w v g c a) : a.cell? ⟨w.heap.size + 1, 0, none⟩ = some v ∧ a.cell? ⟨g, 0, none⟩ = some (.int .i64 c.1) ∧ VaS w v g c a := ⟨h.1.cell, h.2.cell 0, h⟩
/-- What holds within a round, behind j of the chunk's numbers. -/
def VaL (w : World) (sv : Value) (W5 : World) (l0 l1 : List Nat) (g : Nat) (c : Ch) (y : Option Addr) (j : Nat) (wr : World) : Prop :=
  (∃ v, Boxed wr (w.heap.size + 1) 25 v ∧ wr.ownsRow w.heap.size 3 1 v (l0.length + j) (intVs (l0 ++ l1.take j)) ∧ ∀ b, y = some ⟨b, 0, none⟩ → b < W5.heap.size → v.ownBlock ≠ some b ∧ w.heap.size + 1 < b ∧ wr.heap[b]? = W5.heap[b]?) ∧
  BoxC g c wr ∧ Blk wr (w.heap.size + 1 + 1) 24 #[sv] ∧ KeepsOthers W5 wr ∧ Below w.heap.size W5 wr
theorem VaL.drew {w : World} {sv : Value} {W5 : World} {l0 l1 : List Nat} {g : Nat} {c : Ch} {y : Option Addr} {j : Nat} {wr : World} (h : VaL w sv W5 l0 l1 g c y j wr) : VaL w sv W5 l0 l1 g c y j wr.drew := by
  obtain ⟨⟨v, h1, h2, h3⟩, h4, h5, h6, h7⟩ := h
  exact ⟨⟨v, Blk.drew h1, h2.drew, h3⟩, Blk.drew h4, h5.drew, h6.trans (keepsB_below (Below.refl _ _).drew), h7.drew⟩
theorem intVs_snoc (l : List Nat) (n : Nat) : intVs (l ++ [n]) = intVs l ++ [Value.int .i64 ((n : Nat) : Int)] := by simp [intVs]
theorem blk_ne {W : World} {g g' : Nat} {t t' : TypeId} {cs cs' : Array Value} (h : Blk W g t cs) (k : Blk W g' t' cs') (ht : t ≠ t') : g ≠ g' := fun e => by
  subst e
  unfold Blk at h k
  rw [h] at k
  cases k
  exact ht rfl
theorem VaL.start {w W W5 : World} {sv : Value} {pre : List Ch} (h : VaI w sv pre W) (hb : Below W.heap.size W W5) {g : Nat} {c : Ch} (hc : BoxC g c W) {y : Option Addr} (hy : ∀ b, y = some ⟨b, 0, none⟩ → W.heap.size ≤ b) (l1 : List Nat) : VaL w sv W5 (valsR pre) l1 g c y 0 W5 := by
  obtain ⟨⟨⟨v, h1, h2, _⟩, h3⟩, h4⟩ := h
  refine ⟨⟨v, Blk.under h1 hb, by rw [List.take_zero, List.append_nil]; exact own_under h2 hb, fun b e _ => ⟨fun e2 => ?_, by have := hy b e; have := h3.lt; omega, rfl⟩⟩, Blk.under hc hb, h3.under hb, KeepsOthers.refl _, Below.refl _ _⟩
  have := hy b e
  rcases h2.2 with ⟨rfl, _⟩ | ⟨q, cap, cur, rfl, _, hq, _⟩
  · cases e2
  · obtain rfl : q = b := by simpa [Value.ownBlock] using e2
    have := (Array.getElem?_eq_some_iff.1 hq).1
    omega
theorem VaL.next {w : World} {sv : Value} {W5 : World} {l0 l1 : List Nat} {g : Nat} {c : Ch} {y : Option Addr} {j : Nat} {WD w6 : World} {v : Value} {tmp : Obj} {g' cap' : Nat} {z : Nat} (hv : Boxed WD (w.heap.size + 1) 25 v) (hrow : WD.ownsRow w.heap.size 3 1 v (l0.length + j) (intVs (l0 ++ l1.take j)))
    (hy : ∀ b, y = some ⟨b, 0, none⟩ → b < W5.heap.size → v.ownBlock ≠ some b ∧ w.heap.size + 1 < b ∧ WD.heap[b]? = W5.heap[b]?) (hc : BoxC g c WD) (hr : Blk WD (w.heap.size + 1 + 1) 24 #[sv]) (hk : KeepsOthers W5 WD) (hb : Below w.heap.size W5 WD) (hn : w.heap.size ≤ WD.heap.size) (h5 : W5.heap.size ≤ WD.heap.size)
    (hown' : w6.ownsRow w.heap.size 3 1 (.slice (some ⟨g', 0, none⟩) (l0.length + j + 1) cap') (l0.length + j + 1) (intVs (l0 ++ l1.take j) ++ [.int .i64 ((z : Nat) : Int)])) (hgrow : (WD.alloc tmp).grownBy w6 v.ownBlock) (hlie : v.ownBlock = some g' ∨ g' = (WD.alloc tmp).heap.size) (hz : l1.take (j + 1) = l1.take j ++ [z]) :
    VaL w sv W5 l0 l1 g c y (j + 1) (w6.setCell ⟨w.heap.size + 1, 0, none⟩ (.slice (some ⟨g', 0, none⟩) (l0.length + j + 1) cap')) := by
  obtain ⟨hv1, hv2, hr2, hk2, hb2⟩ := hv.appended (by decide) hrow hn (by omega) hown' hgrow
  have hc1 := boxC_far hc hrow hgrow
  have hr1 := blk_far hr (by decide) hrow hgrow
  refine ⟨⟨_, hv2, ?_, fun b e hlt => ⟨fun e2 => ?_, (hy b e hlt).2.1, ?_⟩⟩, Blk.far hc1 (fun e => blk_ne (t := 54) hc1 hv1 (by decide) e) _, hr1.far (by simp) _, hk.trans hk2, hb.trans hb2⟩
  · rw [hz, ← List.append_assoc, intVs_snoc]; exact hr2
  · obtain rfl : g' = b := by simpa [Value.ownBlock] using e2
    rcases hlie with h | h
    · exact (hy _ e hlt).1 h
    · simp at h; omega
  · obtain ⟨h1, h3, h2⟩ := hy b e hlt
    have hbW : b < WD.heap.size := by omega
    have hb6 : w6.heap[b]? = WD.heap[b]? := (hgrow.block b (by simp; omega) (fun e => h1 e.symm)).trans (Below.heap_alloc _ _ b hbW)
    exact (Below.heap_setCell _ _ _ _ (by simp; omega)).trans (hb6.trans h2)
theorem numC_eq (c : Ch) (k : Nat) (hk : c.1 = (k : Int)) : valsC c = (vals (readS c.2.1 c.2.2)).map fun n => 256 * k + n := by
  unfold valsC
  rw [hk]; rfl
theorem take_map_succ {l : List Nat} {j : Nat} (h : j < l.length) (f : Nat → Nat) : (l.map f).take (j + 1) = (l.map f).take j ++ [f (l.getD j 0)] := by
  rw [List.take_add_one, List.getElem?_map, List.getD_eq_getElem?_getD, List.getElem?_eq_getElem h]; rfl

set_option maxRecDepth 100000 in
set_option maxHeartbeats 4000000 in
theorem values_roar (x : Option Addr) (len cap : Nat) (r : List Ch) (hk : OkCs r) (hm : len ≤ 9223372036854775807) (w : World) (h : Chs w.heap.size w (.slice x len cap) r) :
    Calls Try.prog 19 #[.agg #[.slice x len cap]] w (ValsRes w (valsZ r)) := by
  have hB0 : Below w.heap.size w (((w.alloc (.cells #[.slice x len cap] 24)).alloc (.cells #[.slice none 0 0] 25)).alloc (.cells #[.slice x len cap] 24)) := (((Below.refl _ w).alloc (Nat.le_refl _) _).alloc (by simp) _).alloc (by simp; omega) _
  have hI0 : VaI w (.slice x len cap) [] (((w.alloc (.cells #[.slice x len cap] 24)).alloc (.cells #[.slice none 0 0] 25)).alloc (.cells #[.slice x len cap] 24)) := by
    have h1 := (Blk.new (w.alloc (.cells #[.slice x len cap] 24)) 25 #[.slice none 0 0]).alloc (.cells #[.slice x len cap] 24)
    rw [World.size_alloc] at h1
    have h2 := Blk.new ((w.alloc (.cells #[.slice x len cap] 24)).alloc (.cells #[.slice none 0 0] 25)) 24 #[.slice x len cap]
    rw [World.size_alloc, World.size_alloc] at h2
    exact ⟨⟨⟨_, h1, ⟨rfl, .inl ⟨rfl, rfl⟩⟩, trivial⟩, h2⟩, hB0⟩
  have HSq := Lib.hid (chunks_seq 3 (by decide) (w.heap.size + 1 + 1) x len cap r hk hm _ hI0.1.2 ((h.below hB0).more hB0.size))
  have HX := Lib.hid h.rowIn
  have HV := Lib.hid (valsR_all r)
  have HI0 := Lib.hid hI0
  have HO := Lib.hid hk
  have hsz0 := hI0.lt
  obtain ⟨i0, hi, hz0, hz1, hz2⟩ := info_parts info_int
  have HInf := Lib.hid hi; have HZ0 := Lib.hid hz0; have HZ1 := Lib.hid hz1; have HZ2 := Lib.hid hz2
  clear h hB0 hI0 hk hi hz0 hz1 hz2
  refine (callsIn_wide (n := 4)).1 ?_
  refine callsIn_of_wp_marks Try.func19 rfl trivial ?_ rfl
  simp only [Try.ntmps19, List.size_toArray, List.length_cons, List.length_nil, Nat.reduceAdd, Nat.reduceSub, Array.replicate_succ, Array.replicate_zero, List.push_toArray, List.append_toArray, List.nil_append, List.cons_append]
  rw [wpIn_wide]
  go_wp2_with (go_at_call 34; refine (chunks_any _ _).mono ?_; rintro e w' ⟨rfl, rfl⟩)
  generalize (((w.alloc (.cells #[.slice x len cap] 24)).alloc (.cells #[.slice none 0 0] 25)).alloc (.cells #[.slice x len cap] 24)) = W0 at *
  refine (wpIn_wide (n := 4)).1 ?_
  refine wpIn_rangeFunc_nextB (n := 4) rfl (by decide) (gf := 53) (lb := #[.pointer (some ⟨w.heap.size + 1 + 1, 0, none⟩)]) rfl trivial (enters_of Try.func53 (by kernel_rfl) rfl)
    HSq.out kpC_t (fun W l o hl => kpC_b (n := W0.heap.size) hsz0 (HX.out.mono (by omega)) W l o hl) (fun _ => rfl)
    (VaI w (.slice x len cap)) (fun _ _ _ => False) (vaI_own w _ _ (by omega)) (fun _ _ _ _ _ hs _ _ => hs) HI0.out
    (fun c a' W => ∃ g, a' = { tmps := #[.agg #[.slice x len cap], .pointer (some ⟨w.heap.size, 0, none⟩), .slice none 0 0, .pointer (some ⟨w.heap.size + 1, 0, none⟩), .pointer (some ⟨g, 0, none⟩), undef, undef, .agg #[.slice x len cap], .func (.func 53) #[] #[.pointer (some ⟨w.heap.size + 1 + 1, 0, none⟩)], .agg #[.int .i64 c.1, .int .i64 c.2.1, .string ⟨c.2.2.toArray⟩], undef, undef, undef, undef, undef, undef, undef, undef, undef, undef, undef, undef, undef, undef, undef, undef, undef], defers := [] } ∧ BoxC g c W)
    (fun c a' _ X Y row ⟨g, e, hb⟩ hg hr => ⟨g, e, boxC_own W0.heap.size g c () X Y row hb hg hr⟩) ?assign ?body ?done ?stop
  case assign =>
    intro l pre c W K hI hE hK
    have hIa := hI.under ((Below.refl _ W).alloc (Nat.le_refl _) (.cells #[.int .i64 c.1, .int .i64 c.2.1, .string ⟨c.2.2.toArray⟩] 54))
    have HK := Lib.hid (hK _ (W.alloc (.cells #[.int .i64 c.1, .int .i64 c.2.1, .string ⟨c.2.2.toArray⟩] 54)) (KeepsOthers.alloc _ _) (kpC_below ((Below.refl _ W).alloc (Nat.le_refl _) _) hI.lt (HX.out.mono hI.base)) hIa ⟨_, rfl, Blk.new W _ _⟩)
    clear hK hI hIa hE
    unfold chEnc
    gi_wp2
    exact HK.out
  case body =>
    rintro l pre c a' W hI hE ⟨g, rfl, hb⟩
    have hok := nextC_ok hE HO.out
    have hck := (right_rises hE.1).key c (nextC_mem hE)
    have HVal := Lib.hid (fun W => values_row c.2.1 c.2.2 hok.2.1.1 hok.2.1.2 hok.2.2 W)
    have hle := nextC_le hE
    have c0 := hb.cell 0; have c1 := hb.cell 1; have c2 := hb.cell 2
    dsimp at c0 c1 c2
    have HI := Lib.hid hI
    have HBx := Lib.hid hb
    obtain ⟨k, hkk⟩ : ∃ k : Nat, c.1 = (k : Int) := ⟨c.1.toNat, by omega⟩
    have HT : Hid (valsR (pre ++ [c]) = valsR pre ++ (vals (readS c.2.1 c.2.2)).map fun n => 256 * k + n) := Lib.hid (by rw [valsR_snoc, numC_eq c k hkk])
    have hlm : (vals (readS c.2.1 c.2.2)).length ≤ 256 := valsTo_le _ 256
    have HSm := Lib.hid (fun j => show (vals (readS c.2.1 c.2.2)).getD j 0 < 256 from by
      rw [List.getD_eq_getElem?_getD]
      cases e : (vals (readS c.2.1 c.2.2))[j]? with
      | none => decide
      | some z => exact vals_small _ z (List.mem_of_getElem? e))
    clear hE hI hb hok
    generalize vals (readS c.2.1 c.2.2) = lv at *
    obtain ⟨ck, f, d⟩ := c
    dsimp only at *
    subst hkk
    gi_wp2_with (refine ⟨trivial, ?_⟩; gi_at_call 39; refine (CallsIn.inRound l (callsIn_wide.2 (HVal.out _))).mono ?_; rintro e w5 ⟨y, cy, rfl, hy1, hy, hb5⟩)
    have HL0 := Lib.hid (VaL.start HI.out hb5 HBx.out hy1 (lv.map fun n => 256 * k + n))
    have HBW := Lib.hid (HI.out.2)
    have HB5 := Lib.hid hb5
    have HKp : Hid (Blk W (w.heap.size + 1 + 1) 24 #[.slice x len cap]) := Lib.hid HI.out.1.2
    clear hy1 HBx HI HVal c0 c1 c2 hb5
    gi_loopw [14] (fun i wr => ∃ j : Nat, j ≤ lv.length ∧ i = .int .i64 j ∧ VaL w (.slice x len cap) w5 (valsR pre) (lv.map fun n => 256 * k + n) g ((k : Int), f, d) y j wr)
      (fun i _ => lv.length - (intOf i).toNat)
    case atStart => exact ⟨0, Nat.zero_le _, rfl, HL0.out⟩
    case round =>
      obtain ⟨j, hj, rfl, hL⟩ := hrel
      by_cases hlt : j < lv.length
      · have hlt' : (j : Int) < lv.length := by omega
        obtain ⟨b, rfl, hb5, hd0⟩ := hy j hlt
        have hLd := hL.drew
        obtain ⟨⟨v, hv, hrow, hyb⟩, hcb, hrb, hko, hbl⟩ := hLd
        have d0 : wr.cell? ⟨b, j, none⟩ = some (.int .i64 ((lv.getD j 0 : Nat) : Int)) := by
          have := (hyb b rfl hb5).2.2
          have h2 : wr.drew.cell? ⟨b, j, none⟩ = w5.cell? ⟨b, j, none⟩ := by unfold World.cell?; rw [this]
          exact h2.trans hd0
        have hz := HSm.out j
        have HTk := Lib.hid (take_map_succ hlt (fun n => 256 * k + n))
        have hsz5 : w5.heap.size ≤ wr.drew.heap.size := hbl.size
        have hn0 : w.heap.size ≤ wr.drew.heap.size := Nat.le_trans (Nat.le_trans HBW.out.size HB5.out.size) hsz5
        have hL1 : (valsR pre).length ≤ 65536 := hle
        have hL2 : (valsR pre).length + j + 1 ≤ 70000 := by omega
        have HVb := Lib.hid hv; have HRow := Lib.hid hrow; have HYb := Lib.hid hyb; have HCb := Lib.hid hcb; have HRb := Lib.hid hrb; have HKo := Lib.hid hko; have HBl := Lib.hid hbl
        have HS0 : Hid (VaS w v g ((k : Int), f, d) wr.drew) := Lib.hid ⟨hv, hcb⟩
        generalize lv.getD j 0 = z at *
        clear hL hv hrow hyb hcb hrb hko hbl hd0 HSm
        gi_wp2
        refine wpIn_region_roundM (m := 7) (S := fun W => W.cell? ⟨w.heap.size + 1, 0, none⟩ = some v ∧ W.cell? ⟨g, 0, none⟩ = some (.int .i64 (k : Nat)) ∧ VaS w v g ((k : Int), f, d) W) (by kernel_rfl) (by kernel_rfl) (fun ⟨_, _, h⟩ => h) (HS0.out.held) (fun hH => ?_)
        generalize wr.drew = WD at *
        refine wpAnyM_take (by kernel_rfl) (i := 0) (by decide) (oi := { dst := some 18, op := Go.Op.load 25 (Go.Operand.tmp 3), type := 25, pos := "roar.go:69", after := #[], guard := none }) (v := ?_) rfl (by kernel_rfl) (by kernel_rfl) (by kernel_rfl) (fun _ _ _ h => h) (Or.inl ⟨by rfl, ?_⟩) hH ?_
        rotate_left
        · intro w hSw; (try dsimp only at hSw); go_simp; try with_reducible rfl
        try simp only [Act.put, List.setIfInBounds_toArray, List.set_cons_zero, List.set_cons_succ]
        refine wpAnyM_take (by kernel_rfl) (i := 1) (by decide) (oi := { dst := some 19, op := Go.Op.fieldAddr 54 (Go.Operand.tmp 4) 0, type := 0, pos := "roar.go:69", after := #[], guard := none }) (v := ?_) rfl (by kernel_rfl) (by kernel_rfl) (by kernel_rfl) (fun _ _ _ h => h) (Or.inl ⟨by rfl, ?_⟩) hH ?_
        rotate_left
        · intro w hSw; (try dsimp only at hSw); go_simp; try with_reducible rfl
        try simp only [Act.put, List.setIfInBounds_toArray, List.set_cons_zero, List.set_cons_succ]
        refine wpAnyM_take (by kernel_rfl) (i := 2) (by decide) (oi := { dst := some 20, op := Go.Op.load 3 (Go.Operand.tmp 19), type := 3, pos := "roar.go:69", after := #[{ on := 1, ground := Go.Ground.data }], guard := none }) (v := ?_) rfl (by kernel_rfl) (by kernel_rfl) (by kernel_rfl) (fun _ _ _ h => h) (Or.inl ⟨by rfl, ?_⟩) hH ?_
        rotate_left
        · intro w hSw; (try dsimp only at hSw); go_simp; try with_reducible rfl
        try simp only [Act.put, List.setIfInBounds_toArray, List.set_cons_zero, List.set_cons_succ]
        refine wpAnyM_take (by kernel_rfl) (i := 3) (by decide) (oi := { dst := some 21, op := Go.Op.move (Go.Operand.tmp 6), type := 3, pos := "roar.go:69", after := #[], guard := none }) (v := ?_) rfl (by kernel_rfl) (by kernel_rfl) (by kernel_rfl) (fun _ _ _ h => h) (Or.inl ⟨by rfl, ?_⟩) hH ?_
        rotate_left
        · intro w hSw; (try dsimp only at hSw); go_simp; try with_reducible rfl
        try simp only [Act.put, List.setIfInBounds_toArray, List.set_cons_zero, List.set_cons_succ]
        refine wpAnyM_one (i := 4) (by decide) (o := { dst := some 22, op := Go.Op.call { callee := Go.Callee.value (Go.Operand.func 36), args := #[Go.Operand.tmp 20, Go.Operand.tmp 21], argTypes := #[3, 3] }, type := 3, pos := "roar.go:69", after := #[{ on := 2, ground := Go.Ground.data }, { on := 3, ground := Go.Ground.data }], guard := none }) (by kernel_rfl) rfl (fun K hK => ?_)
        go_simp
        go_at_call 36
        refine (num_any k z (by omega) hz _).mono ?_
        rintro e w5 ⟨rfl, rfl⟩
        first | refine hK.out _ _ (hH) (fun hH4 => ?_) | (go_wp2_with fail; refine hK.out _ _ (hH) (fun hH4 => ?_))
        clear hK K hH
        try simp only [Act.put, List.setIfInBounds_toArray, List.set_cons_zero, List.set_cons_succ]
        refine wpAnyM_one (i := 5) (by decide) (o := { dst := some 23, op := Go.Op.buildSlice 25 1 #[(0, Go.Operand.tmp 22)], type := 25, pos := "roar.go:69", after := #[{ on := 4, ground := Go.Ground.data }], guard := none }) (by kernel_rfl) rfl (fun K hK => ?_)
        go_simp
        first | refine hK.out _ _ ((hH4.2.2.under ((Below.refl _ _).alloc (Nat.le_refl _) _)).held) (fun hH5 => ?_) | (go_wp2_with fail; refine hK.out _ _ ((hH4.2.2.under ((Below.refl _ _).alloc (Nat.le_refl _) _)).held) (fun hH5 => ?_))
        clear hK K hH4
        try simp only [Act.put, List.setIfInBounds_toArray, List.set_cons_zero, List.set_cons_succ]
        refine wpAnyM_one (i := 6) (by decide) (o := { dst := some 24, op := Go.Op.call { callee := Go.Callee.builtin Go.Builtin.append, args := #[Go.Operand.tmp 18, Go.Operand.tmp 23], argTypes := #[25, 25] }, type := 25, pos := "roar.go:69", after := #[{ on := 0, ground := Go.Ground.data }, { on := 5, ground := Go.Ground.data }, { on := 4, ground := Go.Ground.chain }], guard := none }) (by kernel_rfl) rfl (fun K hK => ?_)
        rw [if_pos (by rfl)]
        refine wp_append_lies (P := Try.prog) _ _ _ _ rfl w.heap.size 3 i0 (.int .i64 0) 1 8 Try.underlying25 HInf.out HZ0.out HZ1.out HZ2.out rfl (by decide) _ _ _ rfl (HRow.out.alloc _) ⟨WD.heap.size, 0, none⟩ 1 1 [.int .i64 ((256 * k + z : Nat) : Int)] rfl rfl (cell_one_new _ _ _) (by simp [Value.oneCell']) (by decide) (by unfold maxLen; omega) (by omega) (by simp; omega) _ rfl ?_
        intro g' cap' w6 hown' hgrow hlie hlt6
        obtain ⟨hv1, hv2, hr2, hk2, hb2⟩ := HVb.out.appended (by decide) HRow.out hn0 (by omega) hown' hgrow
        first | refine hK.out _ _ (VaS.held ⟨hv1, boxC_far HCb.out HRow.out hgrow⟩) (fun hH6 => ?_) | (go_wp2_with fail; refine hK.out _ _ (VaS.held ⟨hv1, boxC_far HCb.out HRow.out hgrow⟩) (fun hH6 => ?_))
        clear hK K hH5
        try simp only [Act.put, List.setIfInBounds_toArray, List.set_cons_zero, List.set_cons_succ]
        have hf := hv1.frozen
        refine wpAnyM_last (by kernel_rfl) (o := { dst := none, op := Go.Op.store 25 (Go.Operand.tmp 3) (Go.Operand.tmp 24), type := 0, pos := "roar.go:69", after := #[{ on := 6, ground := Go.Ground.data }, { on := 6, ground := Go.Ground.chain }, { on := 0, ground := Go.Ground.phase }, { on := 1, ground := Go.Ground.phase }, { on := 2, ground := Go.Ground.phase }, { on := 3, ground := Go.Ground.phase }, { on := 4, ground := Go.Ground.phase }, { on := 5, ground := Go.Ground.phase }, { on := 6, ground := Go.Ground.phase }], guard := none }) rfl (by kernel_rfl) (fun K hK => ?_)
        go_simp
        refine hK.out _ _ ?_
        clear hK K
        try simp only [Act.put, List.setIfInBounds_toArray, List.set_cons_zero, List.set_cons_succ]
        have HL1 := Lib.hid (VaL.next HVb.out HRow.out HYb.out HCb.out HRb.out HKo.out HBl.out hn0 hsz5 hown' hgrow hlie HTk.out)
        clear hH6 hb2 hk2 hr2 hv2 hv1 hlt6 hlie hgrow hown' hf d0
        gi_wp2
        go_roundw
        case rel => exact ⟨j + 1, by omega, by simp, HL1.out⟩
        case measure => simp [intOf]; omega
      · obtain rfl : j = lv.length := by omega
        have hge : ¬ (lv.length : Int) < lv.length := by omega
        obtain ⟨⟨v, hv, hrow, _⟩, hcb, hrb, hko, hbl⟩ := hL
        rw [List.take_of_length_le (by rw [List.length_map]; exact Nat.le_refl _), ← HT.out] at hrow
        have hlen : (valsR (pre ++ [((k : Int), f, d)])).length = (valsR pre).length + lv.length := by rw [HT.out, List.length_append, List.length_map]
        rw [← hlen] at hrow
        have hW5 := HB5.out
        have hbW := HBW.out
        have HP : Hid (KeepsOthers W wr ∧ KpC (w.heap.size + 1 + 1) x len W wr ∧ VaI w (.slice x len cap) (pre ++ [((k : Int), f, d)]) wr) := Lib.hid ⟨(keepsB_below hW5).trans hko, ⟨hrb.trans HKp.out.symm, fun b o e hl => (hbl.block b (HX.out b o e hl)).trans (hW5.block b (Nat.lt_of_lt_of_le (HX.out b o e hl) hbW.size))⟩, ⟨⟨v, hv, hrow, trivial⟩, hrb⟩, hbW.trans ((hW5.mono hbW.size).trans hbl)⟩
        clear hv hrow hcb hrb hko hbl hlen hW5 hbW hy
        gi_wp2
        exact HP.out
  case done =>
    rintro D ys W hD rfl ⟨⟨⟨v, hv, hrow, _⟩, hbl⟩, hB⟩ hK
    have hc := hv.cell
    rw [HV.out] at hrow
    have HN : Hid (ValsRes w (valsZ r) (.returned v) (W.putObj D (.deferred none))) := Lib.hid (by
      obtain ⟨x2, c2, rfl, hI⟩ := row_ints rfl (ownsRow_putObj hrow _ hK rfl)
      exact ⟨x2, c2, rfl, hI, hB.grown (grownBy_putObj' W D _) hB.size (fun k e => by cases e; omega)⟩)
    clear hbl hB hv hrow
    go_wp2
    try rw [Exit.noGoto_ret]
    exact ⟨by simp, .inl ⟨_, _, rfl, run_takeDeferred hK, _, results_tmp (t := 2) rfl _ _ _, HN.out⟩⟩
  case stop =>
    rintro D cd pre W hD hSp h hK
    exact h.elim
end Go.Proofs.Ytbfchlfagdhglaa
/- cont.Select: the number of a place. -/
namespace Go.Proofs.Ytbfchlfagdhglaa
open Go.RowKit
attribute [local go_sem] Oper.semAt_some

theorem place_at {s : Bs} {x : Nat} (hx : x < 256) (hs : s x = true) : (vals s)[(valsTo s x).length]? = some x := by
  obtain ⟨r, e, _⟩ := valsTo_take s (x + 1) 256 (by omega)
  rw [valsTo_succ s x, if_pos hs] at e
  show (valsTo s 256)[_]? = _
  rw [e, List.getElem?_append_left (by simp), List.getElem?_append_right (Nat.le_refl _)]; simp
/-- What Select answers. -/
def selOk (s : Bs) (p : Int) : Bool := decide (0 ≤ p) && decide (p < (vals s).length)
def selN (s : Bs) (p : Int) : Nat := if selOk s p = true then (vals s)[p.toNat]?.getD 0 else 0
def selV (s : Bs) (p : Int) : Value := .tuple #[.int .i64 (selN s p : Nat), .bool (selOk s p)]
theorem sel_hit {s : Bs} {x : Nat} {p : Int} (hx : x < 256) (hs : s x = true) (hp : ((valsTo s x).length : Int) = p) : selV s p = .tuple #[.int .i64 (x : Nat), .bool true] := by
  have h := place_at hx hs
  obtain ⟨h1, _⟩ := List.getElem?_eq_some_iff.1 h
  subst hp
  have ho : selOk s ((valsTo s x).length : Int) = true := by unfold selOk; simp; omega
  unfold selV selN
  rw [if_pos ho, ho, Int.toNat_natCast, h]; rfl
/-- No place ahead of k is p. -/
def NoneAt (p : Int) (k : Nat) : Prop := ∀ j : Nat, j < k → (j : Int) ≠ p
theorem sel_miss {s : Bs} {p : Int} (h : NoneAt p (vals s).length) : selV s p = .tuple #[.int .i64 0, .bool false] := by
  have ho : selOk s p = false := by
    unfold selOk
    rw [Bool.and_eq_false_iff, decide_eq_false_iff_not, decide_eq_false_iff_not]
    rcases Int.lt_or_le p 0 with h0 | h0
    · exact .inl (by omega)
    · refine .inr fun h1 => h p.toNat (by omega) (by omega)
  unfold selV selN
  rw [ho]; rfl
theorem results_sel {fn : Func} {t u : Tmp} (h : fn.results = #[.cell t 3, .cell u 4]) {tmps : Array Value} {w : World} {g k : Nat} {x : Int} {b : Bool} (hp : tmps.getD t undef = .pointer (some ⟨g, 0, none⟩)) (hq : tmps.getD u undef = .pointer (some ⟨k, 0, none⟩))
    (hx : w.cell? ⟨g, 0, none⟩ = some (.int .i64 x)) (hb : w.cell? ⟨k, 0, none⟩ = some (.bool b)) : (results fn tmps).run Try.prog w = .ok (.tuple #[.int .i64 x, .bool b]) w := by
  rw [Array.getD_eq_getD_getElem?] at hp hq
  simp [results, h, hp, hq, asAddr, go_sem, hx, hb, Try.isAgg3, Try.isAgg4]
/-- The blocks that are there ahead of the loop: the place's, the two results'. -/
def SelB (w : World) (p x : Int) (b : Bool) (W : World) : Prop := (Blk W (w.heap.size + 1) 3 #[.int .i64 p] ∧ Blk W (w.heap.size + 1 + 1) 3 #[.int .i64 x]) ∧ Blk W (w.heap.size + 1 + 1 + 1) 4 #[.bool b]
theorem SelB.start (w : World) (f : Int) (d : List UInt8) (p : Int) : SelB w p 0 false ((((w.alloc (.cells #[.int .i64 f, .string ⟨d.toArray⟩] 52)).alloc (.cells #[.int .i64 p] 3)).alloc (.cells #[.int .i64 0] 3)).alloc (.cells #[.bool false] 4)) := by
  have h1 := ((Blk.new (w.alloc (.cells #[.int .i64 f, .string ⟨d.toArray⟩] 52)) 3 #[.int .i64 p]).alloc (.cells #[.int .i64 0] 3)).alloc (.cells #[.bool false] 4)
  have h2 := (Blk.new ((w.alloc (.cells #[.int .i64 f, .string ⟨d.toArray⟩] 52)).alloc (.cells #[.int .i64 p] 3)) 3 #[.int .i64 0]).alloc (.cells #[.bool false] 4)
  have h3 := Blk.new (((w.alloc (.cells #[.int .i64 f, .string ⟨d.toArray⟩] 52)).alloc (.cells #[.int .i64 p] 3)).alloc (.cells #[.int .i64 0] 3)) 4 #[.bool false]
  rw [World.size_alloc] at h1
  rw [World.size_alloc, World.size_alloc] at h2
  rw [World.size_alloc, World.size_alloc, World.size_alloc] at h3
  exact ⟨⟨h1, h2⟩, h3⟩
theorem SelB.under {w a b : World} {p x : Int} {c : Bool} (h : SelB w p x c a) (hb : Below a.heap.size a b) : SelB w p x c b := ⟨⟨h.1.1.under hb, h.1.2.under hb⟩, h.2.under hb⟩
theorem SelB.far {w a : World} {p x : Int} {c : Bool} (h : SelB w p x c a) {q : Addr} (hq : w.heap.size + 1 + 1 + 1 < q.block) (v : Value) : SelB w p x c (a.setCell q v) := ⟨⟨h.1.1.far (by omega) v, h.1.2.far (by omega) v⟩, h.2.far (by omega) v⟩
theorem SelB.put {w a : World} {p x : Int} {c : Bool} (h : SelB w p x c a) (y : Int) (e : Bool) : SelB w p y e ((a.setCell ⟨w.heap.size + 1 + 1, 0, none⟩ (.int .i64 y)).setCell ⟨w.heap.size + 1 + 1 + 1, 0, none⟩ (.bool e)) :=
  ⟨⟨(h.1.1.far (p := ⟨w.heap.size + 1 + 1, 0, none⟩) (by simp) _).far (p := ⟨w.heap.size + 1 + 1 + 1, 0, none⟩) (by simp) _, (h.1.2.set_ 0 (.int .i64 y)).far (p := ⟨w.heap.size + 1 + 1 + 1, 0, none⟩) (by simp) _⟩, (h.2.far (p := ⟨w.heap.size + 1 + 1, 0, none⟩) (by simp) _).set_ 0 (.bool e)⟩
theorem SelB.cells {w a : World} {p x : Int} {c : Bool} (h : SelB w p x c a) : a.cell? ⟨w.heap.size + 1, 0, none⟩ = some (.int .i64 p) ∧ a.cell? ⟨w.heap.size + 1 + 1, 0, none⟩ = some (.int .i64 x) ∧ a.cell? ⟨w.heap.size + 1 + 1 + 1, 0, none⟩ = some (.bool c) ∧ a.frozen? ⟨w.heap.size + 1 + 1, 0, none⟩ = false ∧ a.frozen? ⟨w.heap.size + 1 + 1 + 1, 0, none⟩ = false :=
  ⟨h.1.1.cell 0, h.1.2.cell 0, h.2.cell 0, h.1.2.frozen 0, h.2.frozen 0⟩
theorem selB_own {β : Type} (w : World) (p x : Int) (c : Bool) : Own (fun (_ : β) W => SelB w p x c W) := fun s X Y row hs hg hr =>
  ⟨⟨blk_own _ _ (fun _ => #[.int .i64 p]) s X Y row hs.1.1 hg hr, blk_own _ _ (fun _ => #[.int .i64 x]) s X Y row hs.1.2 hg hr⟩, blk_own _ _ (fun _ => #[.bool c]) s X Y row hs.2 hg hr⟩
theorem SelB.book {w a : World} {p x : Int} {c : Bool} (h : SelB w p x c a) {D : Nat} (hD : w.heap.size + 1 + 1 + 1 < D) (o : Obj) : SelB w p x c (a.putObj D o) := ⟨⟨(World.putObj_heap_other (by omega)).trans h.1.1, (World.putObj_heap_other (by omega)).trans h.1.2⟩, (World.putObj_heap_other (by omega)).trans h.2⟩
theorem SelB.lt {w a : World} {p x : Int} {c : Bool} (h : SelB w p x c a) : w.heap.size + 1 + 1 + 1 < a.heap.size := h.2.lt
/-- What holds between two rounds, and when the loop is left. -/
def SelI (w w1 : World) (p : Int) (pre : List Nat) (W : World) : Prop :=
  (((Blk W (w1.heap.size + 1) 3 #[.int .i64 (pre.length : Nat)] ∧ Blk W (w1.heap.size + 1 + 1) 112 #[.pointer (some ⟨w1.heap.size, 0, none⟩)]) ∧ SelB w p 0 false W) ∧ NoneAt p pre.length) ∧ Below w.heap.size w W
def SelX (w : World) (s : Bs) (p : Int) (cd : Code) (_ : List Nat) (W : World) : Prop := ((∃ x b, SelB w p x b W ∧ selV s p = .tuple #[.int .i64 x, .bool b]) ∧ cd = .ret) ∧ Below w.heap.size w W
theorem selI_own (w w1 : World) (p : Int) (m : Nat) (hm : w.heap.size ≤ m) : OwnFrom m (SelI w w1 p) :=
  OwnFrom.and (OwnFrom.and (OwnFrom.and (OwnFrom.and (Own.from (blk_own _ _ (fun (pre : List Nat) => #[.int .i64 (pre.length : Nat)])) _) (Own.from (blk_own _ _ (fun _ => #[.pointer (some ⟨w1.heap.size, 0, none⟩)])) _)) (Own.from (selB_own w p 0 false) _)) (ownFrom_pure _ _)) (ownFrom_below (Nat.le_refl _) hm)
theorem selX_own (w : World) (s : Bs) (p : Int) (cd : Code) (m : Nat) (hm : w.heap.size ≤ m) : OwnFrom m (SelX w s p cd) :=
  OwnFrom.and (OwnFrom.and (Own.from (fun pre X Y row ⟨x, b, h, e⟩ hg hr => ⟨x, b, selB_own w p x b pre X Y row h hg hr, e⟩) _) (ownFrom_pure _ _)) (ownFrom_below (Nat.le_refl _) hm)

set_option maxRecDepth 100000 in
set_option maxHeartbeats 4000000 in
theorem select_any (f : Int) (hf1 : -9223372036854775808 ≤ f) (hf2 : f ≤ 9223372036854775807) (d : List UInt8) (hd : d.length ≤ 9223372036854775807) (p : Int) (w : World) :
    Calls Try.prog 35 #[contV f d, .int .i64 p] w fun e w' => e = .returned (selV (readS f d) p) ∧ Below w.heap.size w w' := by
  have hz := zero_set
  have hss := scl_size
  have hst := st_new
  have hB0 : Below w.heap.size w ((((w.alloc (.cells #[.int .i64 f, .string ⟨d.toArray⟩] 52)).alloc (.cells #[.int .i64 p] 3)).alloc (.cells #[.int .i64 0] 3)).alloc (.cells #[.bool false] 4)) := ((((Below.refl _ w).alloc (Nat.le_refl _) _).alloc (by simp) _).alloc (by simp; omega) _).alloc (by simp; omega) _
  have hSB0 := SelB.start w f d p
  have HR := Lib.hid (read_any f hf1 hf2 d hd ((((w.alloc (.cells #[.int .i64 f, .string ⟨d.toArray⟩] 52)).alloc (.cells #[.int .i64 p] 3)).alloc (.cells #[.int .i64 0] 3)).alloc (.cells #[.bool false] 4)))
  unfold readV contV at HR
  unfold contV
  generalize readS f d = s at *
  generalize decide (RightC f d) = b at *
  refine (callsIn_wide (n := 4)).1 ?_
  refine callsIn_of_wp_marks Try.func35 rfl trivial ?_ rfl
  simp only [Try.ntmps35, List.size_toArray, List.length_cons, List.length_nil, Nat.reduceAdd, Nat.reduceSub, Array.replicate_succ, Array.replicate_zero, List.push_toArray, List.append_toArray, List.nil_append, List.cons_append]
  rw [wpIn_wide]
  go_wp2_with fail
  refine HR.out.mono ?_
  rintro e w1 ⟨rfl, hb1⟩
  have hB1 := hB0.trans (hb1.mono hB0.size)
  have bS := Blk.new w1 92 (scl s)
  have hSB1 := hSB0.under hb1
  have hw1 := hSB1.lt
  clear hb1 hSB0
  go_wp2_with (go_at_call 55; refine (numbers_any _ _).mono ?_; rintro e w' ⟨rfl, rfl⟩)
  have bR0 := (Blk.new (w1.alloc (.cells (scl s) 92)) 3 #[.int .i64 0]).alloc (.cells #[.pointer (some ⟨w1.heap.size, 0, none⟩)] 112)
  have bL0 := Blk.new ((w1.alloc (.cells (scl s) 92)).alloc (.cells #[.int .i64 0] 3)) 112 #[.pointer (some ⟨w1.heap.size, 0, none⟩)]
  have bS0 := (bS.alloc (.cells #[.int .i64 0] 3)).alloc (.cells #[.pointer (some ⟨w1.heap.size, 0, none⟩)] 112)
  have hB4 : Below w1.heap.size w1 (((w1.alloc (.cells (scl s) 92)).alloc (.cells #[.int .i64 0] 3)).alloc (.cells #[.pointer (some ⟨w1.heap.size, 0, none⟩)] 112)) := (((Below.refl _ _).alloc (Nat.le_refl _) _).alloc (by simp) _).alloc (by simp; omega) _
  have hSB2 := hSB1.under hB4
  have hB5 := hB1.trans (hB4.mono hB1.size)
  have hsz0 : (((w1.alloc (.cells (scl s) 92)).alloc (.cells #[.int .i64 0] 3)).alloc (.cells #[.pointer (some ⟨w1.heap.size, 0, none⟩)] 112)).heap.size = w1.heap.size + 1 + 1 + 1 := by simp
  rw [World.size_alloc] at bR0
  rw [World.size_alloc, World.size_alloc] at bL0
  generalize (((w1.alloc (.cells (scl s) 92)).alloc (.cells #[.int .i64 0] 3)).alloc (.cells #[.pointer (some ⟨w1.heap.size, 0, none⟩)] 112)) = W0 at *
  refine (wpIn_wide (n := 4)).1 ?_
  refine wpIn_rangeFunc_nextD (n := 4) rfl (by decide) (gf := 70) (lb := #[.pointer (some ⟨w1.heap.size + 1 + 1, 0, none⟩)]) rfl trivial (enters_of Try.func70 (by kernel_rfl) rfl)
    (numbers_seq 3 (by decide) (w1.heap.size + 1 + 1) w1.heap.size s W0 bL0 bS0) keeps2_t (fun W l o hl => keeps2_b (B := W0.heap.size) (by omega) (by omega) W l o hl) (fun _ => rfl)
    (SelI w w1 p) (SelX w s p) (selI_own w w1 p _ (by omega)) (fun cd => selX_own w s p cd _ (by omega))
    ⟨⟨⟨⟨bR0, bL0⟩, hSB2⟩, fun j hj => by cases hj⟩, hB5⟩
    (fun x => { tmps := #[.agg #[.int .i64 f, .string ⟨d.toArray⟩], .int .i64 p, .pointer (some ⟨w.heap.size, 0, none⟩), .pointer (some ⟨w.heap.size + 1, 0, none⟩), .pointer (some ⟨w.heap.size + 1 + 1, 0, none⟩), .pointer (some ⟨w.heap.size + 1 + 1 + 1, 0, none⟩), .pointer (some ⟨w1.heap.size, 0, none⟩), .bool b, .pointer (some ⟨w1.heap.size + 1, 0, none⟩), .int .i64 (x : Nat), .tuple #[.agg (scl s), .bool b], .agg #[.int .i64 f, .string ⟨d.toArray⟩], .tuple #[.agg (scl s), .bool b], .agg (scl s), .bool b, .func (.func 70) #[] #[.pointer (some ⟨w1.heap.size + 1 + 1, 0, none⟩)], .int .i64 (x : Nat), undef, undef, undef, undef, undef, undef], defers := [] }) ?assign ?body ?done ?stop
  case assign =>
    intro l x W K hK
    gi_wp2
    exact hK
  case body =>
    rintro l pre x W ⟨⟨⟨⟨bR, bL⟩, hSB⟩, hne⟩, hB⟩ ⟨hx, hsx, hpre⟩
    have hlp : pre.length ≤ 256 := by rw [hpre]; exact Nat.le_trans (valsTo_le s x) (by omega)
    have c1 := bR.cell 0; have f1 := bR.frozen 0
    dsimp at c1
    obtain ⟨c0, c2, c3, f2, f3⟩ := hSB.cells
    by_cases he : (pre.length : Int) = p
    · have HX : Hid (SelX w s p .ret (pre ++ [x]) ((W.setCell ⟨w.heap.size + 1 + 1, 0, none⟩ (.int .i64 (x : Nat))).setCell ⟨w.heap.size + 1 + 1 + 1, 0, none⟩ (.bool true))) := Lib.hid ⟨⟨⟨x, true, hSB.put _ _, sel_hit hx hsx (by rw [← hpre]; exact he)⟩, rfl⟩, (hB.setCell (p := ⟨w.heap.size + 1 + 1, 0, none⟩) (by simp; omega) _).setCell (p := ⟨w.heap.size + 1 + 1 + 1, 0, none⟩) (by simp; omega) _⟩
      have c4 : (W.setCell ⟨w.heap.size + 1 + 1, 0, none⟩ (.int .i64 (x : Nat))).cell? ⟨w.heap.size + 1 + 1 + 1, 0, none⟩ = some (.bool false) := (World.cell?_setCell_other _ _ _ _ (by simp)).trans c3
      have he' : ((pre.length : Int) == p) = true := by simpa using he
      clear hne hpre bR bL hSB hB he
      gi_wp2
      exact ⟨(KeepsOthers.setCell _ _ _).trans (KeepsOthers.setCell _ _ _), HX.out⟩
    · have HI : Hid (SelI w w1 p (pre ++ [x]) (W.setCell ⟨w1.heap.size + 1, 0, none⟩ (.int .i64 ((pre.length : Int) + 1)))) := Lib.hid ⟨⟨⟨⟨by
          have := bR.set_ 0 (.int .i64 ((pre.length : Int) + 1))
          rw [show ((pre ++ [x]).length : Nat) = pre.length + 1 by simp]; exact this, bL.far (p := ⟨w1.heap.size + 1, 0, none⟩) (by simp) _⟩, hSB.far (q := ⟨w1.heap.size + 1, 0, none⟩) (by simp; omega) _⟩, fun j hj => by
            rw [List.length_append, List.length_singleton] at hj
            by_cases e : j = pre.length
            · rw [e]; exact he
            · exact hne j (by omega)⟩, hB.setCell (p := ⟨w1.heap.size + 1, 0, none⟩) (by simp; omega) _⟩
      have HK := Lib.hid (keeps2_set (Ba := w1.heap.size + 1 + 1) (Bb := w1.heap.size) W ⟨w1.heap.size + 1, 0, none⟩ (.int .i64 ((pre.length : Int) + 1)) (by simp) (by simp))
      have he' : ((pre.length : Int) == p) = false := by simpa using he
      clear hne hpre bR bL hSB hB he
      gi_wp2
      exact ⟨KeepsOthers.setCell _ _ _, HK.out, HI.out⟩
  case done =>
    rintro D ys W hD rfl ⟨⟨⟨⟨bR, bL⟩, hSB⟩, hne⟩, hB⟩ hK
    have HV := Lib.hid (sel_miss hne)
    obtain ⟨c0, c2, c3, f2, f3⟩ := hSB.cells
    have c4 : (W.setCell ⟨w.heap.size + 1 + 1, 0, none⟩ (.int .i64 0)).cell? ⟨w.heap.size + 1 + 1 + 1, 0, none⟩ = some (.bool false) := (World.cell?_setCell_other _ _ _ _ (by simp)).trans c3
    have hSE := (hSB.put 0 false).book (D := D) (by omega) (.deferred none)
    have hBe := (hB.setCell (p := ⟨w.heap.size + 1 + 1, 0, none⟩) (by simp; omega) (.int .i64 0)).setCell (p := ⟨w.heap.size + 1 + 1 + 1, 0, none⟩) (by simp; omega) (.bool false)
    have HE := Lib.hid (show _ ∧ _ ∧ _ from ⟨hSE.cells.2.1, hSE.cells.2.2.1, hBe.grown (grownBy_putObj' _ D (.deferred none)) hBe.size (fun k e => by cases e; omega)⟩)
    have hK2 : ((W.setCell ⟨w.heap.size + 1 + 1, 0, none⟩ (.int .i64 0)).setCell ⟨w.heap.size + 1 + 1 + 1, 0, none⟩ (.bool false)).heap[D]? = some (.deferred (some [])) := by
      rw [Below.heap_setCell _ _ _ _ (by simp; omega), Below.heap_setCell _ _ _ _ (by simp; omega)]; exact hK
    clear bR bL hSB hne hB hSE hBe
    go_wp2
    try rw [Exit.noGoto_ret]
    exact ⟨by simp, .inl ⟨_, _, rfl, run_takeDeferred hK2, _, results_sel (t := 4) (u := 5) rfl rfl rfl HE.out.1 HE.out.2.1, ⟨by rw [HV.out], HE.out.2.2⟩⟩⟩
  case stop =>
    rintro D cd pre W hD hSp ⟨⟨⟨x, c, hSB, hV⟩, rfl⟩, hB⟩ hK
    have HV := Lib.hid hV
    have hSE := hSB.book (D := D) (by omega) (.deferred none)
    have HE := Lib.hid (show _ ∧ _ ∧ _ from ⟨hSE.cells.2.1, hSE.cells.2.2.1, hB.grown (grownBy_putObj' _ D (.deferred none)) hB.size (fun k e => by cases e; omega)⟩)
    clear hSB hV hB hSE
    refine (wpIn_wide (n := 4)).2 ?_
    go_wp2
    try rw [Exit.noGoto_ret]
    exact ⟨by simp, .inl ⟨_, _, rfl, run_takeDeferred hK, _, results_sel (t := 4) (u := 5) rfl rfl rfl HE.out.1 HE.out.2.1, ⟨by rw [HV.out], HE.out.2.2⟩⟩⟩
end Go.Proofs.Ytbfchlfagdhglaa
