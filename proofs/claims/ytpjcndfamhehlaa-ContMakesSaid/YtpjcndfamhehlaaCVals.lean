/- cont.Values, Rank, Select: the numbers of a container gone through. -/
import Derived.Test.YtpjcndfamhehlaaCHas
import Derived.Laws.MakeOwn
import Derived.Deep.Onto
namespace Go.Proofs.Ytpjcndfamhehlaa
open Go.RowKit
attribute [local go_sem] Oper.semAt_some

def intVs (l : List Nat) : List Value := l.map fun (n : Nat) => Value.int .i64 (n : Int)
theorem intVs_length (l : List Nat) : (intVs l).length = l.length := by simp [intVs]
theorem info_int : (Try.prog.info? 3).map (fun i => (i.zero, i.size, i.bytes)) = some (some (.int .i64 0), 1, 8) := by kernel_rfl
def zsOf (l : List Nat) : List Int := l.map fun (n : Nat) => (n : Int)
theorem zsOf_length (l : List Nat) : (zsOf l).length = l.length := by simp [zsOf]
theorem zsOf_get (l : List Nat) (j : Nat) : (zsOf l)[j]?.getD 0 = (l.getD j 0 : Nat) := by
  unfold zsOf
  rw [List.getD_eq_getElem?_getD, List.getElem?_map]
  cases l[j]? <;> rfl
/-- A row of numbers that is owned is a list of numbers. -/
theorem row_zs {w : World} {base : Nat} {x : Option Addr} {n cap : Nat} {l : List Nat} (hn : l.length = n) (h : w.ownsRow base 3 1 (.slice x n cap) n (intVs l)) : Ints w.heap.size w (.slice x n cap) (zsOf l) := by
  rcases h.2 with ⟨e, h0⟩ | ⟨g, c2, cur, e, _, hg, _⟩
  · subst h0
    exact .inl ⟨⟨x, cap, rfl⟩, List.eq_nil_of_length_eq_zero (by rw [zsOf_length]; exact hn)⟩
  · cases e
    refine .inr ⟨g, 0, cap, by rw [zsOf_length, hn], (Array.getElem?_eq_some_iff.1 hg).1, fun j hj => ?_⟩
    rw [zsOf_length, hn] at hj
    have := h.cells (g := g) rfl j (.int .i64 (l.getD j 0 : Nat)) (by
      have hl : j < l.length := by omega
      unfold intVs
      rw [List.getElem?_map, List.getD_eq_getElem?_getD, List.getElem?_eq_getElem hl]; rfl)
    rw [Nat.zero_add, zsOf_get]
    rwa [show (⟨g, 0, none⟩ : Addr).add j = ⟨g, j, none⟩ by unfold Addr.add; split <;> simp_all] at this

set_option maxRecDepth 100000 in
set_option maxHeartbeats 4000000 in
theorem values_any (f : Int) (hf1 : -9223372036854775808 ≤ f) (hf2 : f ≤ 9223372036854775807) (d : List UInt8) (hd : d.length ≤ 9223372036854775807) (w : World) :
    Calls Try.prog 22 #[contV f d] w fun e w' => ∃ v, e = .returned v ∧ w'.ownsRow w.heap.size 3 1 v (vals (readS f d)).length (intVs (vals (readS f d))) ∧ Below w.heap.size w w' := by
  have hz := zero_set
  have hss := scl_size
  have hst := st_new
  have hB0 := (Below.refl _ w).alloc (Nat.le_refl _) (.cells #[.int .i64 f, .string ⟨d.toArray⟩] 23)
  have HR := Lib.hid (read_any f hf1 hf2 d hd (w.alloc (.cells #[.int .i64 f, .string ⟨d.toArray⟩] 23)))
  unfold readV contV at HR
  unfold contV
  generalize readS f d = s at *
  generalize decide (RightC f d) = b at *
  obtain ⟨i0, hi, hz0, hz1, hz2⟩ := info_parts info_int
  have hlv : (vals s).length ≤ 256 := valsTo_le s 256
  have hmk : ∀ W : World, (Instr.makeSlice 24 (.int .i64 0) (.int .i64 ((vals s).length : Nat))).run Try.prog W = .ok (.slice (some ⟨W.heap.size, 0, none⟩) 0 (vals s).length) (W.alloc (.cells (madeCells #[.int .i64 0] (vals s).length) 3)) := fun W => by
    have h := run_make (P := Try.prog) W 24 3 i0 (.int .i64 0) Try.underlying24 hi hz0 .i64 .i64 0 ((vals s).length : Nat) (by omega) (by omega) (by rw [hz2]; omega) (by omega)
    rw [hz1] at h
    rw [h]
    simp [Value.cells]
  have HInf := Lib.hid hi; have HZ0 := Lib.hid hz0; have HZ1 := Lib.hid hz1; have HZ2 := Lib.hid hz2
  clear hi hz0 hz1 hz2
  refine (callsIn_wide (n := 4)).1 ?_
  refine callsIn_of_wp_marks Try.func22 rfl trivial ?_ rfl
  simp only [Try.ntmps22, List.size_toArray, List.length_cons, List.length_nil, Nat.reduceAdd, Nat.reduceSub, Array.replicate_succ, Array.replicate_zero, List.push_toArray, List.append_toArray, List.nil_append, List.cons_append]
  rw [wpIn_wide]
  go_wp2_with fail
  refine HR.out.mono ?_
  rintro e w1 ⟨rfl, hb1⟩
  have hB1 := hB0.trans (hb1.mono hB0.size)
  have hB2 := hB1.alloc hB1.size (.cells (scl s) 48)
  have bS := Blk.new w1 48 (scl s)
  have HC := Lib.hid (count_any w1.heap.size s _ bS)
  have hw1 := hB1.size
  go_wp2_with fail
  refine HC.out.mono ?_
  rintro e w2 ⟨rfl, hb2⟩
  have hB3 := hB2.trans (hb2.mono hB2.size)
  have bS2 := bS.under hb2
  have hl12 : w1.heap.size < w2.heap.size := bS2.lt
  obtain ⟨c, hc⟩ : ∃ c, c = (vals s).length := ⟨_, rfl⟩
  rw [← hc] at hmk hlv
  rw [← hc]
  clear hc hb1 hb2 hB1 hB2 bS HC
  go_wp2_with (go_at_call 37; refine (numbers_any _ _).mono ?_; rintro e w' ⟨rfl, rfl⟩)
  have hrow0 := World.ownsRow_made (base := w2.heap.size) (e := 3) (size := 1) w2 (madeCells #[.int .i64 0] c) c (Nat.le_refl _) (by unfold maxLen; omega) (by simp [madeCells])
  have hrow1 := (hrow0.alloc (.cells #[.slice (some ⟨w2.heap.size, 0, none⟩) 0 c] 24)).alloc (.cells #[.pointer (some ⟨w1.heap.size, 0, none⟩)] 67)
  have hbx0 := (Boxed.new (w2.alloc (.cells (madeCells #[.int .i64 0] c) 3)) 24 (.slice (some ⟨w2.heap.size, 0, none⟩) 0 c)).alloc (.cells #[.pointer (some ⟨w1.heap.size, 0, none⟩)] 67)
  have hbl0 := Blk.new ((w2.alloc (.cells (madeCells #[.int .i64 0] c) 3)).alloc (.cells #[.slice (some ⟨w2.heap.size, 0, none⟩) 0 c] 24)) 67 #[.pointer (some ⟨w1.heap.size, 0, none⟩)]
  have hB4 : Below w2.heap.size w2 (((w2.alloc (.cells (madeCells #[.int .i64 0] c) 3)).alloc (.cells #[.slice (some ⟨w2.heap.size, 0, none⟩) 0 c] 24)).alloc (.cells #[.pointer (some ⟨w1.heap.size, 0, none⟩)] 67)) := (((Below.refl _ _).alloc (Nat.le_refl _) _).alloc (by simp) _).alloc (by simp; omega) _
  have hsz0 : (((w2.alloc (.cells (madeCells #[.int .i64 0] c) 3)).alloc (.cells #[.slice (some ⟨w2.heap.size, 0, none⟩) 0 c] 24)).alloc (.cells #[.pointer (some ⟨w1.heap.size, 0, none⟩)] 67)).heap.size = w2.heap.size + 1 + 1 + 1 := by simp
  rw [World.size_alloc] at hbx0
  rw [World.size_alloc, World.size_alloc] at hbl0
  have bS3 := bS2.under hB4
  clear hrow0
  generalize (((w2.alloc (.cells (madeCells #[.int .i64 0] c) 3)).alloc (.cells #[.slice (some ⟨w2.heap.size, 0, none⟩) 0 c] 24)).alloc (.cells #[.pointer (some ⟨w1.heap.size, 0, none⟩)] 67)) = W0 at *
  refine (wpIn_wide (n := 4)).1 ?_
  refine wpIn_rangeFunc_nextD (n := 4) rfl (by decide) (gf := 45) (lb := #[.pointer (some ⟨w2.heap.size + 1 + 1, 0, none⟩)]) rfl trivial (enters_of Try.func45 (by kernel_rfl) rfl)
    (numbers_seq 3 (by decide) (w2.heap.size + 1 + 1) w1.heap.size s W0 hbl0 bS3) keeps2_t (fun W l o hl => keeps2_b (B := W0.heap.size) (by omega) (by omega) W l o hl) (fun _ => rfl)
    (fun pre W => ((∃ v, Boxed W (w2.heap.size + 1) 24 v ∧ W.ownsRow w2.heap.size 3 1 v pre.length (intVs pre) ∧ True) ∧ Blk W (w2.heap.size + 1 + 1) 67 #[.pointer (some ⟨w1.heap.size, 0, none⟩)]) ∧ Below w2.heap.size w2 W)
    (fun _ _ _ => False)
    (OwnFrom.and (OwnFrom.and (Own.from (holdsRow_own w2.heap.size (w2.heap.size + 1) 24 3 1 (fun (pre : List Nat) => pre.length) (fun pre => intVs pre) (fun _ _ => True)) _) (Own.from (blk_own _ _ (fun _ => #[.pointer (some ⟨w1.heap.size, 0, none⟩)])) _)) (ownFrom_below (Nat.le_refl _) (by omega)))
    (fun _ _ _ _ _ hs _ _ => hs)
    ⟨⟨⟨_, hbx0, hrow1, trivial⟩, hbl0⟩, hB4⟩
    (fun x => { tmps := #[.agg #[.int .i64 f, .string ⟨d.toArray⟩], .pointer (some ⟨w.heap.size, 0, none⟩), .slice none 0 0, .pointer (some ⟨w1.heap.size, 0, none⟩), .bool b, .pointer (some ⟨w2.heap.size + 1, 0, none⟩), .int .i64 (x : Nat), .tuple #[.agg (scl s), .bool b], .agg #[.int .i64 f, .string ⟨d.toArray⟩], .tuple #[.agg (scl s), .bool b], .agg (scl s), .bool b, .int .i64 c, .slice (some ⟨w2.heap.size, 0, none⟩) 0 c, .func (.func 45) #[] #[.pointer (some ⟨w2.heap.size + 1 + 1, 0, none⟩)], .int .i64 (x : Nat), undef, undef, undef, undef, undef], defers := [] }) ?assign ?body ?done ?stop
  case assign =>
    intro l x W K hK
    gi_wp2
    exact hK
  case body =>
    rintro l pre x W ⟨⟨⟨v, hv, hrow, _⟩, hbl⟩, hB⟩ ⟨hx, hsx, hpre⟩
    have hc := hv.cell
    have hlp : pre.length ≤ 256 := by rw [hpre]; exact Nat.le_trans (valsTo_le s x) (by omega)
    have HB := Lib.hid hB
    have HBl := Lib.hid hbl
    have HT : Hid (intVs (pre ++ [x]) = intVs pre ++ [Value.int .i64 (x : Nat)] ∧ (pre ++ [x]).length = pre.length + 1) := Lib.hid ⟨by simp [intVs], by simp⟩
    clear hpre hsx hB hbl
    gi_wp2_with (gi_at_builtin; refine wpListIn_append_own _ rfl _ _ 24 rfl w2.heap.size 3 i0 (.int .i64 0) 1 8 Try.underlying24 HInf.out HZ0.out HZ1.out HZ2.out rfl (by decide) _ _ _ rfl (hrow.alloc _) ⟨W.heap.size, 0, none⟩ 1 1 [.int .i64 x] rfl rfl (cell_one_new _ _ _) (by simp [Value.oneCell']) (by unfold maxLen; omega) (by omega) (by have := HB.out.size; simp; omega) ?_; intro v' w3 hown' hgrow _; obtain ⟨g', cap', rfl⟩ := ownsRow_succ hown'; obtain ⟨hv1, hv2, hr2, hk2, hb2⟩ := hv.appended (by decide) hrow HB.out.size (by omega) hown' hgrow; have hc1 := hv1.cell; have hf1 := hv1.frozen)
    have hbl2 := keep_box (C := w2.heap.size + 1) (v' := .slice (some ⟨g', 0, none⟩) (pre.length + 1) cap') HBl.out (by decide) hrow hgrow (by omega)
    refine ⟨hk2, ⟨hbl2, hb2.block w1.heap.size hl12⟩, ⟨⟨⟨_, hv2, ?_, trivial⟩, hbl2.trans HBl.out⟩, HB.out.trans hb2⟩⟩
    rw [HT.out.1, HT.out.2]; exact hr2
  case done =>
    rintro D ys W hD rfl ⟨⟨⟨v, hv, hrow, _⟩, hbl⟩, hB⟩ hK
    have hc := hv.cell
    have HN : Hid (∃ v', Ending.returned v = .returned v' ∧ (W.putObj D (.deferred none)).ownsRow w.heap.size 3 1 v' (vals s).length (intVs (vals s)) ∧ Below w.heap.size w (W.putObj D (.deferred none))) := Lib.hid ⟨v, rfl, World.ownsRow.mono (ownsRow_putObj hrow _ hK rfl) hB3.size, hB3.trans ((hB.grown (grownBy_putObj' W D _) hB.size (fun k e => by cases e; omega)).mono hB3.size)⟩
    clear hbl hB hv hrow
    go_wp2
    try rw [Exit.noGoto_ret]
    exact ⟨by simp, .inl ⟨_, _, rfl, run_takeDeferred hK, _, results_tmp (t := 2) rfl _ _ _, HN.out⟩⟩
  case stop =>
    rintro D cd pre W hD hSp h hK
    exact h.elim
end Go.Proofs.Ytpjcndfamhehlaa
