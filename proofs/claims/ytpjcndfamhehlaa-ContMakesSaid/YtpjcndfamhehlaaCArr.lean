/- (*set).asArray. -/
import Derived.Test.YtpjcndfamhehlaaCIter
import Derived.Test.YtpjcndfamhehlaaCRefFM
import Derived.Test.YtpjcndfamhehlaaCEnd
import Derived.RangeFuncBox
namespace Go.Proofs.Ytpjcndfamhehlaa
open Go.RowKit
attribute [local go_sem] Oper.semAt_some

set_option maxRecDepth 100000 in
set_option maxHeartbeats 4000000 in
theorem asArray_any (B : Nat) (s : Bs) (w : World) (bB : Blk w B 48 (scl s)) :
    Calls Try.prog 52 #[.pointer (some ⟨B, 0, none⟩)] w fun e w' => ∃ v, e = .returned v ∧ w'.ownsRow w.heap.size 5 1 v (arrTo s 256).length (byteVs (arrTo s 256)) ∧ Below w.heap.size w w' := by
  obtain ⟨i0, hi, hz0, hz1, hz2⟩ := info_parts info_u8
  have HInf := Lib.hid hi; have HZ0 := Lib.hid hz0; have HZ1 := Lib.hid hz1; have HZ2 := Lib.hid hz2
  clear hi hz0 hz1 hz2
  have hbl0 := Blk.new (w.alloc (.cells #[.slice none 0 0] 69)) 67 #[.pointer (some ⟨B, 0, none⟩)]
  have hbx0 := (Boxed.new w 69 (.slice none 0 0)).alloc (.cells #[.pointer (some ⟨B, 0, none⟩)] 67)
  have hB0 : Below w.heap.size w ((w.alloc (.cells #[.slice none 0 0] 69)).alloc (.cells #[.pointer (some ⟨B, 0, none⟩)] 67)) := ((Below.refl _ w).alloc (Nat.le_refl _) _).alloc (by simp) _
  have hsz0 : ((w.alloc (.cells #[.slice none 0 0] 69)).alloc (.cells #[.pointer (some ⟨B, 0, none⟩)] 67)).heap.size = w.heap.size + 1 + 1 := by simp
  have hrow0 := World.ownsRow_nil ((w.alloc (.cells #[.slice none 0 0] 69)).alloc (.cells #[.pointer (some ⟨B, 0, none⟩)] 67)) w.heap.size 5 1
  rw [World.size_alloc] at hbl0
  have bB0 := bB.under hB0
  have hBlt := bB.lt
  refine (callsIn_wide (n := 4)).1 ?_
  refine callsIn_of_wp_marks Try.func52 rfl trivial ?_ rfl
  simp only [Try.ntmps52, List.size_toArray, List.length_cons, List.length_nil, Nat.reduceAdd, Nat.reduceSub, Array.replicate_succ, Array.replicate_zero, List.push_toArray, List.append_toArray, List.nil_append, List.cons_append]
  rw [wpIn_wide]
  go_wp2_with (go_at_call 37; refine (numbers_any _ _).mono ?_; rintro e w' ⟨rfl, rfl⟩)
  generalize ((w.alloc (.cells #[.slice none 0 0] 69)).alloc (.cells #[.pointer (some ⟨B, 0, none⟩)] 67)) = W0 at *
  refine (wpIn_wide (n := 4)).1 ?_
  refine wpIn_rangeFunc_nextD (n := 4) rfl (by decide) (gf := 45) (lb := #[.pointer (some ⟨w.heap.size + 1, 0, none⟩)]) rfl trivial (enters_of Try.func45 (by kernel_rfl) rfl)
    (numbers_seq 3 (by decide) (w.heap.size + 1) B s W0 hbl0 bB0) keeps2_t (fun W l o hl => keeps2_b (B := W0.heap.size) (by omega) (by omega) W l o hl) (fun _ => rfl)
    (fun pre W => ((∃ v, Boxed W w.heap.size 69 v ∧ W.ownsRow w.heap.size 5 1 v pre.length (byteVs (pre.map UInt8.ofNat)) ∧ True) ∧ Blk W (w.heap.size + 1) 67 #[.pointer (some ⟨B, 0, none⟩)]) ∧ Below w.heap.size w W)
    (fun _ _ _ => False)
    (OwnFrom.and (OwnFrom.and (Own.from (holdsRow_own w.heap.size w.heap.size 69 5 1 (fun (pre : List Nat) => pre.length) (fun pre => byteVs (pre.map UInt8.ofNat)) (fun _ _ => True)) _) (Own.from (blk_own _ _ (fun _ => #[.pointer (some ⟨B, 0, none⟩)])) _)) (ownFrom_below (Nat.le_refl _) (by omega)))
    (fun _ _ _ _ _ hs _ _ => hs)
    ⟨⟨⟨_, hbx0, by simpa [byteVs] using hrow0, trivial⟩, hbl0⟩, hB0⟩
    (fun x => { tmps := #[.pointer (some ⟨B, 0, none⟩), undef, .slice none 0 0, .pointer (some ⟨w.heap.size, 0, none⟩), .int .i64 (x : Nat), .pointer (some ⟨B, 0, none⟩), .func (.func 45) #[] #[.pointer (some ⟨w.heap.size + 1, 0, none⟩)], .int .i64 (x : Nat), undef, undef, undef, undef, undef, undef], defers := [] }) ?assign ?body ?done ?stop
  case assign =>
    intro l x W K hK
    gi_wp2
    exact hK
  case body =>
    rintro l pre x W ⟨⟨⟨v, hv, hrow, _⟩, hbl⟩, hB⟩ ⟨hx, hsx, hpre⟩
    have hc := hv.cell
    have hlp : pre.length ≤ 256 := by rw [hpre]; exact Nat.le_trans (valsTo_le s x) (by omega)
    have HB := Lib.hid hB
    have HBl := Lib.hid hbl
    have e8 : (x : Int) % 256 = x := by omega
    have HT : Hid (byteVs ((pre ++ [x]).map UInt8.ofNat) = byteVs (pre.map UInt8.ofNat) ++ [Value.int .u8 (x : Nat)] ∧ (pre ++ [x]).length = pre.length + 1) := Lib.hid ⟨by
      rw [List.map_append, byteVs_append]
      show _ ++ [Value.int .u8 ((UInt8.ofNat x).toNat : Int)] = _
      rw [ofNat_toNat x (by omega)], by simp⟩
    clear hpre hsx hB hbl
    gi_wp2_with (gi_at_builtin; refine wpListIn_append_own _ rfl _ _ 69 rfl w.heap.size 5 i0 (.int .u8 0) 1 1 Try.underlying69 HInf.out HZ0.out HZ1.out HZ2.out rfl (by decide) _ _ _ rfl (hrow.alloc _) ⟨W.heap.size, 0, none⟩ 1 1 [.int .u8 x] rfl rfl (cell_one_new _ _ _) (by simp [Value.oneCell']) (by unfold maxLen; omega) (by omega) (by have := HB.out.size; simp; omega) ?_; intro v' w1 hown' hgrow _; obtain ⟨g', cap', rfl⟩ := ownsRow_succ hown'; obtain ⟨hv1, hv2, hr2, hk2, hb2⟩ := hv.appended (by decide) hrow HB.out.size (Nat.le_refl _) hown' hgrow; have hc1 := hv1.cell; have hf1 := hv1.frozen)
    have hbl2 := keep_box (C := w.heap.size) (v' := .slice (some ⟨g', 0, none⟩) (pre.length + 1) cap') HBl.out (by decide) hrow hgrow (by omega)
    refine ⟨hk2, ⟨hbl2, hb2.block B hBlt⟩, ⟨⟨⟨_, hv2, ?_, trivial⟩, hbl2.trans HBl.out⟩, HB.out.trans hb2⟩⟩
    rw [HT.out.1, HT.out.2]; exact hr2
  case done =>
    rintro D ys W hD rfl ⟨⟨⟨v, hv, hrow, _⟩, hbl⟩, hB⟩ hK
    have hc := hv.cell
    rw [show byteVs ((vals s).map UInt8.ofNat) = byteVs (arrTo s 256) from rfl, show (vals s).length = (arrTo s 256).length from (arrTo_length s 256).symm] at hrow
    have HN : Hid (∃ v', Ending.returned v = .returned v' ∧ (W.putObj D (.deferred none)).ownsRow w.heap.size 5 1 v' (arrTo s 256).length (byteVs (arrTo s 256)) ∧ Below w.heap.size w (W.putObj D (.deferred none))) := Lib.hid ⟨v, rfl, ownsRow_putObj hrow _ hK rfl, hB.grown (grownBy_putObj' W D _) hB.size (fun k e => by cases e; omega)⟩
    clear hbl hB hv hrow
    go_wp2
    try rw [Exit.noGoto_ret]
    exact ⟨by simp, .inl ⟨_, _, rfl, run_takeDeferred hK, _, results_tmp (t := 2) rfl _ _ _, HN.out⟩⟩
  case stop =>
    rintro D cd pre W hD hSp h hK
    exact h.elim
end Go.Proofs.Ytpjcndfamhehlaa
