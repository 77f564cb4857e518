/- encoded, Encode: a dictionary's bytes. -/
import Derived.Test.YthoegicchjadaaaDoorDPairs
import Derived.Test.YthoegicchjadaaaDoorSBuild
import Derived.Test.YthoegicchjadaaaDoorVPut
import Derived.Test.YthoegicchjadaaaDoorDRight
import Derived.Shelf.Strings.BuilderK
import Derived.Stop.RegionWithIn
import Derived.Deep.DeepCutAuto
namespace Go.Proofs.YthoegicchjadaaaDoor
open Go.RowKit
attribute [local go_sem] Oper.semAt_some

/-- The bytes that have been written when k words have come. -/
def encTo (ls : List (List UInt8)) (k : Nat) : List UInt8 := vput ls.length ++ encAll [] (ls.take k)
theorem encTo_next {ls : List (List UInt8)} {k : Nat} (h : k < ls.length) : encTo ls (k + 1) = encTo ls k ++ vput (sharedL (prevW ls k) (ls[k]?.getD [])) ++ vput ((ls[k]?.getD []).length - sharedL (prevW ls k) (ls[k]?.getD [])) ++ (ls[k]?.getD []).drop (sharedL (prevW ls k) (ls[k]?.getD [])) := by
  unfold encTo
  rw [encAll_next h]
  simp only [encW, List.append_assoc]
theorem encTo_all (ls : List (List UInt8)) : encTo ls ls.length = encD ls := by unfold encTo encD; rw [List.take_length]
theorem encTo_length {ls : List (List UInt8)} (h : ∀ x ∈ ls, x.length ≤ 100) (hl : ls.length ≤ 100000) (k : Nat) : (encTo ls k).length ≤ 12000010 := by
  have a := encAll_length (l := ls.take k) (fun x hx => h x (List.mem_of_mem_take hx)) []
  have b := length_put (n := ls.length) (by omega)
  rw [List.length_take] at a
  unfold encTo
  rw [List.length_append]
  omega
theorem prevW_le {ls : List (List UInt8)} {m : Nat} (h : ∀ x ∈ ls, x.length ≤ m) (k : Nat) : (prevW ls k).length ≤ m := by
  unfold prevW
  split
  · simp
  · by_cases hk : k - 1 < ls.length
    · exact h _ (getD_mem hk)
    · rw [List.getElem?_eq_none (by omega)]; simp
theorem isB_past {B b : Nat} {bs : List Value} {W W' : World} (h : IsB B b bs W) (hb : Below W.heap.size W W') : IsB B b bs W' :=
  isB_own B b (fun _ : Unit => bs) () W W' none h (grownBy_of_below hb none) (fun r e => by cases e)
/-- What holds between two rounds. -/
def EncI (w : World) (Bl : Nat) (v : Value) (ls : List (List UInt8)) (pre : List Nat) (W : World) : Prop :=
  (IsB w.heap.size w.heap.size (Lib.byteCells (encTo ls pre.length)) W ∧ Blk W Bl 22 #[v]) ∧ Below w.heap.size w W
theorem blk_own {β : Type} (g : Nat) (t : TypeId) (f : β → Array Value) : Own (fun s W => Blk W g t (f s)) := fun s X Y row hs hg hr =>
  (hg.block g hs.lt (fun e => by obtain ⟨o, ho, hc⟩ := hr g e.symm; rw [show X.heap[g]? = _ from hs] at ho; cases ho; cases hc)).trans hs
theorem encI_own (w : World) (Bl : Nat) (v : Value) (ls : List (List UInt8)) (B : Nat) (hB : w.heap.size ≤ B) : OwnFrom B (EncI w Bl v ls) :=
  OwnFrom.and (OwnFrom.and (Own.from (isB_own _ _ (fun pre : List Nat => Lib.byteCells (encTo ls pre.length))) _) (Own.from (blk_own _ _ (fun _ => #[v])) _)) (ownFrom_below (Nat.le_refl _) hB)

theorem bstring_keeps (B b : Nat) (l : List UInt8) (w : World) (h : IsB B b (Lib.byteCells l) w) (hBw : B ≤ w.heap.size) :
    Calls Tryd.prog 54 #[.pointer (some ⟨b, 0, none⟩)] w fun e w' => e = .returned (.string ⟨l.toArray⟩) ∧ Below B w w' ∧ ∀ D : Nat, w.heap[D]? = some (Obj.deferred (some [])) → w'.heap[D]? = some (Obj.deferred (some [])) := by
  refine (Any.Builder_String_any_k blays bextra B b l w (Lib.IsBuilderF.of h) hBw).mono ?_
  rintro e w' ⟨rfl, _, h1, h2⟩
  refine ⟨rfl, h1, fun D hD => h2 D _ hD (fun e => ?_) (fun c fz e => by cases e)⟩
  cases e
  rcases h with h | h <;> obtain ⟨_, v, hb, _⟩ := h <;> (rw [hb] at hD; cases hD)

set_option maxRecDepth 100000 in
set_option maxHeartbeats 8000000 in
theorem encoded_any (x : Option Addr) (len cap : Nat) (ls : List (List UInt8)) (hlen : ls.length = len) (hl : len ≤ 100000) (hs : ∀ t ∈ ls, t.length ≤ 100) (w : World) (hI : Strs w.heap.size w (.slice x len cap) ls) :
    Calls Tryd.prog 37 #[.slice x len cap] w fun e w' => e = .returned (.string ⟨(encD ls).toArray⟩) ∧ Below w.heap.size w w' := by
  have hbb := Lib.fresh_isBuilder 78 5 w
  have hB0 : Below w.heap.size w (w.alloc (.cells #[.pointer none, .slice none 0 0] 78)) := (Below.refl _ w).alloc (Nat.le_refl _) _
  have HPut := Lib.hid (put1_any len (by omega))
  have hpl := length_put (n := len) (by omega)
  have HL := Lib.hid hlen; have HI := Lib.hid hI; have HS := Lib.hid hs
  have HE0 : Hid (vput len = encTo ls 0) := Lib.hid (by unfold encTo; rw [hlen]; simp [encAll])
  have HEN := Lib.hid (fun k => encTo_length hs (by omega) k)
  clear hlen hI hs
  have HB0 := Lib.hid hB0
  have Hbb := Lib.hid hbb
  clear hbb hB0
  have ew : IntKind.u64.wrap (len : Int) = (len : Int) := by rw [u64_wrap]; omega
  refine (callsIn_wide (n := 4)).1 ?_
  refine callsIn_of_wp_marks Tryd.func37 rfl trivial ?_ rfl
  simp only [Tryd.ntmps37, List.size_toArray, List.length_cons, List.length_nil, Nat.reduceAdd, Nat.reduceSub, Array.replicate_succ, Array.replicate_zero, List.push_toArray, List.append_toArray, List.nil_append, List.cons_append]
  rw [wpIn_wide]
  go_wp2_with fail
  refine (HPut.out _).mono ?_
  rintro e w1 ⟨rfl, hb1⟩
  have hI1 := isB_past Hbb.out hb1
  have hB1 := HB0.out.trans (hb1.mono HB0.out.size)
  have HW := Lib.hid (wstr_any w.heap.size w.heap.size (Lib.byteCells []) (vput len) w1 hI1 (by rw [Lib.byteCells_length]; simp; omega) hB1.size)
  have HB1 := Lib.hid hB1
  clear hI1 hb1 hB1
  generalize vput len = p at *
  go_wp2_with fail
  refine HW.out.mono ?_
  rintro e w2 ⟨rfl, hI2, hb2⟩
  have hB2 := HB1.out.trans hb2
  go_wp2_with (go_at_call 52; refine (pairs_any _ _ _ _).mono ?_; rintro e w' ⟨rfl, rfl⟩)
  have bl0 := Blk.new w2 22 #[.slice x len cap]
  have hBA : Below w2.heap.size w2 (w2.alloc (.cells #[.slice x len cap] 22)) := (Below.refl _ w2).alloc (Nat.le_refl _) _
  have hI3 := isB_past hI2 hBA
  have hB3 := hB2.trans (hBA.mono hB2.size)
  have hsz : (w2.alloc (.cells #[.slice x len cap] 22)).heap.size = w2.heap.size + 1 := by simp
  have hS3 := HI.out.below hB3
  have hw2 := hB2.size
  rw [show Lib.byteCells ([] : List UInt8) = [] from rfl, List.nil_append] at hI3
  clear hI2 hB2 hBA
  generalize w2.alloc (.cells #[.slice x len cap] 22) = W0 at *
  have hlt2 : w2.heap.size ≠ w.heap.size := by
    intro e
    have h1 : Blk W0 w.heap.size 22 #[.slice x len cap] := e ▸ bl0
    rcases hI3 with h | h <;> obtain ⟨_, v, hb, _⟩ := h <;> (rw [show W0.heap[w.heap.size]? = _ from h1] at hb; cases hb)
  refine (wpIn_wide (n := 4)).1 ?_
  refine wpIn_rangeFunc_next (n := 4) rfl (by decide) (gf := 73) (lb := #[.pointer (some ⟨w2.heap.size, 0, none⟩)]) rfl trivial (enters_of Tryd.func73 (by kernel_rfl) rfl)
    (pairs_seq 3 (by decide) w2.heap.size w.heap.size x len cap ls HL.out hl W0 hB3.size hS3 bl0) keepP_t (fun W l o hl => keepP_b (N := W0.heap.size) (by omega) (by omega) W l o hl) (fun _ => rfl)
    (EncI w w2.heap.size (.slice x len cap) ls) (fun _ _ _ => False) (encI_own w _ _ ls _ (by omega)) (fun _ => fun _ _ _ _ h _ _ => h)
    ⟨⟨by rw [List.length_nil, ← HE0.out]; exact hI3, bl0⟩, hB3⟩
    (fun k => { tmps := #[.slice x len cap, undef, .string ⟨#[]⟩, .pointer (some ⟨w.heap.size, 0, none⟩), .string ⟨(prevW ls k).toArray⟩, .string ⟨(ls[k]?.getD []).toArray⟩, undef, .slice x len cap, .int .i64 len, .int .u64 len, .string ⟨p.toArray⟩, .tuple #[.int .i64 p.length, .nilIface], .slice x len cap, .func (.func 73) #[] #[.pointer (some ⟨w2.heap.size, 0, none⟩)], .string ⟨(prevW ls k).toArray⟩, .string ⟨(ls[k]?.getD []).toArray⟩, undef, undef, undef, undef, undef, undef, undef, undef, undef, undef, undef, undef, undef, undef, undef, undef, undef, undef, undef], defers := [] }) ?assign ?body ?done ?stop
  case assign =>
    intro l k W K hK
    unfold encP
    gi_wp2
    exact hK
  case body =>
    rintro l pre k W ⟨⟨hI, hbl⟩, hB⟩ ⟨rfl, hk⟩
    have hkl : pre.length < ls.length := by rw [HL.out]; exact hk
    have HN := Lib.hid (encTo_next hkl)
    have hle := HEN.out pre.length
    have htl : (ls[pre.length]?.getD []).length ≤ 100 := HS.out _ (getD_mem hkl)
    have hpl2 : (prevW ls pre.length).length ≤ 100 := prevW_le HS.out _
    have hsl := shared_le (prevW ls pre.length) (ls[pre.length]?.getD [])
    have HSh := Lib.hid (fun W => wshared_any (prevW ls pre.length) (ls[pre.length]?.getD []) (by omega) (by omega) W)
    have hext := (ext_mk (ls[pre.length]?.getD []) (sharedL (prevW ls pre.length) (ls[pre.length]?.getD [])) (ls[pre.length]?.getD []).length).trans (mk_str (by rw [List.take_length]))
    have HD : Hid ((ls[pre.length]?.getD []).drop (sharedL (prevW ls pre.length) (ls[pre.length]?.getD [])) = (ls[pre.length]?.getD []).drop (sharedL (prevW ls pre.length) (ls[pre.length]?.getD []))) := Lib.hid rfl
    have HDl := Lib.hid (List.length_drop (l := ls[pre.length]?.getD []) (i := sharedL (prevW ls pre.length) (ls[pre.length]?.getD [])))
    generalize prevW ls pre.length = a at *
    generalize ls[pre.length]?.getD [] = t at *
    generalize sharedL a t = s at *
    obtain ⟨d, hd⟩ : ∃ d, d = t.length - s := ⟨_, rfl⟩
    rw [← hd] at HN HDl
    have hsub : (t.length : Int) - (s : Int) = (d : Int) := by omega
    have hs' : (s : Int) ≤ t.length := by omega
    have esw : IntKind.u64.wrap (s : Int) = (s : Int) := by rw [u64_wrap]; omega
    have edw : IntKind.u64.wrap (d : Int) = (d : Int) := by rw [u64_wrap]; omega
    have HP1 := Lib.hid (fun W => put1_any s (by omega) W)
    have HP2 := Lib.hid (fun W => put1_any d (by omega) W)
    have hp1 := length_put (n := s) (by omega)
    have hp2 := length_put (n := d) (by omega)
    have hdl : d ≤ 100 := by omega
    clear hd hsl
    generalize t.drop s = u at *
    generalize vput s = p1 at *
    generalize vput d = p2 at *
    have hul : u.length = d := HDl.out
    generalize hcur : encTo ls pre.length = cur at *
    have HO : Hid (KeepsOthers W W ∧ Below w.heap.size W W ∧ Far w.heap.size W W) := Lib.hid ⟨KeepsOthers.refl _, Below.refl _ _, Far.refl _ _⟩
    dsimp only
    gi_wp2_with (refine ⟨trivial, ?_⟩; gi_at_call 53; refine (callsIn_wide.2 (HSh.out _)).mono ?_; rintro e w' ⟨rfl, q, rfl⟩)
    have hIa := isB_past hI (show Below W.heap.size W (W.drewN q) from below_drewN (Below.refl _ _) q)
    have hK0 : KeepsOthers W (W.drewN q) := keeps_of_below (below_drewN (Below.refl _ _) q)
    have hF0 : Far w.heap.size W (W.drewN q) := Far.of_below (below_drewN (Below.refl _ _) q)
    have hB0' : Below w.heap.size W (W.drewN q) := below_drewN (Below.refl _ _) q
    have hsW : w.heap.size ≤ (W.drewN q).heap.size := hB.size
    generalize W.drewN q = Wa at *
    refine ⟨trivial, (callsIn_wide.2 (HP1.out _)).mono ?_⟩
    rintro e Wb ⟨rfl, hb⟩
    have hIb := isB_past hIa hb
    have hKb := hK0.trans (keeps_of_below hb)
    have hFb := hF0.trans (Far.of_below hb)
    have hBb := hB0'.trans (hb.mono hsW)
    have hsb := Nat.le_trans hsW hb.size
    have HW1 := Lib.hid (wstr_keeps w.heap.size w.heap.size _ p1 Wb hIb (by rw [Lib.byteCells_length]; omega) hsb)
    clear hIa hK0 hF0 hB0' hb hsW hIb
    gi_wp2_with fail
    refine ⟨trivial, (callsIn_wide.2 HW1.out).mono ?_⟩
    rintro e Wc ⟨rfl, hIc, hbc, hkc, hfc⟩
    have hKc := hKb.trans hkc
    have hFc := hFb.trans hfc
    have hBc := hBb.trans hbc
    have hsc := Nat.le_trans hsb hbc.size
    clear hKb hFb hBb hkc hfc hbc hsb HW1
    gi_wp2_with fail
    refine ⟨trivial, (callsIn_wide.2 (HP2.out _)).mono ?_⟩
    rintro e Wd ⟨rfl, hb⟩
    have hId := isB_past hIc hb
    have hKd := hKc.trans (keeps_of_below hb)
    have hFd := hFc.trans (Far.of_below hb)
    have hBd := hBc.trans (hb.mono hsc)
    have hsd := Nat.le_trans hsc hb.size
    have HW2 := Lib.hid (wstr_keeps w.heap.size w.heap.size _ p2 Wd hId (by simp only [List.length_append, Lib.byteCells_length]; omega) hsd)
    clear hKc hFc hBc hb hsc hId hIc
    gi_wp2_with fail
    refine ⟨trivial, (callsIn_wide.2 HW2.out).mono ?_⟩
    rintro e We ⟨rfl, hIe, hbe, hke, hfe⟩
    have hKe := hKd.trans hke
    have hFe := hFd.trans hfe
    have hBe := hBd.trans hbe
    have hse := Nat.le_trans hsd hbe.size
    have HW3 := Lib.hid (wstr_keeps w.heap.size w.heap.size _ u We hIe (by simp only [List.length_append, Lib.byteCells_length]; omega) hse)
    clear hKd hFd hBd hke hfe hbe hsd HW2 hIe
    gi_wp2_with fail
    refine ⟨trivial, (callsIn_wide.2 HW3.out).mono ?_⟩
    rintro e Wf ⟨rfl, hIf, hbf, hkf, hff⟩
    gi_wp2
    refine ⟨hKe.trans hkf, ⟨hBe.trans hbf, fun h => (hFe.trans hff).blk hlt2 (by decide) h⟩, ⟨?_, (hFe.trans hff).blk hlt2 (by decide) hbl⟩, hB.trans (hBe.trans hbf)⟩
    rw [List.length_append, List.length_singleton, HN.out]
    simp only [Lib.byteCells_append]
    exact hIf
  case done =>
    rintro D ys W hD rfl ⟨⟨hI, hbl⟩, hB⟩ hK
    have hlr : (List.range len).length = ls.length := by rw [List.length_range, HL.out]
    rw [hlr, encTo_all] at hI
    have HB := Lib.hid (bstring_keeps w.heap.size w.heap.size (encD ls) W hI hB.size)
    clear hI hbl hlr
    obtain ⟨out, hout⟩ : ∃ out, encD ls = out := ⟨_, rfl⟩
    rw [hout] at HB
    have HO := Lib.hid hout
    clear hout
    go_wp2_with fail
    refine HB.out.mono ?_
    rintro e w3 ⟨rfl, hb3, hD3⟩
    have hK' := hD3 D hK
    have hDl := (Array.getElem?_eq_some_iff.1 hK').1
    go_wp2
    try rw [Exit.noGoto_ret]
    refine ⟨by simp, .inl ⟨_, _, rfl, run_takeDeferred hK', _, results_tmp (t := 2) rfl _ _ _, ?_, (hB.trans hb3).trans (below_put _ _ _ (by omega))⟩⟩
    rw [HO.out]
    rfl
  case stop => exact fun _ _ _ _ _ _ h => h.elim

/-- What Encode answers. -/
def encCode (ls : List (List UInt8)) : Nat := if RightL ls then 0 else 50
def encText (ls : List (List UInt8)) : List UInt8 := if RightL ls then encD ls else []

set_option maxRecDepth 100000 in
set_option maxHeartbeats 4000000 in
theorem encode_any (x : Option Addr) (len cap : Nat) (ls : List (List UInt8)) (hlen : ls.length = len) (hcm : len ≤ 9223372036854775807) (w : World) (hI : Strs w.heap.size w (.slice x len cap) ls) :
    Calls Tryd.prog 23 #[.slice x len cap] w fun e w' => e = .returned (.tuple #[.string ⟨(encText ls).toArray⟩, .int .i64 (encCode ls : Nat)]) ∧ Below w.heap.size w w' := by
  have HR := Lib.hid (right_any x len cap ls hlen hcm w hI)
  by_cases hr : RightL ls
  · have HE := Lib.hid (encoded_any x len cap ls hlen (by have := hr.1; omega) (fun t ht => right_len hr ht) w hI)
    have HC : Hid (encCode ls = 0) := Lib.hid (by unfold encCode; rw [if_pos hr])
    have HT : Hid (encText ls = encD ls) := Lib.hid (by unfold encText; rw [if_pos hr])
    rw [decide_eq_true hr] at HR
    clear hr hI hlen
    generalize encD ls = out at *
    go_enter Tryd.func23, Tryd.ntmps23
    go_wp2_with fail
    refine HR.out.mono ?_
    rintro e w1 ⟨rfl, rfl⟩
    go_wp2_with fail
    refine HE.out.mono ?_
    rintro e w2 ⟨rfl, hb⟩
    go_wp2
    go_ret2
    exact ⟨by rw [HC.out, HT.out]; rfl, hb⟩
  · have HC : Hid (encCode ls = 50) := Lib.hid (by unfold encCode; rw [if_neg hr])
    have HT : Hid (encText ls = []) := Lib.hid (by unfold encText; rw [if_neg hr])
    rw [decide_eq_false hr] at HR
    clear hr hI hlen
    go_enter Tryd.func23, Tryd.ntmps23
    go_wp2_with fail
    refine HR.out.mono ?_
    rintro e w1 ⟨rfl, rfl⟩
    go_wp2
    go_ret2
    exact ⟨by rw [HC.out, HT.out]; rfl, Below.refl _ _⟩
end Go.Proofs.YthoegicchjadaaaDoor
