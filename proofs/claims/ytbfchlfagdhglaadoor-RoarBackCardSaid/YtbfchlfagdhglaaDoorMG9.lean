import Derived.Test.YtbfchlfagdhglaaDoorMG6
import Derived.Test.YtbfchlfagdhglaaDoorMG8
import Derived.Lib.BufferWrite
import Derived.Deep.DeepCutAuto
import Derived.DeepKeys
/- cont.read. -/
namespace Go.Proofs.YtbfchlfagdhglaaDoor
open Go.RowKit

/-- The numbers that a value has as a container. -/
def readS (f : Int) (d : List UInt8) : Bs := if RightC f d then setOf f.toNat d else fun _ => false
def readV (f : Int) (d : List UInt8) : Value := .tuple #[.agg (scl (readS f d)), .bool (decide (RightC f d))]

theorem byteS_setB (d : List UInt8) (k : Nat) (hk : k < 32) : byteS (setB d) 256 k = byteC d k := by
  refine (byteS_ext hk (byteC_lt d k) fun i hi => ?_).symm
  rw [bit_at d k i hi, Nat.testBit_eq_decide_div_mod_eq]
  rw [Bool.eq_iff_iff, decide_eq_true_eq, beq_iff_eq]
theorem scl_bytes (d : List UInt8) (n : Nat) (hn : n = min d.length 32) : ((scl fun _ => false).toList.take 0 ++ (byteVs d).take n ++ (scl fun _ => false).toList.drop n).toArray = scl (setB d) := by
  have hz : (scl fun _ => false) = Array.replicate 32 (Value.int .u8 0) := scl_zero.symm
  rw [hz]
  refine scl_ext ?_ fun k hk => ?_
  · simp [byteVs_length]; omega
  · rw [byteS_setB d k hk]
    simp only [List.take_zero, List.nil_append, List.getElem?_toArray]
    by_cases h : k < n
    · rw [List.getElem?_append_left (by simp [byteVs_length]; omega), List.getElem?_take, if_pos h]
      unfold byteVs byteC
      rw [List.getElem?_map, List.getElem?_eq_getElem (by omega)]; rfl
    · have hl : ((byteVs d).take n).length = n := by simp [byteVs_length]; omega
      rw [List.getElem?_append_right (by omega), hl, List.getElem?_drop]
      have e : n + (k - n) = k := by omega
      unfold byteC
      rw [List.getElem?_eq_none (l := d) (by omega), e, Array.toList_replicate, List.getElem?_replicate, if_pos hk]; rfl
theorem run_copy_set {w : World} {B : Nat} (h : Blk w B 83 (scl fun _ => false)) (d : List UInt8) (ty : TypeId) :
    (Builtin.copy_ #[42, 9] ty #[.slice (some ⟨B, 0, none⟩) 32 32, .string ⟨d.toArray⟩]).run Tryd.prog w = .ok (goInt ((min d.length 32 : Nat) : Int)) (w.setRow B (scl (setB d))) := by
  obtain ⟨i0, hi, hz0, hz1, hz2⟩ := info_parts info_u8
  have hl : ((byteVs d).take (min d.length 32)).length = min d.length 32 := by simp [byteVs_length]
  have hst := run_storeCells_at Tryd.prog B 0 83 ((byteVs d).take (min d.length 32)) 0 (scl fun _ => false) w h (by rw [hl, scl_size]; omega) (fun v hv => by
    obtain ⟨y, _, rfl⟩ := List.mem_map.1 (List.mem_of_mem_take hv); rfl)
  rw [hl] at hst
  simp only [Nat.add_zero, Nat.zero_add] at hst
  rw [scl_bytes d _ rfl] at hst
  have hs2 : (ByteArray.mk d.toArray).size = d.length := by simp [ByteArray.size]
  have e : List.take (min d.length 32) (List.map (fun b : UInt8 => Value.int IntKind.u8 (b.toNat : Int)) d) = (byteVs d).take (min d.length 32) := rfl
  simp [Builtin.copy_, run_underlying Tryd.underlying42, Builtin.lenOf, Builtin.firstCells, sizeOf, typeInfo, hi, hs2]
  rw [e, hst]
  simp [Result.andThen, Nat.min_def]
/-- The walk's blocks: the container's, the result's, the set's. -/
def ReadSt (w : World) (f : Int) (d : List UInt8) (s : Bs) (wr : World) : Prop := Blk wr w.heap.size 46 #[.int .i64 f, .string ⟨d.toArray⟩] ∧ Blk wr (w.heap.size + 1) 83 (scl fun _ => false) ∧ Blk wr (w.heap.size + 1 + 1) 83 (scl s) ∧ Below w.heap.size w wr
theorem ReadSt.start (w : World) (f : Int) (d : List UInt8) : ReadSt w f d (fun _ => false) (((w.alloc (.cells #[.int .i64 f, .string ⟨d.toArray⟩] 46)).alloc (.cells (scl fun _ => false) 83)).alloc (.cells (scl fun _ => false) 83)) := by
  refine ⟨((Blk.new w _ _).alloc _).alloc _, ?_, ?_, ?_⟩
  · have := (Blk.new (w.alloc (.cells #[.int .i64 f, .string ⟨d.toArray⟩] 46)) 83 (scl fun _ => false)).alloc (.cells (scl fun _ => false) 83)
    rwa [World.size_alloc] at this
  · have := Blk.new ((w.alloc (.cells #[.int .i64 f, .string ⟨d.toArray⟩] 46)).alloc (.cells (scl fun _ => false) 83)) 83 (scl fun _ => false)
    rwa [World.size_alloc, World.size_alloc] at this
  · exact (((Below.refl _ _).alloc (Nat.le_refl _) _).alloc (by simp) _).alloc (by simp; omega) _
theorem ReadSt.under {w wr w2 : World} {f : Int} {d : List UInt8} {s : Bs} (h : ReadSt w f d s wr) (hb : Below wr.heap.size wr w2) : ReadSt w f d s w2 :=
  ⟨h.1.under hb, h.2.1.under hb, h.2.2.1.under hb, h.2.2.2.trans (hb.mono h.2.2.2.size)⟩
theorem ReadSt.turn {w wr w2 : World} {f : Int} {d : List UInt8} {s t : Bs} (h : ReadSt w f d s wr) (hg : wr.grownBy w2 (some (w.heap.size + 1 + 1))) (hb : Blk w2 (w.heap.size + 1 + 1) 83 (scl t)) : ReadSt w f d t w2 :=
  ⟨h.1.grown hg (by omega), h.2.1.grown hg (by omega), hb, h.2.2.2.trans (grown_below hg (by omega) h.2.2.2.size)⟩
theorem grown_setRow {w : World} {g : Nat} (cs : Array Value) : w.grownBy (w.setRow g cs) (some g) :=
  ⟨rfl, rfl, rfl, by simp [World.setRow], fun k _ hk => by
    have : ¬ g = k := fun e => hk (by rw [e])
    simp [World.setRow, Array.getElem?_modify, this]⟩
theorem ReadSt.row {w wr : World} {f : Int} {d : List UInt8} {s t : Bs} (h : ReadSt w f d s wr) : ReadSt w f d t (wr.setRow (w.heap.size + 1 + 1) (scl t)) := h.turn (grown_setRow _) (h.2.2.1.setRow _)
theorem ReadSt.drew {w wr : World} {f : Int} {d : List UInt8} {s : Bs} (h : ReadSt w f d s wr) : ReadSt w f d s wr.drew := ⟨h.1, h.2.1, h.2.2.1, h.2.2.2.drew⟩
/-- The result's cell is filled. -/
theorem ReadSt.done {w wr : World} {f : Int} {d : List UInt8} {s : Bs} (h : ReadSt w f d s wr) (t : Bs) : Blk (wr.setRow (w.heap.size + 1) (scl t)) (w.heap.size + 1) 83 (scl t) ∧ Below w.heap.size w (wr.setRow (w.heap.size + 1) (scl t)) :=
  ⟨h.2.1.setRow _, below_setRow h.2.2.2 (by omega) _⟩

theorem read_yes {f : Int} {d : List UInt8} {s : Bs} (hf : okF f) (hl : d.length ≤ 256) (hs : Same s (setOf f.toNat d)) (he : formS s f.toNat = d) : readV f d = .tuple #[.agg (scl s), .bool true] := by
  have hR : RightC f d := ⟨hf.1, hf.2, hl, by rw [← form_congr hs]; exact he.symm⟩
  unfold readV readS
  rw [if_pos hR, scl_congr hs.symm, decide_eq_true hR]
theorem read_no {f : Int} {d : List UInt8} (hR : ¬ RightC f d) : readV f d = .tuple #[.agg (scl fun _ => false), .bool false] := by
  unfold readV readS
  rw [if_neg hR, decide_eq_false hR]
theorem read_ne {f : Int} {d : List UInt8} {s : Bs} (hs : Same s (setOf f.toNat d)) (he : ¬ formS s f.toNat = d) : readV f d = .tuple #[.agg (scl fun _ => false), .bool false] :=
  read_no fun h => he (by rw [form_congr hs]; exact h.2.2.2.symm)

set_option maxRecDepth 100000 in
set_option maxHeartbeats 4000000 in
theorem read_any (f : Int) (hf1 : -9223372036854775808 ≤ f) (hf2 : f ≤ 9223372036854775807) (d : List UInt8) (hd : d.length ≤ 9223372036854775807) (w : World) :
    Calls Tryd.prog 37 #[contV f d] w fun e w' => e = .returned (readV f d) ∧ Below w.heap.size w w' := by
  have hz := zero_set
  have hss := scl_size
  have hT0 := ReadSt.start w f d
  unfold contV
  by_cases hbig : 256 < d.length
  · have hbig' : (256 : Int) < d.length := by omega
    have HR := Lib.hid (read_no (f := f) (d := d) (fun h => by have := h.2.2.1; omega))
    have hB2 : Blk ((w.alloc (.cells #[.int .i64 f, .string ⟨d.toArray⟩] 46)).alloc (.cells (scl fun _ => false) 83)) (w.heap.size + 1) 83 (scl fun _ => false) := by
      have := Blk.new (w.alloc (.cells #[.int .i64 f, .string ⟨d.toArray⟩] 46)) 83 (scl fun _ => false)
      rwa [World.size_alloc] at this
    have hb : Below w.heap.size w ((w.alloc (.cells #[.int .i64 f, .string ⟨d.toArray⟩] 46)).alloc (.cells (scl fun _ => false) 83)) := ((Below.refl _ _).alloc (Nat.le_refl _) _).alloc (by simp) _
    have hsc := st_cells hB2 (fun _ => false)
    have hE1 := hB2.setRow (scl fun _ => false)
    have hE2 := below_setRow hb (g := w.heap.size + 1) (by omega) (scl fun _ => false)
    clear hT0 hb hB2
    go_enter Tryd.func37, Tryd.ntmps37
    go_wp2
    exact ret_set2 rfl rfl hE1 rfl ⟨by rw [HR.out]; rfl, hE2⟩
  · have hbig' : ¬ (256 : Int) < d.length := by omega
    by_cases h2 : f = 2
    · subst h2
      have HAs := Lib.hid (fun W hW => asV_good (s := setB d) (f := 2) (by decide) (by decide) ▸ as_any (w.heap.size + 1 + 1) (setB d) 2 (by decide) (by decide) W hW)
      have HRd : Hid ((formS (setB d) 2 = d → readV 2 d = .tuple #[.agg (scl (setB d)), .bool true]) ∧ (¬ formS (setB d) 2 = d → readV 2 d = .tuple #[.agg (scl fun _ => false), .bool false])) :=
        Lib.hid ⟨fun he => read_yes (by decide) (by omega) (fun _ _ => rfl) he, fun he => read_ne (s := setB d) (fun _ _ => rfl) he⟩
      obtain ⟨dx, hdx⟩ : ∃ dx, dx = formS (setB d) 2 := ⟨_, rfl⟩
      rw [← hdx] at HAs HRd
      clear hdx
      have hcp := run_copy_set hT0.drew.2.2.1 d 3
      have HTr := Lib.hid (hT0.drew.row (t := setB d))
      have hT0c := hT0.1.cell 1
      dsimp at hT0c
      clear hT0
      go_enter Tryd.func37, Tryd.ntmps37
      go_wp2
      go_region
      all_goals
        have hT := HTr.out
        clear hcp hT0c HTr
        generalize (((w.alloc (.cells #[.int .i64 2, .string ⟨d.toArray⟩] 46)).alloc (.cells (scl fun _ => false) 83)).alloc (.cells (scl fun _ => false) 83)).drew.setRow (w.heap.size + 1 + 1) (scl (setB d)) = w2 at *
        have c0 := hT.1.cell 0; have c1 := hT.1.cell 1
        dsimp at c0 c1
        go_wp2_with fail
        refine (HAs.out _ hT.2.2.1).mono ?_
        rintro e w5 ⟨rfl, hb5⟩
        have hT5 := hT.under hb5
        have hT6 := hT5.under ((Below.refl _ w5).alloc (Nat.le_refl _) (.cells #[.int .i64 2, .string ⟨dx.toArray⟩] 46))
        have c0 := hT6.1.cell 0; have c1 := hT6.1.cell 1
        dsimp at c0 c1
        have hsz5 := hT5.1.lt
        clear hT5 hb5 hT
        by_cases he : dx = d
        · have hsc := st_cells hT6.2.1 (setB d)
          have hE := hT6.done (setB d)
          have hld := hT6.2.2.1
          have HR := Lib.hid (HRd.out.1 he)
          clear hT6
          subst he
          go_wp2_with (refine wpList_ld_set rfl _ rfl _ rfl _ hld ?_)
          exact ret_set2 rfl rfl hE.1 rfl ⟨by rw [HR.out]; rfl, hE.2⟩
        · have hsc := st_cells hT6.2.1 (fun _ => false)
          have hE := hT6.done (fun _ => false)
          have HR := Lib.hid (HRd.out.2 he)
          clear hT6
          go_wp2
          exact ret_set2 rfl rfl hE.1 rfl ⟨by rw [HR.out]; rfl, hE.2⟩
    by_cases h1 : f = 1
    · subst h1
      have HAs := Lib.hid (fun W hW => asV_good (s := setA d) (f := 1) (by decide) (by decide) ▸ as_any (w.heap.size + 1 + 1) (setA d) 1 (by decide) (by decide) W hW)
      have HRd : Hid ((formS (setA d) 1 = d → readV 1 d = .tuple #[.agg (scl (setA d)), .bool true]) ∧ (¬ formS (setA d) 1 = d → readV 1 d = .tuple #[.agg (scl fun _ => false), .bool false])) :=
        Lib.hid ⟨fun he => read_yes (by decide) (by omega) (fun _ _ => rfl) he, fun he => read_ne (s := setA d) (fun _ _ => rfl) he⟩
      obtain ⟨dx, hdx⟩ : ∃ dx, dx = formS (setA d) 1 := ⟨_, rfl⟩
      rw [← hdx] at HAs HRd
      clear hdx
      have HAl := Lib.hid (alone_any d (by omega) (((w.alloc (.cells #[.int .i64 1, .string ⟨d.toArray⟩] 46)).alloc (.cells (scl fun _ => false) 83)).alloc (.cells (scl fun _ => false) 83)))
      have hal := aloneB_length d
      have HPr := Lib.hid (fun W hW => putRuns_any (w.heap.size + 1 + 1) (fun _ => false) (aloneB d) (by omega) W hW)
      rw [none_or, setR_alone] at HPr
      have HT0 := Lib.hid hT0
      clear hT0 h2
      generalize aloneB d = al at *
      go_enter Tryd.func37, Tryd.ntmps37
      go_wp2_with fail
      refine HAl.out.mono ?_
      rintro e w1 ⟨rfl, hb1⟩
      have hT1 := HT0.out.under hb1
      clear hb1
      go_wp2_with fail
      refine (HPr.out _ hT1.2.2.1).mono ?_
      rintro e w2 ⟨⟨v, rfl⟩, hg2, hb2⟩
      have hT := hT1.turn hg2 hb2
      clear hT1 hg2 hb2
      have c0 := hT.1.cell 0; have c1 := hT.1.cell 1
      dsimp at c0 c1
      go_wp2_with fail
      refine (HAs.out _ hT.2.2.1).mono ?_
      rintro e w5 ⟨rfl, hb5⟩
      have hT5 := hT.under hb5
      have hT6 := hT5.under ((Below.refl _ w5).alloc (Nat.le_refl _) (.cells #[.int .i64 1, .string ⟨dx.toArray⟩] 46))
      have c0 := hT6.1.cell 0; have c1 := hT6.1.cell 1
      dsimp at c0 c1
      have hsz5 := hT5.1.lt
      clear hT5 hb5 hT
      by_cases he : dx = d
      · have hsc := st_cells hT6.2.1 (setA d)
        have hE := hT6.done (setA d)
        have hld := hT6.2.2.1
        have HR := Lib.hid (HRd.out.1 he)
        clear hT6
        subst he
        go_wp2_with (refine wpList_ld_set rfl _ rfl _ rfl _ hld ?_)
        exact ret_set2 rfl rfl hE.1 rfl ⟨by rw [HR.out]; rfl, hE.2⟩
      · have hsc := st_cells hT6.2.1 (fun _ => false)
        have hE := hT6.done (fun _ => false)
        have HR := Lib.hid (HRd.out.2 he)
        clear hT6
        go_wp2
        exact ret_set2 rfl rfl hE.1 rfl ⟨by rw [HR.out]; rfl, hE.2⟩
    by_cases h3 : f = 3
    · subst h3
      have HAs := Lib.hid (fun W hW => asV_good (s := setR d) (f := 3) (by decide) (by decide) ▸ as_any (w.heap.size + 1 + 1) (setR d) 3 (by decide) (by decide) W hW)
      have HRd : Hid ((formS (setR d) 3 = d → readV 3 d = .tuple #[.agg (scl (setR d)), .bool true]) ∧ (¬ formS (setR d) 3 = d → readV 3 d = .tuple #[.agg (scl fun _ => false), .bool false])) :=
        Lib.hid ⟨fun he => read_yes (by decide) (by omega) (fun _ _ => rfl) he, fun he => read_ne (s := setR d) (fun _ _ => rfl) he⟩
      obtain ⟨dx, hdx⟩ : ∃ dx, dx = formS (setR d) 3 := ⟨_, rfl⟩
      rw [← hdx] at HAs HRd
      clear hdx
      have HPr := Lib.hid (fun W hW => putRuns_any (w.heap.size + 1 + 1) (fun _ => false) d (by omega) W hW)
      rw [none_or] at HPr
      have HT0 := Lib.hid hT0
      clear hT0 h2 h1
      go_enter Tryd.func37, Tryd.ntmps37
      go_wp2_with fail
      refine (HPr.out _ HT0.out.2.2.1).mono ?_
      rintro e w2 ⟨⟨v, rfl⟩, hg2, hb2⟩
      have hT := HT0.out.turn hg2 hb2
      clear hg2 hb2
      have c0 := hT.1.cell 0; have c1 := hT.1.cell 1
      dsimp at c0 c1
      go_wp2_with fail
      refine (HAs.out _ hT.2.2.1).mono ?_
      rintro e w5 ⟨rfl, hb5⟩
      have hT5 := hT.under hb5
      have hT6 := hT5.under ((Below.refl _ w5).alloc (Nat.le_refl _) (.cells #[.int .i64 3, .string ⟨dx.toArray⟩] 46))
      have c0 := hT6.1.cell 0; have c1 := hT6.1.cell 1
      dsimp at c0 c1
      have hsz5 := hT5.1.lt
      clear hT5 hb5 hT
      by_cases he : dx = d
      · have hsc := st_cells hT6.2.1 (setR d)
        have hE := hT6.done (setR d)
        have hld := hT6.2.2.1
        have HR := Lib.hid (HRd.out.1 he)
        clear hT6
        subst he
        go_wp2_with (refine wpList_ld_set rfl _ rfl _ rfl _ hld ?_)
        exact ret_set2 rfl rfl hE.1 rfl ⟨by rw [HR.out]; rfl, hE.2⟩
      · have hsc := st_cells hT6.2.1 (fun _ => false)
        have hE := hT6.done (fun _ => false)
        have HR := Lib.hid (HRd.out.2 he)
        clear hT6
        go_wp2
        exact ret_set2 rfl rfl hE.1 rfl ⟨by rw [HR.out]; rfl, hE.2⟩
    have h1' : (f == 1) = false := by simpa using h1
    have h2' : (f == 2) = false := by simpa using h2
    have h3' : (f == 3) = false := by simpa using h3
    have HV : Hid (asV (fun _ => false) f = .tuple #[.agg #[.int .i64 0, .string ⟨#[]⟩], .int .i64 60]) := Lib.hid (by unfold asV; rw [if_neg (by unfold okF; omega)]; rfl)
    have HAs := Lib.hid (HV.out ▸ as_any (w.heap.size + 1 + 1) (fun _ => false) f hf1 hf2 _ hT0.2.2.1)
    have HR := Lib.hid (read_no (f := f) (d := d) (fun h => by have := h.1; have := h.2.1; omega))
    have HT0 := Lib.hid hT0
    clear hT0 h1 h2 h3
    go_enter Tryd.func37, Tryd.ntmps37
    go_wp2_with fail
    refine HAs.out.mono ?_
    rintro e w5 ⟨rfl, hb5⟩
    have hT6 := (HT0.out.under hb5).under ((Below.refl _ w5).alloc (Nat.le_refl _) (.cells #[.int .i64 0, .string ⟨#[]⟩] 46))
    have hsc := st_cells hT6.2.1 (fun _ => false)
    have hE := hT6.done (fun _ => false)
    have hsz5 := (HT0.out.under hb5).1.lt
    clear hT6 hb5
    go_wp2
    exact ret_set2 rfl rfl hE.1 rfl ⟨by rw [HR.out]; rfl, hE.2⟩
end Go.Proofs.YtbfchlfagdhglaaDoor
/- The program's way: chunks gone through, parted, joined: pure mathematics. -/
namespace Go.Proofs.YtbfchlfagdhglaaDoor

/-! ### The container of no numbers -/
theorem bestF_none : bestF (fun _ => false) = 1 := by decide +kernel
theorem bestD_none : bestD (fun _ => false) = [] := by decide +kernel
theorem ofL_nil : ofL [] = fun _ => false := by funext n; rfl
theorem set_empty (n : Nat) : setOf 1 [] n = false := rfl
theorem vals_none_same {t : Bs} (h : vals t = []) : Same t (fun _ => false) := fun n hn => vals_nil h n hn
/-- A container in its best form is the empty one just if it has no numbers. -/
theorem best_empty (t : Bs) : ((bestF t : Nat) = (1 : Int) ∧ bestD t = []) ↔ vals t = [] := by
  constructor
  · rintro ⟨h1, h2⟩
    have hs := best_set t
    rw [h2, show bestF t = 1 by omega] at hs
    unfold vals valsTo
    rw [List.filter_eq_nil_iff]
    intro n hn
    rw [← hs n (List.mem_range.1 hn), set_empty]; decide
  · intro h
    have hs := vals_none_same h
    rw [bestF_congr hs, bestD_congr hs, bestF_none, bestD_none]
    exact ⟨rfl, rfl⟩
theorem read_bestZ (t : Bs) : Same (readS (bestF t : Nat) (bestD t)) t := by
  unfold readS
  rw [if_pos (best_right t), Int.toNat_natCast]; exact best_set t
theorem read_empty : readS 1 [] = fun _ => false := by
  unfold readS
  split
  · funext n; exact set_empty n
  · rfl
/-- What no chunk of a bitmap is. -/
def EmC (c : Ch) : Prop := c.2.1 = 1 ∧ c.2.2 = []
instance (c : Ch) : Decidable (EmC c) := by unfold EmC; infer_instance
/-- A chunk that is made again as it stood. -/
def BestC (c : Ch) : Prop := c.2.1 = (bestF (readS c.2.1 c.2.2) : Nat) ∧ c.2.2 = bestD (readS c.2.1 c.2.2)
instance (c : Ch) : Decidable (BestC c) := by unfold BestC; infer_instance
theorem emC_chunk (t : Bs) (k : Nat) : EmC (chunk t k) ↔ vals t = [] := best_empty t
theorem bestC_chunk (t : Bs) (k : Nat) : BestC (chunk t k) := by
  unfold BestC chunk
  simp only
  rw [bestF_congr (read_bestZ t), bestD_congr (read_bestZ t)]
  exact ⟨rfl, rfl⟩
theorem BestC.right {c : Ch} (h : BestC c) : RightC c.2.1 c.2.2 := by
  have := best_right (readS c.2.1 c.2.2)
  rw [← h.1, ← h.2] at this
  exact this
theorem BestC.read {c : Ch} (h : BestC c) : readS c.2.1 c.2.2 = setOf c.2.1.toNat c.2.2 := by unfold readS; rw [if_pos h.right]
theorem BestC.vals {c : Ch} (h : BestC c) (he : ¬ EmC c) : vals (setOf c.2.1.toNat c.2.2) ≠ [] := fun hv => by
  rw [← h.read] at hv
  have := (best_empty _).2 hv
  rw [← h.1, ← h.2] at this
  exact he this
theorem BestC.chunk {c : Ch} (h : BestC c) {t : Bs} (hs : Same t (setOf c.2.1.toNat c.2.2)) {k : Nat} (hk : c.1 = (k : Int)) : chunk t k = c := by
  unfold Proofs.YtbfchlfagdhglaaDoor.chunk
  rw [← h.read] at hs
  rw [bestF_congr hs, bestD_congr hs, ← h.1, ← h.2, ← hk]

/-! ### Which chunks are a bitmap's -/
/-- The key of the chunk ahead. -/
def aheadK (r : List Ch) : Nat → Int
  | 0 => -1
  | k + 1 => (r.getD k noCh).1
def StepOk (r : List Ch) (j : Nat) : Prop := aheadK r j < (r.getD j noCh).1 ∧ (r.getD j noCh).1 < 256 ∧ ¬ EmC (r.getD j noCh) ∧ BestC (r.getD j noCh)
def AllOk (r : List Ch) (k : Nat) : Prop := ∀ j, j < k → StepOk r j
theorem AllOk.zero (r : List Ch) : AllOk r 0 := fun j hj => by omega
theorem AllOk.succ {r : List Ch} {k : Nat} (h : AllOk r k) (hs : StepOk r k) : AllOk r (k + 1) := fun j hj => by
  by_cases e : j = k
  · rw [e]; exact hs
  · exact h j (by omega)
theorem aheadK_ge {r : List Ch} {k : Nat} (h : AllOk r k) : -1 ≤ aheadK r k := by
  induction k with
  | zero => exact Int.le_refl _
  | succ k ih =>
    have h1 := ih fun j hj => h j (by omega)
    have h2 := (h k (by omega)).1
    show -1 ≤ (r.getD k noCh).1
    omega
theorem AllOk.key {r : List Ch} {k : Nat} (h : AllOk r k) {j : Nat} (hj : j < k) : 0 ≤ (r.getD j noCh).1 := by
  have h1 := aheadK_ge (k := j) fun i hi => h i (by omega)
  have h2 := (h j hj).1
  omega
theorem AllOk.lt {r : List Ch} {k : Nat} (h : AllOk r k) : ∀ {i j : Nat}, i < j → j < k → (r.getD i noCh).1 < (r.getD j noCh).1 := by
  intro i j
  induction j with
  | zero => intro h; omega
  | succ j ih =>
    intro h1 h2
    have h3 : (r.getD j noCh).1 < (r.getD (j + 1) noCh).1 := (h (j + 1) h2).1
    by_cases e : i = j
    · rw [e]; exact h3
    · have := ih (by omega) (by omega)
      omega
theorem getD_get {r : List Ch} {j : Nat} (h : j < r.length) : r.getD j noCh = r[j] := by rw [List.getD_eq_getElem?_getD, List.getElem?_eq_getElem h]; rfl
/-- Good chunks that rise. -/
structure Rises (r : List Ch) : Prop where
  asc : r.Pairwise fun a b => a.1 < b.1
  key : ∀ c ∈ r, 0 ≤ c.1 ∧ c.1 < 256
  full : ∀ c ∈ r, ¬ EmC c
  best : ∀ c ∈ r, BestC c
theorem AllOk.rises {r : List Ch} (h : AllOk r r.length) : Rises r := by
  have g : ∀ c ∈ r, ∃ j, j < r.length ∧ c = r.getD j noCh := fun c hc => by
    obtain ⟨j, hj, e⟩ := List.mem_iff_getElem.1 hc
    exact ⟨j, hj, by rw [getD_get hj, e]⟩
  refine ⟨List.pairwise_iff_getElem.2 fun i j hi hj hij => ?_, fun c hc => ?_, fun c hc => ?_, fun c hc => ?_⟩
  · have := h.lt hij hj
    rwa [getD_get hi, getD_get hj] at this
  · obtain ⟨j, hj, rfl⟩ := g c hc
    exact ⟨h.key hj, (h j hj).2.1⟩
  · obtain ⟨j, hj, rfl⟩ := g c hc
    exact (h j hj).2.2.1
  · obtain ⟨j, hj, rfl⟩ := g c hc
    exact (h j hj).2.2.2
theorem Rises.all {r : List Ch} (h : Rises r) : AllOk r r.length := fun j hj => by
  have hm : r.getD j noCh ∈ r := by rw [getD_get hj]; exact List.getElem_mem hj
  refine ⟨?_, (h.key _ hm).2, h.full _ hm, h.best _ hm⟩
  cases j with
  | zero => have := (h.key _ hm).1; show (-1 : Int) < _; omega
  | succ j =>
    show (r.getD j noCh).1 < _
    rw [getD_get hj, getD_get (show j < r.length by omega)]
    exact List.pairwise_iff_getElem.1 h.asc j (j + 1) (by omega) hj (by omega)
theorem Rises.tail {c : Ch} {r : List Ch} (h : Rises (c :: r)) : Rises r :=
  ⟨(List.pairwise_cons.1 h.asc).2, fun d hd => h.key d (List.mem_cons_of_mem _ hd), fun d hd => h.full d (List.mem_cons_of_mem _ hd), fun d hd => h.best d (List.mem_cons_of_mem _ hd)⟩
/-- The numbers of the chunk of one key. -/
theorem setZ_at {r : List Ch} (ha : r.Pairwise fun a b => a.1 < b.1) {c : Ch} (hc : c ∈ r) {k : Nat} (hk : c.1 = (k : Int)) {i : Nat} (hi : i < 256) : setZ r (256 * k + i) = setOf c.2.1.toNat c.2.2 i := by
  have e1 : (256 * k + i) / 256 = k := by omega
  have e2 : (256 * k + i) % 256 = i := by omega
  have one : hasCh c (256 * k + i) = setOf c.2.1.toNat c.2.2 i := by
    unfold hasCh
    rw [e1, e2, decide_eq_true hk, Bool.true_and]
  have other : ∀ d : Ch, d.1 ≠ (k : Int) → hasCh d (256 * k + i) = false := fun d hd => by
    unfold hasCh
    rw [e1, decide_eq_false hd, Bool.false_and]
  induction r with
  | nil => cases hc
  | cons d r ih =>
    have h1 := List.pairwise_cons.1 ha
    show (hasCh d _ || setZ r _) = _
    rcases List.mem_cons.1 hc with rfl | hc
    · have : setZ r (256 * k + i) = false := by
        unfold setZ
        rw [List.any_eq_false]
        intro x hx
        have := h1.1 x hx
        rw [other x (by omega)]; decide
      rw [one, this, Bool.or_false]
    · have := h1.1 c hc
      rw [other d (by omega), Bool.false_or]
      exact ih h1.2 hc
theorem setZ_no {r : List Ch} {k : Nat} (hk : ∀ c ∈ r, c.1 ≠ (k : Int)) {i : Nat} (hi : i < 256) : setZ r (256 * k + i) = false := by
  unfold setZ
  rw [List.any_eq_false]
  intro x hx
  unfold hasCh
  rw [show (256 * k + i) / 256 = k by omega, decide_eq_false (hk x hx), Bool.false_and]; decide
theorem filt_succ {r : List Ch} (ha : r.Pairwise fun a b => a.1 < b.1) {c : Ch} (hc : c ∈ r) {k : Nat} (hk : c.1 = (k : Int)) : r.filter (fun d => decide (d.1 < ((k + 1 : Nat) : Int))) = r.filter (fun d => decide (d.1 < (k : Int))) ++ [c] := by
  induction r with
  | nil => cases hc
  | cons d r ih =>
    have h1 := List.pairwise_cons.1 ha
    rcases List.mem_cons.1 hc with rfl | hc
    · have e1 : r.filter (fun d => decide (d.1 < ((k + 1 : Nat) : Int))) = [] := by
        rw [List.filter_eq_nil_iff]; intro x hx; have := h1.1 x hx; rw [decide_eq_true_iff]; omega
      have e2 : r.filter (fun d => decide (d.1 < (k : Int))) = [] := by
        rw [List.filter_eq_nil_iff]; intro x hx; have := h1.1 x hx; rw [decide_eq_true_iff]; omega
      rw [List.filter_cons_of_pos (by rw [decide_eq_true_iff]; omega), List.filter_cons_of_neg (by rw [decide_eq_true_iff]; omega), e1, e2]; rfl
    · have := h1.1 c hc
      rw [List.filter_cons_of_pos (by rw [decide_eq_true_iff]; omega), List.filter_cons_of_pos (by rw [decide_eq_true_iff]; omega), ih h1.2 hc]; rfl
theorem Rises.ofTo {r : List Ch} (h : Rises r) (k : Nat) : ofTo (setZ r) k = r.filter fun d => decide (d.1 < (k : Int)) := by
  induction k with
  | zero =>
    symm
    show r.filter _ = []
    rw [List.filter_eq_nil_iff]
    intro c hc
    have := (h.key c hc).1
    rw [decide_eq_true_iff]; omega
  | succ k ih =>
    by_cases hx : ∃ c ∈ r, c.1 = (k : Int)
    · obtain ⟨c, hc, hk⟩ := hx
      have hs : Same (part (setZ r) k) (setOf c.2.1.toNat c.2.2) := fun i hi => setZ_at h.asc hc hk hi
      have hv : vals (part (setZ r) k) ≠ [] := by rw [vals_congr hs]; exact (h.best c hc).vals (h.full c hc)
      rw [ofTo_some hv, ih, filt_succ h.asc hc hk, (h.best c hc).chunk hs hk]
    · have hn : ∀ c ∈ r, c.1 ≠ (k : Int) := fun c hc e => hx ⟨c, hc, e⟩
      have hv : vals (part (setZ r) k) = [] := by
        unfold vals valsTo
        rw [List.filter_eq_nil_iff]
        intro i hi
        show ¬ (part (setZ r) k i = true)
        unfold part
        rw [setZ_no hn (List.mem_range.1 hi)]; decide
      rw [ofTo_none hv, ih]
      refine List.filter_congr fun c hc => ?_
      have := hn c hc
      exact decide_eq_decide.2 (by omega)
theorem Rises.right {r : List Ch} (h : Rises r) : RightZ r := by
  have e : ofS (setZ r) = r := by
    unfold ofS
    rw [h.ofTo, List.filter_eq_self]
    intro c hc
    have := (h.key c hc).2
    rw [decide_eq_true_iff]; omega
  exact ⟨by rw [← e]; exact ofS_length _, e.symm⟩
theorem rises_of (s : Bs) : Rises (ofS s) := by
  refine ⟨ofTo_asc s 256, fun c hc => ?_, fun c hc => ?_, fun c hc => ?_⟩
  · obtain ⟨j, hj, rfl, _⟩ := mem_ofTo hc
    show 0 ≤ (j : Int) ∧ (j : Int) < 256
    omega
  · obtain ⟨j, hj, rfl, hv⟩ := mem_ofTo hc
    exact fun he => hv ((emC_chunk _ _).1 he)
  · obtain ⟨j, hj, rfl, _⟩ := mem_ofTo hc
    exact bestC_chunk _ _
theorem right_rises {r : List Ch} (h : RightZ r) : Rises r := by rw [h.2]; exact rises_of _
theorem right_iff {r : List Ch} : RightZ r ↔ AllOk r r.length := ⟨fun h => (right_rises h).all, fun h => h.rises.right⟩
theorem not_right {r : List Ch} {k : Nat} (hk : k < r.length) (h : ¬ StepOk r k) : ¬ RightZ r := fun hr => h (right_iff.1 hr k hk)

/-! ### The numbers, chunk by chunk -/
def valsC (c : Ch) : List Nat := (vals (readS c.2.1 c.2.2)).map fun n => 256 * c.1.toNat + n
def valsR (r : List Ch) : List Nat := r.flatMap valsC
theorem valsR_nil : valsR [] = [] := rfl
theorem valsR_snoc (r : List Ch) (c : Ch) : valsR (r ++ [c]) = valsR r ++ valsC c := by unfold valsR; rw [List.flatMap_append]; simp
theorem valsC_chunk (t : Bs) (k : Nat) : valsC (chunk t k) = (vals t).map fun n => 256 * k + n := by
  unfold valsC chunk
  simp only [Int.toNat_natCast]
  rw [vals_congr (read_bestZ t)]
theorem valsTo_part (s : Bs) (k : Nat) : valsTo s (256 * (k + 1)) = valsTo s (256 * k) ++ (vals (part s k)).map fun n => 256 * k + n := by
  unfold vals valsTo part
  rw [show 256 * (k + 1) = 256 * k + 256 by omega, List.range_add, List.filter_append, List.filter_map]
  rfl
theorem valsR_ofTo (s : Bs) (k : Nat) : valsR (ofTo s k) = valsTo s (256 * k) := by
  induction k with
  | zero => rfl
  | succ k ih =>
    rw [valsTo_part]
    by_cases h : vals (part s k) = []
    · rw [ofTo_none h, ih, h]; simp
    · rw [ofTo_some h, valsR_snoc, ih, valsC_chunk]
theorem valsR_right {r : List Ch} (h : RightZ r) : valsR r = valsZ r := by
  have e := valsR_ofTo (setZ r) 256
  rw [valsZ_good h, h.2]
  show valsR (ofTo (setZ r) 256) = valsTo (setZ (ofS (setZ r))) 65536
  rw [e]
  exact valsTo_congr fun n hn => (set_of (setZ r) n hn).symm
theorem valsC_length (c : Ch) : (valsC c).length = (vals (readS c.2.1 c.2.2)).length := by unfold valsC; rw [List.length_map]
theorem valsC_le (c : Ch) : (valsC c).length ≤ 256 := by rw [valsC_length]; exact valsTo_le _ 256
theorem valsR_le : ∀ r : List Ch, (valsR r).length ≤ 256 * r.length
  | [] => Nat.zero_le _
  | c :: r => by
    show (valsC c ++ valsR r).length ≤ _
    have h1 := valsC_le c
    have h2 := valsR_le r
    rw [List.length_append, List.length_cons]; omega

/-! ### Has -/
theorem has_hit {r : List Ch} (h : RightZ r) {c : Ch} (hc : c ∈ r) {n : Int} (hk : c.1 = n / 256) : hasZ r n = readS c.2.1 c.2.2 (n % 256).toNat := by
  have hr := right_rises h
  have h1 := hr.key c hc
  have hb := (hr.best c hc).read
  unfold hasZ goodQ
  rw [decide_eq_true (show 0 ≤ n by omega), decide_eq_true (show n < 65536 by omega), readZ_good h, hb]
  rw [show n.toNat = 256 * c.1.toNat + (n % 256).toNat by omega]
  show setZ r _ = _
  exact setZ_at hr.asc hc (show c.1 = (c.1.toNat : Int) by omega) (by omega)
theorem has_miss {r : List Ch} {n : Int} (hk : ∀ c ∈ r, c.1 ≠ n / 256) : hasZ r n = false := by
  unfold hasZ goodQ
  by_cases hn : 0 ≤ n ∧ n < 65536
  · have : readZ r n.toNat = false := by
      unfold readZ
      rw [show n.toNat = 256 * (n / 256).toNat + (n % 256).toNat by omega, setZ_no (fun c hc e => hk c hc (by rw [e]; omega)) (by omega), Bool.and_false]
    rw [this, Bool.and_false]
  · have : (decide (0 ≤ n) && decide (n < 65536)) = false := by
      rw [Bool.and_eq_false_iff, decide_eq_false_iff_not, decide_eq_false_iff_not]; omega
    rw [this, Bool.false_and]
theorem has_bad {r : List Ch} (h : ¬ RightZ r) (n : Int) : hasZ r n = false := by
  unfold hasZ; rw [readZ_bad h, Bool.and_false]

/-! ### Rank -/
def rankL (l : List Nat) (n : Int) : Nat := (l.filter fun (v : Nat) => decide ((v : Int) ≤ n)).length
theorem rankL_append (l m : List Nat) (n : Int) : rankL (l ++ m) n = rankL l n + rankL m n := by unfold rankL; rw [List.filter_append, List.length_append]
theorem rankL_right {r : List Ch} (h : RightZ r) (n : Int) : rankL (valsR r) n = rankN (readZ r) 65536 n := by
  rw [valsR_right h, valsZ_read]
  exact rankN_count _ _ _
theorem rankL_chunk {c : Ch} (h0 : 0 ≤ c.1) (n : Int) : rankL (valsC c) n = rankN (readS c.2.1 c.2.2) 256 (n - 256 * c.1) := by
  rw [← rankN_count]
  unfold rankL valsC vals
  rw [List.filter_map, List.length_map]
  congr 1
  refine List.filter_congr fun v _ => ?_
  show decide (((256 * c.1.toNat + v : Nat) : Int) ≤ n) = _
  exact decide_eq_decide.2 (by omega)
theorem rankL_over {c : Ch} {n : Int} (hk : n / 256 < c.1) : rankL (valsC c) n = 0 := by
  unfold rankL valsC
  rw [List.filter_map, List.length_map, List.length_eq_zero_iff, List.filter_eq_nil_iff]
  intro v _
  show ¬ decide (((256 * c.1.toNat + v : Nat) : Int) ≤ n) = true
  rw [decide_eq_true_iff]; omega
theorem rankL_rest {r : List Ch} {n : Int} (h : ∀ c ∈ r, n / 256 < c.1) : rankL (valsR r) n = 0 := by
  induction r with
  | nil => rfl
  | cons c r ih =>
    show rankL (valsC c ++ valsR r) n = 0
    rw [rankL_append, rankL_over (h c (List.mem_cons_self ..)), ih fun d hd => h d (List.mem_cons_of_mem _ hd)]
theorem rank_bad {r : List Ch} (h : ¬ RightZ r) (n : Int) : rankN (readZ r) 65536 n = 0 := by
  rw [readZ_bad h]
  unfold rankN
  rw [valsTo_none]; rfl
/-- The rank where the loop is left. -/
theorem rank_break {r pre post : List Ch} {c : Ch} (h : RightZ r) (e : r = pre ++ c :: post) {n : Int} (hk : n / 256 < c.1) : rankL (valsR pre) n = rankN (readZ r) 65536 n := by
  have ha := (right_rises h).asc
  rw [← rankL_right h, e]
  rw [e] at ha
  have h2 := (List.pairwise_append.1 ha).2.1
  have h3 : rankL (valsR (c :: post)) n = 0 := rankL_rest fun d hd => by
    rcases List.mem_cons.1 hd with rfl | hd
    · exact hk
    · have := (List.pairwise_cons.1 h2).1 d hd
      omega
  rw [show valsR (pre ++ c :: post) = valsR pre ++ valsR (c :: post) by unfold valsR; rw [List.flatMap_append], rankL_append, h3]; rfl

/-! ### Chunks of keys -/
theorem asc_ext : ∀ {l m : List Nat}, l.Pairwise (· < ·) → m.Pairwise (· < ·) → (∀ x, x ∈ l ↔ x ∈ m) → l = m
  | [], [], _, _, _ => rfl
  | [], y :: m, _, _, h => by have := (h y).2 (List.mem_cons_self ..); cases this
  | x :: l, [], _, _, h => by have := (h x).1 (List.mem_cons_self ..); cases this
  | x :: l, y :: m, hl, hm, h => by
    have h1 := List.pairwise_cons.1 hl
    have h2 := List.pairwise_cons.1 hm
    have e : x = y := by
      rcases List.mem_cons.1 ((h x).1 (List.mem_cons_self ..)) with e | hx
      · exact e
      · rcases List.mem_cons.1 ((h y).2 (List.mem_cons_self ..)) with e | hy
        · exact e.symm
        · have := h1.1 y hy; have := h2.1 x hx; omega
    subst e
    rw [asc_ext h1.2 h2.2 fun z => ⟨fun hz => ?_, fun hz => ?_⟩]
    · rcases List.mem_cons.1 ((h z).1 (List.mem_cons_of_mem _ hz)) with e | hz2
      · have := h1.1 z hz; omega
      · exact hz2
    · rcases List.mem_cons.1 ((h z).2 (List.mem_cons_of_mem _ hz)) with e | hz2
      · have := h2.1 z hz; omega
      · exact hz2
theorem ofTo_range (s : Bs) (k : Nat) : ofTo s k = ((List.range k).filter fun j => decide (vals (part s j) ≠ [])).map fun j => chunk (part s j) j := by
  induction k with
  | zero => rfl
  | succ k ih =>
    rw [List.range_succ, List.filter_append, List.map_append, ← ih]
    by_cases h : vals (part s k) = []
    · rw [ofTo_none h]; simp [h]
    · rw [ofTo_some h]; simp [h]
/-- Chunks of keys that rise, the empty ones left out, are a bitmap, if no key is lacking. -/
theorem ofS_keys {s : Bs} {ks : List Nat} (ha : ks.Pairwise (· < ·)) (hk : ∀ k ∈ ks, k < 256) (hc : ∀ k, k < 256 → k ∉ ks → vals (part s k) = []) {l : List Ch} (hl : l = ks.map fun k => chunk (part s k) k) : l.filter (fun c => !decide (EmC c)) = ofS s := by
  subst hl
  unfold ofS
  rw [ofTo_range, List.filter_map]
  congr 1
  refine asc_ext (List.Pairwise.filter _ ha) (List.Pairwise.filter _ List.pairwise_lt_range) fun x => ?_
  rw [List.mem_filter, List.mem_filter, List.mem_range]
  have e : ((fun c => !decide (EmC c)) ∘ fun k => chunk (part s k) k) x = decide (vals (part s x) ≠ []) := by
    show (!decide (EmC (chunk (part s x) x))) = _
    rw [← decide_not]
    exact decide_eq_decide.2 (not_congr (emC_chunk _ _))
  rw [e, decide_eq_true_iff]
  constructor
  · rintro ⟨h1, h2⟩; exact ⟨hk x h1, h2⟩
  · rintro ⟨h1, h2⟩
    refine ⟨?_, h2⟩
    by_cases hx : x ∈ ks
    · exact hx
    · exact absurd (hc x h1 hx) h2
end Go.Proofs.YtbfchlfagdhglaaDoor
/- roar.keyOf, number. -/
namespace Go.Proofs.YtbfchlfagdhglaaDoor
open Go.RowKit

theorem key_any (n : Int) (w : World) :
    Calls Tryd.prog 23 #[.int .i64 n] w fun e w' => e = .returned (.int .i64 (n / 256)) ∧ w = w' := by
  go_enter Tryd.func23, Tryd.ntmps23
  go_wp2
  go_ret
  exact ⟨rfl, rfl⟩
theorem or_num (k n : Nat) (hk : k ≤ 256) (hn : n < 256) : bits .or .i64 ((k : Int) * 256) (n : Int) = ((256 * k + n : Nat) : Int) := by
  show IntKind.i64.wrap ((BitVec.ofInt 64 ((k : Int) * 256) ||| BitVec.ofInt 64 (n : Int)).toNat : Int) = _
  have e : (k : Int) * 256 = ((256 * k : Nat) : Int) := by omega
  have h : 256 * k ||| n = 256 * k + n := by
    have := Nat.two_pow_add_eq_or_of_lt (i := 8) (b := n) (by simpa using hn) k
    rw [show (256 : Nat) = 2 ^ 8 from rfl]; exact this.symm
  rw [e, BitVec.toNat_or, BitVec.ofInt_natCast, BitVec.ofInt_natCast, BitVec.toNat_ofNat, BitVec.toNat_ofNat, Nat.mod_eq_of_lt (by omega), Nat.mod_eq_of_lt (by omega), h, IntKind.wrap_i64]
  omega
theorem num_any (k n : Nat) (hk : k ≤ 256) (hn : n < 256) (w : World) :
    Calls Tryd.prog 27 #[.int .i64 (k : Nat), .int .i64 (n : Nat)] w fun e w' => e = .returned (.int .i64 ((256 * k + n : Nat) : Int)) ∧ w = w' := by
  have H := or_num k n hk hn
  generalize ((256 * k + n : Nat) : Int) = m at *
  go_enter Tryd.func27, Tryd.ntmps27
  go_wp2
  go_ret
  exact ⟨rfl, rfl⟩
end Go.Proofs.YtbfchlfagdhglaaDoor
/- A set in a new block. -/
namespace Go.Proofs.YtbfchlfagdhglaaDoor
open Go.RowKit

theorem st_new (w : World) (t : Bs) : (storeCells ⟨w.heap.size, 0, none⟩ (scl t).toList).run Tryd.prog (w.alloc (.cells (scl fun _ => false) 83)) = .ok () (w.alloc (.cells (scl t) 83)) := by
  rw [st_cells (Blk.new w 83 _) t, setRow_new]
end Go.Proofs.YtbfchlfagdhglaaDoor
/- Two of the program's sets held against each other. -/
namespace Go.Proofs.YtbfchlfagdhglaaDoor
open Go.RowKit

theorem scl_inj {s t : Bs} (h : scl s = scl t) : Same s t := by
  intro n hn
  have hk : n / 8 < 32 := by omega
  have h1 := scl_get (s := s) hk
  have h2 := scl_get (s := t) hk
  rw [h] at h1
  rw [h1] at h2
  have h5 : Value.int .u8 (byteS s 256 (n / 8) : Nat) = Value.int .u8 (byteS t 256 (n / 8) : Nat) := Option.some.inj h2
  have e : ((byteS s 256 (n / 8) : Nat) : Int) = (byteS t 256 (n / 8) : Nat) := by injection h5
  have e2 : byteS s 256 (n / 8) = byteS t 256 (n / 8) := Int.ofNat.inj e
  have h3 := byteS_bit s (n / 8) (n % 8) hk
  have h4 := byteS_bit t (n / 8) (n % 8) hk
  rw [e2, h4, show 8 * (n / 8) + n % 8 = n by omega] at h3
  have h8 : n % 8 < 8 := by omega
  rw [decide_eq_true h8, Bool.true_and, Bool.true_and] at h3
  exact h3.symm
theorem mapM_some {α β : Type} {l : List α} {f : α → Option β} {g : α → β} (h : ∀ x ∈ l, f x = some (g x)) : l.mapM f = some (l.map g) := by
  induction l with
  | nil => rfl
  | cons x r ih =>
    rw [List.mapM_cons, h x (List.mem_cons_self ..), ih fun y hy => h y (List.mem_cons_of_mem _ hy)]; rfl
def litS (s : Bs) : List Lit := (List.range 32).map fun k => Lit.int .u8 (byteS s 256 k : Nat)
theorem cells_set : Tryd.prog.cellsOf 83 = 32 := by kernel_rfl
theorem cells_u8 : Tryd.prog.cellsOf 5 = 1 := by kernel_rfl
theorem litS_inj {s t : Bs} : litS s = litS t ↔ scl s = scl t := by
  have key : ∀ u : Bs, (scl u).toList = (litS u).map fun l => match l with | .int q n => Value.int q n | _ => undef := fun u => by
    unfold scl litS
    rw [List.map_map]; rfl
  constructor
  · intro h
    apply Array.ext'
    rw [key, key, h]
  · intro h
    have hs := scl_inj h
    unfold litS
    exact List.map_congr_left fun k _ => congrArg (fun n : Nat => Lit.int .u8 (n : Int)) (byteS_same hs k)
theorem flat_one (l : List Lit) : (l.map fun x => [x]).flatten = l := by
  induction l with
  | nil => rfl
  | cons x r ih => simp [ih]
theorem lits_set (s : Bs) : Tryd.prog.keyLits 2 83 (scl s).toList = some (litS s) := by
  have hm : (List.range 32).mapM (fun i => Tryd.prog.keyLits 1 5 (((scl s).toList.drop (i * 1)).take 1)) = some ((List.range 32).map fun k => [Lit.int .u8 (byteS s 256 k : Nat)]) := mapM_some fun k hk => by
    have hk' := List.mem_range.1 hk
    have e : ((scl s).toList.drop (k * 1)).take 1 = [Value.int .u8 (byteS s 256 k : Nat)] := by
      have h1 : (scl s).toList[k]? = some (Value.int .u8 (byteS s 256 k : Nat)) := by rw [Array.getElem?_toList]; exact scl_get hk'
      have hl : k < (scl s).toList.length := by rw [Array.length_toList, scl_size]; exact hk'
      rw [Nat.mul_one, List.drop_eq_getElem_cons hl]
      rw [List.getElem?_eq_getElem hl] at h1
      rw [Option.some.inj h1]; rfl
    rw [e]
    have hlt := byteS_lt s 256 k
    have hw : (Lit.int .u8 (byteS s 256 k : Nat)).wf = true := by
      simp [Lit.wf, IntKind.min, IntKind.max, IntKind.bits, IntKind.signed]; omega
    simp [Program.keyLits, Tryd.underlying5, hw]
  have hl : (scl s).toList.length = 32 := by rw [Array.length_toList, scl_size]
  unfold Program.keyLits
  simp only [Tryd.underlying83]
  rw [if_pos (by rw [cells_set, hl]), cells_u8, hm]
  show some _ = _
  rw [← flat_one (litS s)]
  unfold litS
  rw [List.map_map]; rfl
def sameB (s t : Bs) : Bool := (List.range 256).all fun n => s n == t n
theorem sameB_iff {s t : Bs} : sameB s t = true ↔ Same s t := by
  unfold sameB
  rw [List.all_eq_true]
  exact ⟨fun h n hn => eq_of_beq (h n (List.mem_range.2 hn)), fun h n hn => by rw [h n (List.mem_range.1 hn)]; exact beq_self_eq_true _⟩
set_option maxRecDepth 100000 in
/-- Whether they are the same. -/
theorem eql_set (s t : Bs) (w : World) : (binOp .eql 83 (.agg (scl s)) (.agg (scl t))).run Tryd.prog w = .ok (.bool (sameB s t)) w := by
  obtain ⟨r, hr, hiff⟩ := run_equalIn_deep (P := Tryd.prog) 9990 10 83 (by kernel_rfl) w 2 2 (.agg (scl s)) (.agg (scl t)) (litS s) (litS t)
    (by simp [Value.formed, Tryd.underlying83, cells_set, scl_size]) (by simp [Value.formed, Tryd.underlying83, cells_set, scl_size]) (lits_set s) (lits_set t)
  have e : r = sameB s t := by
    rw [Bool.eq_iff_iff, hiff, litS_inj, sameB_iff]
    exact ⟨scl_inj, scl_congr⟩
  rw [run_eql_struct, hr, e]; rfl
set_option maxRecDepth 100000 in
theorem wpList_eq_set {ops : Array Oper} {rest : List Oper} {op : Oper} {a : Act} {w : World} {Q : Exit → Act → World → Prop} (hw : Region.wanted op (yielded ops a.tmps) = true) (x y : Operand) (t' : TypeId) (ho : op.op = .binOp .eql 83 x y t') (s t : Bs)
    (hx : a.eval x = .agg (scl s)) (hy : a.eval y = .agg (scl t)) (h : wpList Tryd.prog ops Q rest (a.put op.dst (.bool (sameB s t))) w) : wpList Tryd.prog ops Q (op :: rest) a w :=
  wpList_step fun K hK => by
    rw [if_pos hw]
    unfold Oper.wp execOp
    simp only [ho, hx, hy, Sem.run_bind, Sem.run_pure, eql_set]
    exact hK _ _ h
set_option maxRecDepth 100000 in
theorem wpList_ld_setG {ops : Array Oper} {rest : List Oper} {op : Oper} {a : Act} {w : World} {Q : Exit → Act → World → Prop} (hw : Region.wanted op (yielded ops a.tmps) = true) (x : Operand) (ho : op.op = .load 83 x) (g : Nat) (hx : a.eval x = .pointer (some ⟨g, 0, none⟩)) (s : Bs)
    (hb : Blk w g 83 (scl s)) (h : wpList Tryd.prog ops Q rest (a.put op.dst (.agg (scl s))) w) : wpList Tryd.prog ops Q (op :: rest) a w :=
  wpList_step fun K hK => by
    rw [if_pos hw]
    exact wp_ld_set x ho g hx s hb (hK _ _ h)
end Go.Proofs.YtbfchlfagdhglaaDoor
