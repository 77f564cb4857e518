/- (*reader).numbers: the numbers that bytes have, and what is behind the last one. -/
import Derived.Test.YtmimepjokkcbeaaDoorPEach
import Derived.Test.YtmimepjokkcbeaaDoorPDigs
import Derived.Test.YtmimepjokkcbeaaDoorVNumM
import Derived.Test.YtmimepjokkcbeaaDoorRKit
import Derived.Deep.RegionWith
import Derived.Deep.DeepCutAuto
import Derived.BigQuiet
namespace Go.Proofs.YtmimepjokkcbeaaDoor
open Go.RowKit
attribute [local go_sem] Oper.semAt_some

/-- How many of number i's digits are among the first m. -/
def nlim (w c m i : Nat) : Nat := if i < c then min w (m - i * w) else m - i * w
def ncell (f : Nat → Nat) (w c m i : Nat) : Nat := val f (i * w) (nlim w c m i)
def ncells (f : Nat → Nat) (w c m : Nat) : Array Value := ((List.range (c + 1)).map fun i => Value.int .i64 (ncell f w c m i : Nat)).toArray
theorem ncells_get {f : Nat → Nat} {w c m i : Nat} (h : i < c + 1) : (ncells f w c m)[i]? = some (.int .i64 (ncell f w c m i : Nat)) := by
  unfold ncells
  rw [List.getElem?_toArray, List.getElem?_map, List.getElem?_range h]; rfl
theorem ncells_size (f : Nat → Nat) (w c m : Nat) : (ncells f w c m).size = c + 1 := by simp [ncells]
theorem mul_le_of {i q w : Nat} (h : i < q) : (i + 1) * w ≤ q * w := Nat.mul_le_mul_right _ h
theorem nlim_other {w c m i : Nat} (hw : 0 < w) (hi : i ≤ c) (h : i ≠ min (m / w) c) : nlim w c (m + 1) i = nlim w c m i := by
  have h1 := Nat.div_add_mod m w
  have h2 := Nat.mod_lt m hw
  rw [Nat.mul_comm] at h1
  unfold nlim
  by_cases hic : i < c
  · rw [if_pos hic, if_pos hic]
    rcases Nat.lt_or_ge i (m / w) with h3 | h3
    · have h4 := mul_le_of (w := w) h3
      rw [Nat.add_mul, Nat.one_mul] at h4
      omega
    · have h5 : m / w < i := by omega
      have h4 := mul_le_of (w := w) h5
      rw [Nat.add_mul, Nat.one_mul] at h4
      omega
  · obtain rfl : i = c := by omega
    rw [if_neg hic, if_neg hic]
    have h5 : m / w < i := by omega
    have h4 := mul_le_of (w := w) h5
    rw [Nat.add_mul, Nat.one_mul] at h4
    omega
theorem ncell_same {f : Nat → Nat} {w c m : Nat} (hw : 0 < w) : ncell f w c (m + 1) (min (m / w) c) = 2 * ncell f w c m (min (m / w) c) + f m := by
  have h1 := Nat.div_add_mod m w
  have h2 := Nat.mod_lt m hw
  rw [Nat.mul_comm] at h1
  have key : nlim w c (m + 1) (min (m / w) c) = nlim w c m (min (m / w) c) + 1 ∧ min (m / w) c * w + nlim w c m (min (m / w) c) = m := by
    rcases Nat.lt_or_ge (m / w) c with h3 | h3
    · rw [Nat.min_eq_left (by omega)]
      unfold nlim
      rw [if_pos h3, if_pos h3]
      omega
    · rw [Nat.min_eq_right h3]
      have h4 : c * w ≤ m / w * w := Nat.mul_le_mul_right _ h3
      unfold nlim
      rw [if_neg (by omega), if_neg (by omega)]
      omega
  unfold ncell
  rw [key.1, val_succ, key.2]
theorem ncells_set {f : Nat → Nat} {w c m : Nat} (hw : 0 < w) : (ncells f w c m).setIfInBounds (min (m / w) c) (.int .i64 ((2 * ncell f w c m (min (m / w) c) + f m : Nat) : Int)) = ncells f w c (m + 1) := by
  apply Array.ext_getElem?
  intro k
  rw [Array.getElem?_setIfInBounds]
  by_cases hk : k < c + 1
  · rw [ncells_get hk, ncells_get hk]
    by_cases e : min (m / w) c = k
    · subst e; rw [if_pos rfl, if_pos (by rw [ncells_size]; exact hk), ncell_same hw]
    · rw [if_neg e]
      unfold ncell
      rw [nlim_other hw (by omega) (fun h => e h.symm)]
  · rw [Array.getElem?_eq_none (by rw [ncells_size]; omega), Array.getElem?_eq_none (by rw [ncells_size]; omega)]
    split
    · rw [if_neg (by rw [ncells_size]; omega)]
    · rfl
theorem ncells_zero (f : Nat → Nat) (w c : Nat) : Array.replicate (c + 1) (Value.int .i64 0) = ncells f w c 0 := by
  apply Array.ext_getElem?
  intro k
  by_cases hk : k < c + 1
  · rw [ncells_get hk, Array.getElem?_replicate, if_pos hk]
    have : nlim w c 0 k = 0 := by unfold nlim; split <;> omega
    simp [ncell, this, val]
  · rw [Array.getElem?_eq_none (by simp; omega), Array.getElem?_eq_none (by rw [ncells_size]; omega)]
theorem ncell_num {w c i : Nat} {s : List UInt8} (h : i < c) : ncell (tgt s) w c (8 * szOf c w) i = (numsOf w c s).getD i 0 := by
  rw [numsOf_get h]
  unfold ncell nlim
  have h1 := sz_ge c w
  have h2 := mul_le_of (w := w) h
  rw [Nat.add_mul, Nat.one_mul] at h2
  rw [if_pos h, show min w (8 * szOf c w - i * w) = w by omega]
theorem ncell_behind {w c : Nat} {s : List UInt8} : ncell (tgt s) w c (8 * szOf c w) c = behindOf w c s := by
  unfold ncell nlim behindOf
  rw [if_neg (by omega)]
theorem ncell_lt {f : Nat → Nat} (hf : ∀ p, f p < 2) {w c m i : Nat} (hw : w ≤ 16) (hm : m ≤ 8 * szOf c w) (hi : i ≤ c) : ncell f w c m i < 65536 := by
  have h : nlim w c m i ≤ 16 := by
    unfold nlim
    split
    · omega
    · obtain rfl : i = c := by omega
      unfold szOf at hm
      omega
  exact Nat.lt_of_lt_of_le (val_lt hf _ _) (Nat.pow_le_pow_right (by decide) h)
theorem or64 {a d : Nat} (ha : a < 65536) (hd : d < 2) : bits .or .i64 ((a : Int) * 2) (d : Int) = ((2 * a + d : Nat) : Int) := by
  have e := or_low (a := 2 * a) (x := d) (i := 0) (by omega) hd
  rw [Nat.pow_zero, Nat.mul_one] at e
  show IntKind.i64.wrap ((BitVec.ofInt 64 ((a : Int) * 2) ||| BitVec.ofInt 64 d).toNat : Int) = _
  rw [show (a : Int) * 2 = ((2 * a : Nat) : Int) by omega, BitVec.toNat_or, BitVec.ofInt_natCast, BitVec.ofInt_natCast, BitVec.toNat_ofNat, BitVec.toNat_ofNat, Nat.mod_eq_of_lt (by omega), Nat.mod_eq_of_lt (by omega), e, IntKind.wrap_i64]
  omega

/-- What a call of numbers leaves. -/
def NumsPost (c wd : Nat) (s : List UInt8) (w : World) (bh : Nat) (e : Ending) (w' : World) : Prop :=
  ∃ g, e = .returned (.tuple #[.slice (some ⟨g, 0, none⟩) c c, .int .i64 bh]) ∧ w.heap.size ≤ g ∧ g < w'.heap.size ∧
    (∀ j, j < c → w'.cell? ⟨g, j, none⟩ = some (.int .i64 ((numsOf wd c s).getD j 0 : Nat))) ∧ Below w.heap.size w w'
theorem nums_post {c wd : Nat} {s : List UInt8} {w W : World} {k D bh : Nat} (hB1 : Below w.heap.size w W) (b3 : Blk W (w.heap.size + 1 + 1) 3 (ncells (tgt s) wd c (8 * szOf c wd))) (hD : w.heap.size + 3 ≤ D) (hDl : D < W.heap.size) :
    NumsPost c wd s w bh (.returned (.tuple #[.slice (some ⟨w.heap.size + 1 + 1, 0, none⟩) c c, .int .i64 bh])) ((W.drewN k).putObj D (.deferred none)) := by
  have hb : Blk ((W.drewN k).putObj D (.deferred none)) (w.heap.size + 1 + 1) 3 (ncells (tgt s) wd c (8 * szOf c wd)) := (World.putObj_heap_other (by omega)).trans b3
  refine ⟨_, rfl, by omega, hb.lt, fun j hj => ?_, ?_⟩
  · rw [hb.cell j, ncells_get (by omega), ncell_num hj]
  · exact (below_drewN hB1 k).grown (grownBy_putObj' _ D (.deferred none)) hB1.size (fun k e => by cases e; omega)

set_option maxRecDepth 100000 in
set_option maxHeartbeats 1000000 in
theorem numbers_any (B c wd : Nat) (s : List UInt8) (hs : s.length ≤ 1000000) (hc : c ≤ 1000) (hwd : wd ≤ 16) (hS : szOf c wd ≤ s.length) (w : World) (bB : Blk w B 50 #[.string ⟨s.toArray⟩, .int .i64 c, .int .i64 wd]) :
    Calls Tryd.prog 35 #[.pointer (some ⟨B, 0, none⟩), .int .i64 (szOf c wd : Nat)] w (NumsPost c wd s w (behindOf wd c s)) := by
  have hBlt := bB.lt
  have c0 := bB.cell 0; have c1 := bB.cell 1; have c2 := bB.cell 2
  dsimp at c0 c1 c2
  obtain ⟨i0, hi, hz0, hz1, hz2⟩ := info_parts info_int
  have hmk : ∀ W : World, (Instr.makeSlice 22 (.int .i64 ((c : Int) + 1)) (.int .i64 ((c : Int) + 1))).run Tryd.prog W = .ok (.slice (some ⟨W.heap.size, 0, none⟩) (c + 1) (c + 1)) (W.alloc (.cells (madeCells #[.int .i64 0] (c + 1)) 3)) := fun W => by
    have h := run_make (P := Tryd.prog) W 22 3 i0 (.int .i64 0) Tryd.underlying22 hi hz0 .i64 .i64 ((c : Int) + 1) ((c : Int) + 1) (by omega) (by omega) (by rw [hz2]; omega) (by omega)
    rw [hz1] at h
    rw [h]
    have e : ((c : Int) + 1).toNat = c + 1 := by omega
    rw [e]
    simp [Value.cells]
  clear hi hz0 hz1 hz2
  refine (callsIn_wide (n := 4)).1 ?_
  refine callsIn_of_wp_marks Tryd.func35 rfl trivial ?_ rfl
  simp only [Tryd.ntmps35, List.size_toArray, List.length_cons, List.length_nil, Nat.reduceAdd, Nat.reduceSub, Array.replicate_succ, Array.replicate_zero, List.push_toArray, List.append_toArray, List.nil_append, List.cons_append]
  rw [wpIn_wide]
  go_wp2
  go_step3
  go_wp2
  go_step3
  go_wp2_with (go_at_call 42; refine (each_any _ _).mono ?_; rintro e w' ⟨rfl, rfl⟩)
  have bp := ((((Blk.new w 61 #[.pointer (some ⟨B, 0, none⟩)]).alloc (.cells #[.int .i64 (szOf c wd : Nat)] 3)).alloc (.cells (madeCells #[.int .i64 0] (c + 1)) 3)).alloc (.cells #[.slice (some ⟨w.heap.size + 1 + 1, 0, none⟩) (c + 1) (c + 1)] 22)).alloc (.cells #[.pointer (some ⟨B, 0, none⟩)] 78)
  have bs := (((Blk.new (w.alloc (.cells #[.pointer (some ⟨B, 0, none⟩)] 61)) 3 #[.int .i64 (szOf c wd : Nat)]).alloc (.cells (madeCells #[.int .i64 0] (c + 1)) 3)).alloc (.cells #[.slice (some ⟨w.heap.size + 1 + 1, 0, none⟩) (c + 1) (c + 1)] 22)).alloc (.cells #[.pointer (some ⟨B, 0, none⟩)] 78)
  have bg := ((Blk.new ((w.alloc (.cells #[.pointer (some ⟨B, 0, none⟩)] 61)).alloc (.cells #[.int .i64 (szOf c wd : Nat)] 3)) 3 (madeCells #[.int .i64 0] (c + 1))).alloc (.cells #[.slice (some ⟨w.heap.size + 1 + 1, 0, none⟩) (c + 1) (c + 1)] 22)).alloc (.cells #[.pointer (some ⟨B, 0, none⟩)] 78)
  have ba := (Blk.new (((w.alloc (.cells #[.pointer (some ⟨B, 0, none⟩)] 61)).alloc (.cells #[.int .i64 (szOf c wd : Nat)] 3)).alloc (.cells (madeCells #[.int .i64 0] (c + 1)) 3)) 22 #[.slice (some ⟨w.heap.size + 1 + 1, 0, none⟩) (c + 1) (c + 1)]).alloc (.cells #[.pointer (some ⟨B, 0, none⟩)] 78)
  have bl := Blk.new ((((w.alloc (.cells #[.pointer (some ⟨B, 0, none⟩)] 61)).alloc (.cells #[.int .i64 (szOf c wd : Nat)] 3)).alloc (.cells (madeCells #[.int .i64 0] (c + 1)) 3)).alloc (.cells #[.slice (some ⟨w.heap.size + 1 + 1, 0, none⟩) (c + 1) (c + 1)] 22)) 78 #[.pointer (some ⟨B, 0, none⟩)]
  simp only [World.size_alloc] at bs bg ba bl
  have hB0 : Below w.heap.size w (((((w.alloc (.cells #[.pointer (some ⟨B, 0, none⟩)] 61)).alloc (.cells #[.int .i64 (szOf c wd : Nat)] 3)).alloc (.cells (madeCells #[.int .i64 0] (c + 1)) 3)).alloc (.cells #[.slice (some ⟨w.heap.size + 1 + 1, 0, none⟩) (c + 1) (c + 1)] 22)).alloc (.cells #[.pointer (some ⟨B, 0, none⟩)] 78)) := (((((Below.refl _ w).alloc (Nat.le_refl _) _).alloc (by simp) _).alloc (by simp; omega) _).alloc (by simp; omega) _).alloc (by simp; omega) _
  have hsz : (((((w.alloc (.cells #[.pointer (some ⟨B, 0, none⟩)] 61)).alloc (.cells #[.int .i64 (szOf c wd : Nat)] 3)).alloc (.cells (madeCells #[.int .i64 0] (c + 1)) 3)).alloc (.cells #[.slice (some ⟨w.heap.size + 1 + 1, 0, none⟩) (c + 1) (c + 1)] 22)).alloc (.cells #[.pointer (some ⟨B, 0, none⟩)] 78)).heap.size = w.heap.size + 5 := by simp
  have bB0 := bB.under hB0
  generalize (((((w.alloc (.cells #[.pointer (some ⟨B, 0, none⟩)] 61)).alloc (.cells #[.int .i64 (szOf c wd : Nat)] 3)).alloc (.cells (madeCells #[.int .i64 0] (c + 1)) 3)).alloc (.cells #[.slice (some ⟨w.heap.size + 1 + 1, 0, none⟩) (c + 1) (c + 1)] 22)).alloc (.cells #[.pointer (some ⟨B, 0, none⟩)] 78)) = W0 at *
  rw [made_one, ncells_zero (tgt s) wd c] at bg
  clear hmk c0 c1 c2
  refine (wpIn_wide (n := 4)).1 ?_
  refine wpIn_rangeFunc_next (n := 4) rfl (by decide) (gf := 46) (lb := #[.pointer (some ⟨w.heap.size + 1 + 1 + 1 + 1, 0, none⟩)]) rfl trivial (enters_of Tryd.func46 (by kernel_rfl) rfl)
    (each_seq 3 (by decide) (w.heap.size + 1 + 1 + 1 + 1) B s (.int .i64 c) (.int .i64 wd) hs W0 bl bB0) keeps2_t (fun W l o hl => ⟨World.putObj_heap_other (by omega), World.putObj_heap_other (by omega)⟩) (fun _ => rfl)
    (fun pre W => ((((Blk W w.heap.size 61 #[.pointer (some ⟨B, 0, none⟩)] ∧ Blk W (w.heap.size + 1) 3 #[.int .i64 (szOf c wd : Nat)]) ∧ Blk W (w.heap.size + 1 + 1) 3 (ncells (tgt s) wd c pre.length)) ∧ Blk W (w.heap.size + 1 + 1 + 1) 22 #[.slice (some ⟨w.heap.size + 1 + 1, 0, none⟩) (c + 1) (c + 1)]) ∧ pre.length ≤ 8 * szOf c wd) ∧ Below w.heap.size w W)
    (fun cd pre W => ((((Blk W w.heap.size 61 #[.pointer (some ⟨B, 0, none⟩)] ∧ Blk W (w.heap.size + 1) 3 #[.int .i64 (szOf c wd : Nat)]) ∧ Blk W (w.heap.size + 1 + 1) 3 (ncells (tgt s) wd c (8 * szOf c wd))) ∧ Blk W (w.heap.size + 1 + 1 + 1) 22 #[.slice (some ⟨w.heap.size + 1 + 1, 0, none⟩) (c + 1) (c + 1)]) ∧ cd = .exit 0) ∧ Below w.heap.size w W)
    (OwnFrom.and (OwnFrom.and (OwnFrom.and (OwnFrom.and (OwnFrom.and (Own.from (blk_own _ _ (fun _ => #[.pointer (some ⟨B, 0, none⟩)])) _) (Own.from (blk_own _ _ (fun _ => #[.int .i64 (szOf c wd : Nat)])) _)) (Own.from (blk_own _ _ (fun (pre : List Nat) => ncells (tgt s) wd c pre.length)) _)) (Own.from (blk_own _ _ (fun _ => #[.slice (some ⟨w.heap.size + 1 + 1, 0, none⟩) (c + 1) (c + 1)])) _)) (ownFrom_pure _ _)) (ownFrom_below (Nat.le_refl _) (by omega)))
    (fun cd => OwnFrom.and (OwnFrom.and (OwnFrom.and (OwnFrom.and (OwnFrom.and (Own.from (blk_own _ _ (fun _ => #[.pointer (some ⟨B, 0, none⟩)])) _) (Own.from (blk_own _ _ (fun _ => #[.int .i64 (szOf c wd : Nat)])) _)) (Own.from (blk_own _ _ (fun _ => ncells (tgt s) wd c (8 * szOf c wd))) _)) (Own.from (blk_own _ _ (fun _ => #[.slice (some ⟨w.heap.size + 1 + 1, 0, none⟩) (c + 1) (c + 1)])) _)) (ownFrom_pure _ _)) (ownFrom_below (Nat.le_refl _) (by omega)))
    ⟨⟨⟨⟨⟨bp, bs⟩, bg⟩, ba⟩, Nat.zero_le _⟩, hB0⟩
    (fun x => { tmps := #[.pointer (some ⟨B, 0, none⟩), .int .i64 (szOf c wd : Nat), .pointer (some ⟨w.heap.size, 0, none⟩), .pointer (some ⟨w.heap.size + 1, 0, none⟩), .slice none 0 0, .int .i64 0, .pointer (some ⟨w.heap.size + 1 + 1 + 1, 0, none⟩), .int .i64 (x : Nat), .int .i64 (tgt s x : Nat), undef, .pointer (some ⟨B, 0, none⟩), .pointer (some ⟨B, 0, none⟩), .pointer (some ⟨B, 1, none⟩), .int .i64 c, .int .i64 ((c : Int) + 1), .slice (some ⟨w.heap.size + 1 + 1, 0, none⟩) (c + 1) (c + 1), .pointer (some ⟨B, 0, none⟩), .pointer (some ⟨B, 0, none⟩), .pointer (some ⟨B, 0, none⟩), .func (.func 46) #[] #[.pointer (some ⟨w.heap.size + 1 + 1 + 1 + 1, 0, none⟩)], .int .i64 (x : Nat), .int .i64 (tgt s x : Nat), undef, undef, undef, undef, undef, undef, undef, undef, undef, undef, undef, undef, undef, undef, undef, undef, undef, undef, undef, undef, undef, undef, undef, undef, undef, undef, undef, undef, undef, undef, undef, undef, undef, undef, undef, undef, undef, undef, undef, undef, undef, undef], defers := [] }) ?assign ?body ?done ?stop
  case assign =>
    intro l x W K hK
    gi_wp2
    exact hK
  case body =>
    rintro l pre x W ⟨⟨⟨⟨⟨b1, b2⟩, b3⟩, b4⟩, hpl⟩, hB1⟩ ⟨rfl, hx8⟩
    have c1 := b1.cell 0; have c2 := b2.cell 0; have c4 := b4.cell 0
    dsimp at c1 c2 c4
    have bB1 := bB.under hB1
    have d1 := bB1.cell 1; have d2 := bB1.cell 2
    dsimp at d1 d2
    have hsz2 : szOf c wd ≤ 2001 := by
      have h2 : c * wd ≤ 1000 * 16 := Nat.mul_le_mul hc hwd
      unfold szOf; omega
    generalize hm : pre.length = m at *
    have HM := Lib.hid hm
    clear hm
    by_cases hstop : m = 8 * szOf c wd
    · have hst : ((m : Int) == 8 * (szOf c wd : Nat)) = true := by simp; omega
      have hSl : 8 * szOf c wd ≤ 8 * szOf c wd := Nat.le_refl _
      rw [hstop] at b3
      gi_wp2
      exact ⟨KeepsOthers.refl _, ⟨⟨⟨⟨⟨b1, b2⟩, b3⟩, b4⟩, rfl⟩, hB1⟩⟩
    · have hst : ((m : Int) == 8 * (szOf c wd : Nat)) = false := by simp; omega
      have hwd0 : 0 < wd := by
        rcases Nat.eq_zero_or_pos wd with h | h
        · rw [h, szOf_zero] at hpl hstop; omega
        · exact h
      have HSet := Lib.hid (ncells_set (f := tgt s) (w := wd) (c := c) (m := m) hwd0)
      have hpc : min (m / wd) c ≤ c := Nat.min_le_right _ _
      have hcp := b3.cell (min (m / wd) c)
      rw [ncells_get (by omega)] at hcp
      have hfp := b3.frozen (min (m / wd) c)
      have hv := ncell_lt (tgt_lt s) (w := wd) (c := c) (m := m) (i := min (m / wd) c) hwd hpl hpc
      have hd2 := tgt_lt s m
      generalize ncell (tgt s) wd c m (min (m / wd) c) = v at *
      generalize tgt s m = d at *
      have hor := or64 hv hd2
      have e9 : (m : Int).tdiv wd = (m : Int) / wd := Int.tdiv_eq_ediv_of_nonneg (by omega)
      have e10 : (m : Int) / wd = ((m / wd : Nat) : Int) := (Int.natCast_ediv m wd).symm
      have hql := Nat.div_le_self m wd
      obtain ⟨p, hp⟩ : ∃ p, p = min (m / wd) c := ⟨_, rfl⟩
      rw [← hp] at hcp hfp hpc HSet
      generalize m / wd = q at *
      have hmin : min (q : Int) c = (p : Int) := by omega
      have hw1 : ((wd : Int) == 0) = false := by simp; omega
      have hw2 : (0 : Int) < wd := by omega
      have hm3 : m ≤ 16008 := by omega
      have hp3 : (p : Int) < (c : Int) + 1 := by omega
      have hwz : ¬ wd = 0 := by omega
      have hwq : IntKind.i64.wrap (q : Int) = (q : Int) := by rw [IntKind.wrap_i64]; omega
      have hbm : ∀ (ts : Array TypeId) (t : TypeId) (W : World), (Builtin.min_ ts t #[.int .i64 (q : Int), .int .i64 (c : Int)]).run Tryd.prog W = .ok (.int .i64 (p : Int)) W := fun ts t W => by
        rw [run_min_int2]
        congr 2
        split <;> omega
      clear hp
      gi_wp2
      refine wpIn_mono (Q := fun e a' w' => e = .normal ∧ (∃ u26 u27 u28 u29 u30 u31 u32 u33 u34 u35 u36 : Value, a' = { tmps := #[.pointer (some ⟨B, 0, none⟩), .int .i64 (szOf c wd : Nat), .pointer (some ⟨w.heap.size, 0, none⟩), .pointer (some ⟨w.heap.size + 1, 0, none⟩), .slice none 0 0, .int .i64 0, .pointer (some ⟨w.heap.size + 1 + 1 + 1, 0, none⟩), .int .i64 (m : Nat), .int .i64 (d : Nat), .int .i64 (p : Nat), .pointer (some ⟨B, 0, none⟩), .pointer (some ⟨B, 0, none⟩), .pointer (some ⟨B, 1, none⟩), .int .i64 c, .int .i64 ((c : Int) + 1), .slice (some ⟨w.heap.size + 1 + 1, 0, none⟩) (c + 1) (c + 1), .pointer (some ⟨B, 0, none⟩), .pointer (some ⟨B, 0, none⟩), .pointer (some ⟨B, 0, none⟩), .func (.func 46) #[] #[.pointer (some ⟨w.heap.size + 1 + 1 + 1 + 1, 0, none⟩)], .int .i64 (m : Nat), .int .i64 (d : Nat), .int .i64 (m : Nat), .int .i64 (szOf c wd : Nat), .int .i64 (8 * (szOf c wd : Nat)), .bool false, u26, u27, u28, u29, u30, u31, u32, u33, u34, u35, u36, undef, undef, undef, undef, undef, undef, undef, undef, undef, undef, undef, undef, undef, undef, undef, undef, undef, undef, undef, undef, undef, undef, undef, undef, undef, undef, undef], defers := [] }) ∧ w' = W.drew) ?_ ?_
      · refine wpIn_region_round rfl (by kernel_rfl) (by kernel_rfl) ?_
        refine wpAnyIn_take (i := 0) (v := ?_) rfl rfl (by kernel_rfl) (by kernel_rfl) (by kernel_rfl) (fun _ _ _ h => by cases h.1) ⟨Or.inl ⟨by rfl, ?_⟩, fun _ => rfl⟩ ?_
        rotate_left
        · intro w; go_simp; try with_reducible rfl
        refine wpAnyIn_ready (rs := [1, 6]) (by kernel_rfl) (by simp) ?_
        refine AllReadyIn.cons rfl (fun K hK => ?_) (AllReadyIn.cons rfl (fun K hK => ?_) AllReadyIn.nil)
        · go_simp
          refine hK _ _ ?_
          clear hK K
          refine wpAnyIn_take (i := 2) (v := ?_) rfl rfl (by kernel_rfl) (by kernel_rfl) (by kernel_rfl) (fun _ _ _ h => by cases h.1) ⟨Or.inl ⟨by rfl, ?_⟩, fun _ => rfl⟩ ?_
          rotate_left
          · intro w; go_simp; try with_reducible rfl
          refine wpAnyIn_take (i := 3) (v := ?_) rfl rfl (by kernel_rfl) (by kernel_rfl) (by kernel_rfl) (fun _ _ _ h => by cases h.1) ⟨Or.inl ⟨by rfl, ?_⟩, fun _ => rfl⟩ ?_
          rotate_left
          · intro w; go_simp; try with_reducible rfl
          refine wpAnyIn_ready (rs := [4, 6]) (by kernel_rfl) (by simp) ?_
          refine AllReadyIn.cons rfl (fun K hK => ?_) (AllReadyIn.cons rfl (fun K hK => ?_) AllReadyIn.nil)
          · go_simp
            refine hK _ _ ?_
            clear hK K
            refine wpAnyIn_take (i := 5) (v := ?_) rfl rfl (by kernel_rfl) (by kernel_rfl) (by kernel_rfl) (fun _ _ _ h => by cases h.1) ⟨Or.inl ⟨by rfl, ?_⟩, fun _ => rfl⟩ ?_
            rotate_left
            · intro w; go_simp; try with_reducible rfl
            refine wpAnyIn_ready (rs := [6]) (by kernel_rfl) (by simp) ?_
            refine AllReadyIn.cons rfl (fun K hK => ?_) AllReadyIn.nil
            go_simp
            refine hK _ _ ?_
            clear hK K
            refine wpAnyIn_take (i := 7) (v := ?_) rfl rfl (by kernel_rfl) (by kernel_rfl) (by kernel_rfl) (fun _ _ _ h => by cases h.1) ⟨Or.inl ⟨by rfl, ?_⟩, fun _ => rfl⟩ ?_
            rotate_left
            · intro w; go_simp; try with_reducible rfl
            refine wpAnyIn_take (i := 8) (v := ?_) rfl rfl (by kernel_rfl) (by kernel_rfl) (by kernel_rfl) (fun _ _ _ h => by cases h.1) ⟨Or.inl ⟨by rfl, ?_⟩, fun _ => rfl⟩ ?_
            rotate_left
            · intro w; go_simp; try with_reducible rfl
            refine wpAnyIn_ready (rs := [9]) (by kernel_rfl) (by simp) ?_
            refine AllReadyIn.cons rfl (fun K hK => ?_) AllReadyIn.nil
            go_simp
            refine hK _ _ ?_
            clear hK K
            refine wpAnyIn_take (i := 10) (v := ?_) rfl rfl (by kernel_rfl) (by kernel_rfl) (by kernel_rfl) (fun _ _ _ h => by cases h.1) ⟨Or.inl ⟨by rfl, ?_⟩, fun _ => rfl⟩ ?_
            rotate_left
            · intro w; go_simp; try with_reducible rfl
            refine wpAnyIn_take (i := 11) (v := ?_) rfl rfl (by kernel_rfl) (by kernel_rfl) (by kernel_rfl) (fun _ _ _ h => by cases h.1) ⟨Or.inl ⟨by rfl, ?_⟩, fun _ => rfl⟩ ?_
            rotate_left
            · intro w; go_simp; try with_reducible rfl
            refine wpAnyIn_done (by kernel_rfl) ?_ _
            exact ⟨rfl, ⟨_, _, _, _, _, _, _, _, _, _, _, rfl⟩, rfl⟩
          · go_simp
            refine hK _ _ ?_
            clear hK K
            refine wpAnyIn_take (i := 7) (v := ?_) rfl rfl (by kernel_rfl) (by kernel_rfl) (by kernel_rfl) (fun _ _ _ h => by cases h.1) ⟨Or.inl ⟨by rfl, ?_⟩, fun _ => rfl⟩ ?_
            rotate_left
            · intro w; go_simp; try with_reducible rfl
            refine wpAnyIn_take (i := 8) (v := ?_) rfl rfl (by kernel_rfl) (by kernel_rfl) (by kernel_rfl) (fun _ _ _ h => by cases h.1) ⟨Or.inl ⟨by rfl, ?_⟩, fun _ => rfl⟩ ?_
            rotate_left
            · intro w; go_simp; try with_reducible rfl
            refine wpAnyIn_ready (rs := [4, 9]) (by kernel_rfl) (by simp) ?_
            refine AllReadyIn.cons rfl (fun K hK => ?_) (AllReadyIn.cons rfl (fun K hK => ?_) AllReadyIn.nil)
            · go_simp
              refine hK _ _ ?_
              clear hK K
              refine wpAnyIn_take (i := 5) (v := ?_) rfl rfl (by kernel_rfl) (by kernel_rfl) (by kernel_rfl) (fun _ _ _ h => by cases h.1) ⟨Or.inl ⟨by rfl, ?_⟩, fun _ => rfl⟩ ?_
              rotate_left
              · intro w; go_simp; try with_reducible rfl
              refine wpAnyIn_ready (rs := [9]) (by kernel_rfl) (by simp) ?_
              refine AllReadyIn.cons rfl (fun K hK => ?_) AllReadyIn.nil
              go_simp
              refine hK _ _ ?_
              clear hK K
              refine wpAnyIn_take (i := 10) (v := ?_) rfl rfl (by kernel_rfl) (by kernel_rfl) (by kernel_rfl) (fun _ _ _ h => by cases h.1) ⟨Or.inl ⟨by rfl, ?_⟩, fun _ => rfl⟩ ?_
              rotate_left
              · intro w; go_simp; try with_reducible rfl
              refine wpAnyIn_take (i := 11) (v := ?_) rfl rfl (by kernel_rfl) (by kernel_rfl) (by kernel_rfl) (fun _ _ _ h => by cases h.1) ⟨Or.inl ⟨by rfl, ?_⟩, fun _ => rfl⟩ ?_
              rotate_left
              · intro w; go_simp; try with_reducible rfl
              refine wpAnyIn_done (by kernel_rfl) ?_ _
              exact ⟨rfl, ⟨_, _, _, _, _, _, _, _, _, _, _, rfl⟩, rfl⟩
            · go_simp
              refine hK _ _ ?_
              clear hK K
              refine wpAnyIn_ready (rs := [4]) (by kernel_rfl) (by simp) ?_
              refine AllReadyIn.cons rfl (fun K hK => ?_) AllReadyIn.nil
              go_simp
              refine hK _ _ ?_
              clear hK K
              refine wpAnyIn_take (i := 5) (v := ?_) rfl rfl (by kernel_rfl) (by kernel_rfl) (by kernel_rfl) (fun _ _ _ h => by cases h.1) ⟨Or.inl ⟨by rfl, ?_⟩, fun _ => rfl⟩ ?_
              rotate_left
              · intro w; go_simp; try with_reducible rfl
              refine wpAnyIn_take (i := 10) (v := ?_) rfl rfl (by kernel_rfl) (by kernel_rfl) (by kernel_rfl) (fun _ _ _ h => by cases h.1) ⟨Or.inl ⟨by rfl, ?_⟩, fun _ => rfl⟩ ?_
              rotate_left
              · intro w; go_simp; try with_reducible rfl
              refine wpAnyIn_take (i := 11) (v := ?_) rfl rfl (by kernel_rfl) (by kernel_rfl) (by kernel_rfl) (fun _ _ _ h => by cases h.1) ⟨Or.inl ⟨by rfl, ?_⟩, fun _ => rfl⟩ ?_
              rotate_left
              · intro w; go_simp; try with_reducible rfl
              refine wpAnyIn_done (by kernel_rfl) ?_ _
              exact ⟨rfl, ⟨_, _, _, _, _, _, _, _, _, _, _, rfl⟩, rfl⟩
        · go_simp
          refine hK _ _ ?_
          clear hK K
          refine wpAnyIn_take (i := 7) (v := ?_) rfl rfl (by kernel_rfl) (by kernel_rfl) (by kernel_rfl) (fun _ _ _ h => by cases h.1) ⟨Or.inl ⟨by rfl, ?_⟩, fun _ => rfl⟩ ?_
          rotate_left
          · intro w; go_simp; try with_reducible rfl
          refine wpAnyIn_take (i := 8) (v := ?_) rfl rfl (by kernel_rfl) (by kernel_rfl) (by kernel_rfl) (fun _ _ _ h => by cases h.1) ⟨Or.inl ⟨by rfl, ?_⟩, fun _ => rfl⟩ ?_
          rotate_left
          · intro w; go_simp; try with_reducible rfl
          refine wpAnyIn_ready (rs := [1, 9]) (by kernel_rfl) (by simp) ?_
          refine AllReadyIn.cons rfl (fun K hK => ?_) (AllReadyIn.cons rfl (fun K hK => ?_) AllReadyIn.nil)
          · go_simp
            refine hK _ _ ?_
            clear hK K
            refine wpAnyIn_take (i := 2) (v := ?_) rfl rfl (by kernel_rfl) (by kernel_rfl) (by kernel_rfl) (fun _ _ _ h => by cases h.1) ⟨Or.inl ⟨by rfl, ?_⟩, fun _ => rfl⟩ ?_
            rotate_left
            · intro w; go_simp; try with_reducible rfl
            refine wpAnyIn_take (i := 3) (v := ?_) rfl rfl (by kernel_rfl) (by kernel_rfl) (by kernel_rfl) (fun _ _ _ h => by cases h.1) ⟨Or.inl ⟨by rfl, ?_⟩, fun _ => rfl⟩ ?_
            rotate_left
            · intro w; go_simp; try with_reducible rfl
            refine wpAnyIn_ready (rs := [4, 9]) (by kernel_rfl) (by simp) ?_
            refine AllReadyIn.cons rfl (fun K hK => ?_) (AllReadyIn.cons rfl (fun K hK => ?_) AllReadyIn.nil)
            · go_simp
              refine hK _ _ ?_
              clear hK K
              refine wpAnyIn_take (i := 5) (v := ?_) rfl rfl (by kernel_rfl) (by kernel_rfl) (by kernel_rfl) (fun _ _ _ h => by cases h.1) ⟨Or.inl ⟨by rfl, ?_⟩, fun _ => rfl⟩ ?_
              rotate_left
              · intro w; go_simp; try with_reducible rfl
              refine wpAnyIn_ready (rs := [9]) (by kernel_rfl) (by simp) ?_
              refine AllReadyIn.cons rfl (fun K hK => ?_) AllReadyIn.nil
              go_simp
              refine hK _ _ ?_
              clear hK K
              refine wpAnyIn_take (i := 10) (v := ?_) rfl rfl (by kernel_rfl) (by kernel_rfl) (by kernel_rfl) (fun _ _ _ h => by cases h.1) ⟨Or.inl ⟨by rfl, ?_⟩, fun _ => rfl⟩ ?_
              rotate_left
              · intro w; go_simp; try with_reducible rfl
              refine wpAnyIn_take (i := 11) (v := ?_) rfl rfl (by kernel_rfl) (by kernel_rfl) (by kernel_rfl) (fun _ _ _ h => by cases h.1) ⟨Or.inl ⟨by rfl, ?_⟩, fun _ => rfl⟩ ?_
              rotate_left
              · intro w; go_simp; try with_reducible rfl
              refine wpAnyIn_done (by kernel_rfl) ?_ _
              exact ⟨rfl, ⟨_, _, _, _, _, _, _, _, _, _, _, rfl⟩, rfl⟩
            · go_simp
              refine hK _ _ ?_
              clear hK K
              refine wpAnyIn_ready (rs := [4]) (by kernel_rfl) (by simp) ?_
              refine AllReadyIn.cons rfl (fun K hK => ?_) AllReadyIn.nil
              go_simp
              refine hK _ _ ?_
              clear hK K
              refine wpAnyIn_take (i := 5) (v := ?_) rfl rfl (by kernel_rfl) (by kernel_rfl) (by kernel_rfl) (fun _ _ _ h => by cases h.1) ⟨Or.inl ⟨by rfl, ?_⟩, fun _ => rfl⟩ ?_
              rotate_left
              · intro w; go_simp; try with_reducible rfl
              refine wpAnyIn_take (i := 10) (v := ?_) rfl rfl (by kernel_rfl) (by kernel_rfl) (by kernel_rfl) (fun _ _ _ h => by cases h.1) ⟨Or.inl ⟨by rfl, ?_⟩, fun _ => rfl⟩ ?_
              rotate_left
              · intro w; go_simp; try with_reducible rfl
              refine wpAnyIn_take (i := 11) (v := ?_) rfl rfl (by kernel_rfl) (by kernel_rfl) (by kernel_rfl) (fun _ _ _ h => by cases h.1) ⟨Or.inl ⟨by rfl, ?_⟩, fun _ => rfl⟩ ?_
              rotate_left
              · intro w; go_simp; try with_reducible rfl
              refine wpAnyIn_done (by kernel_rfl) ?_ _
              exact ⟨rfl, ⟨_, _, _, _, _, _, _, _, _, _, _, rfl⟩, rfl⟩
          · go_simp
            refine hK _ _ ?_
            clear hK K
            refine wpAnyIn_ready (rs := [1]) (by kernel_rfl) (by simp) ?_
            refine AllReadyIn.cons rfl (fun K hK => ?_) AllReadyIn.nil
            go_simp
            refine hK _ _ ?_
            clear hK K
            refine wpAnyIn_take (i := 2) (v := ?_) rfl rfl (by kernel_rfl) (by kernel_rfl) (by kernel_rfl) (fun _ _ _ h => by cases h.1) ⟨Or.inl ⟨by rfl, ?_⟩, fun _ => rfl⟩ ?_
            rotate_left
            · intro w; go_simp; try with_reducible rfl
            refine wpAnyIn_take (i := 3) (v := ?_) rfl rfl (by kernel_rfl) (by kernel_rfl) (by kernel_rfl) (fun _ _ _ h => by cases h.1) ⟨Or.inl ⟨by rfl, ?_⟩, fun _ => rfl⟩ ?_
            rotate_left
            · intro w; go_simp; try with_reducible rfl
            refine wpAnyIn_ready (rs := [4]) (by kernel_rfl) (by simp) ?_
            refine AllReadyIn.cons rfl (fun K hK => ?_) AllReadyIn.nil
            go_simp
            refine hK _ _ ?_
            clear hK K
            refine wpAnyIn_take (i := 5) (v := ?_) rfl rfl (by kernel_rfl) (by kernel_rfl) (by kernel_rfl) (fun _ _ _ h => by cases h.1) ⟨Or.inl ⟨by rfl, ?_⟩, fun _ => rfl⟩ ?_
            rotate_left
            · intro w; go_simp; try with_reducible rfl
            refine wpAnyIn_take (i := 10) (v := ?_) rfl rfl (by kernel_rfl) (by kernel_rfl) (by kernel_rfl) (fun _ _ _ h => by cases h.1) ⟨Or.inl ⟨by rfl, ?_⟩, fun _ => rfl⟩ ?_
            rotate_left
            · intro w; go_simp; try with_reducible rfl
            refine wpAnyIn_take (i := 11) (v := ?_) rfl rfl (by kernel_rfl) (by kernel_rfl) (by kernel_rfl) (fun _ _ _ h => by cases h.1) ⟨Or.inl ⟨by rfl, ?_⟩, fun _ => rfl⟩ ?_
            rotate_left
            · intro w; go_simp; try with_reducible rfl
            refine wpAnyIn_done (by kernel_rfl) ?_ _
            exact ⟨rfl, ⟨_, _, _, _, _, _, _, _, _, _, _, rfl⟩, rfl⟩
      · rintro e a' w' ⟨rfl, ⟨u26, u27, u28, u29, u30, u31, u32, u33, u34, u35, u36, rfl⟩, rfl⟩
        have k1 : KeepsOthers W W.drew := KeepsOthers.drew _
        have k2 : Keeps2 (w.heap.size + 1 + 1 + 1 + 1) B W W.drew := ⟨rfl, rfl⟩
        have b1' := b1.drew; have b2' := b2.drew; have b3' := b3.drew; have b4' := b4.drew; have hB1' := hB1.drew
        have c4' : W.drew.cell? ⟨w.heap.size + 1 + 1 + 1, 0, none⟩ = _ := c4
        have hcp' : W.drew.cell? ⟨w.heap.size + 1 + 1, p, none⟩ = _ := hcp
        have hfp' : W.drew.frozen? ⟨w.heap.size + 1 + 1, p, none⟩ = _ := hfp
        clear b1 b2 b3 b4 hB1 c1 c2 c4 hcp hfp d1 d2 bB1
        generalize W.drew = W1 at *
        have e11 : IntKind.i64.wrap ((v : Int) * 2) = (v : Int) * 2 := by rw [IntKind.wrap_i64]; omega
        gi_wp2
        refine wpIn_mono (Q := fun e a' w' => e = .normal ∧ (∃ u37 u38 u39 u40 u41 u42 u43 u44 u45 u46 : Value, a' = { tmps := #[.pointer (some ⟨B, 0, none⟩), .int .i64 (szOf c wd : Nat), .pointer (some ⟨w.heap.size, 0, none⟩), .pointer (some ⟨w.heap.size + 1, 0, none⟩), .slice none 0 0, .int .i64 0, .pointer (some ⟨w.heap.size + 1 + 1 + 1, 0, none⟩), .int .i64 (m : Nat), .int .i64 (d : Nat), .int .i64 (p : Nat), .pointer (some ⟨B, 0, none⟩), .pointer (some ⟨B, 0, none⟩), .pointer (some ⟨B, 1, none⟩), .int .i64 c, .int .i64 ((c : Int) + 1), .slice (some ⟨w.heap.size + 1 + 1, 0, none⟩) (c + 1) (c + 1), .pointer (some ⟨B, 0, none⟩), .pointer (some ⟨B, 0, none⟩), .pointer (some ⟨B, 0, none⟩), .func (.func 46) #[] #[.pointer (some ⟨w.heap.size + 1 + 1 + 1 + 1, 0, none⟩)], .int .i64 (m : Nat), .int .i64 (d : Nat), .int .i64 (m : Nat), .int .i64 (szOf c wd : Nat), .int .i64 (8 * (szOf c wd : Nat)), .bool false, u26, u27, u28, u29, u30, u31, u32, u33, u34, u35, u36, u37, u38, u39, u40, u41, u42, u43, u44, u45, u46, undef, undef, undef, undef, undef, undef, undef, undef, undef, undef, undef, undef, undef, undef, undef, undef, undef], defers := [] }) ∧ w' = (W1.setCell ⟨w.heap.size + 1 + 1, p, none⟩ (.int .i64 ((2 * v + d : Nat) : Int))).drew) ?_ ?_
        · refine wpIn_region_round rfl (by kernel_rfl) (by kernel_rfl) ?_
          refine wpAnyIn_take (i := 1) (v := ?_) rfl rfl (by kernel_rfl) (by kernel_rfl) (by kernel_rfl) (fun _ _ _ h => by cases h.1) ⟨Or.inl ⟨by rfl, ?_⟩, fun _ => rfl⟩ ?_
          rotate_left
          · intro w; go_simp; try with_reducible rfl
          refine wpAnyIn_take (i := 3) (v := ?_) rfl rfl (by kernel_rfl) (by kernel_rfl) (by kernel_rfl) (fun _ _ _ h => by cases h.1) ⟨Or.inl ⟨by rfl, ?_⟩, fun _ => rfl⟩ ?_
          rotate_left
          · intro w; go_simp; try with_reducible rfl
          refine wpAnyIn_take (i := 7) (v := ?_) rfl rfl (by kernel_rfl) (by kernel_rfl) (by kernel_rfl) (fun _ _ _ h => by cases h.1) ⟨Or.inl ⟨by rfl, ?_⟩, fun _ => rfl⟩ ?_
          rotate_left
          · intro w; go_simp; try with_reducible rfl
          refine wpAnyIn_ready (rs := [0, 2]) (by kernel_rfl) (by simp) ?_
          refine AllReadyIn.cons rfl (fun K hK => ?_) (AllReadyIn.cons rfl (fun K hK => ?_) AllReadyIn.nil)
          · go_simp
            refine hK _ _ ?_
            clear hK K
            refine wpAnyIn_ready (rs := [2]) (by kernel_rfl) (by simp) ?_
            refine AllReadyIn.cons rfl (fun K hK => ?_) AllReadyIn.nil
            go_simp
            refine hK _ _ ?_
            clear hK K
            refine wpAnyIn_take (i := 4) (v := ?_) rfl rfl (by kernel_rfl) (by kernel_rfl) (by kernel_rfl) (fun _ _ _ h => by cases h.1) ⟨Or.inl ⟨by rfl, ?_⟩, fun _ => rfl⟩ ?_
            rotate_left
            · intro w; go_simp; try with_reducible rfl
            refine wpAnyIn_ready (rs := [5]) (by kernel_rfl) (by simp) ?_
            refine AllReadyIn.cons rfl (fun K hK => ?_) AllReadyIn.nil
            go_simp
            refine hK _ _ ?_
            clear hK K
            refine wpAnyIn_take (i := 6) (v := ?_) rfl rfl (by kernel_rfl) (by kernel_rfl) (by kernel_rfl) (fun _ _ _ h => by cases h.1) ⟨Or.inl ⟨by rfl, ?_⟩, fun _ => rfl⟩ ?_
            rotate_left
            · intro w; go_simp; try with_reducible rfl
            refine wpAnyIn_take (i := 8) (v := ?_) rfl rfl (by kernel_rfl) (by kernel_rfl) (by kernel_rfl) (fun _ _ _ h => by cases h.1) ⟨Or.inl ⟨by rfl, ?_⟩, fun _ => rfl⟩ ?_
            rotate_left
            · intro w; go_simp; try with_reducible rfl
            refine wpAnyIn_take (i := 9) (v := ?_) rfl rfl (by kernel_rfl) (by kernel_rfl) (by kernel_rfl) (fun _ _ _ h => by cases h.1) ⟨Or.inl ⟨by rfl, ?_⟩, fun _ => rfl⟩ ?_
            rotate_left
            · intro w; go_simp; try with_reducible rfl
            refine wpAnyIn_ready (rs := [10]) (by kernel_rfl) (by simp) ?_
            refine AllReadyIn.cons rfl (fun K hK => ?_) AllReadyIn.nil
            go_simp
            refine hK _ _ ?_
            clear hK K
            refine wpAnyIn_done (by kernel_rfl) ?_ _
            exact ⟨rfl, ⟨_, _, _, _, _, _, _, _, _, _, rfl⟩, rfl⟩
          · go_simp
            refine hK _ _ ?_
            clear hK K
            refine wpAnyIn_take (i := 4) (v := ?_) rfl rfl (by kernel_rfl) (by kernel_rfl) (by kernel_rfl) (fun _ _ _ h => by cases h.1) ⟨Or.inl ⟨by rfl, ?_⟩, fun _ => rfl⟩ ?_
            rotate_left
            · intro w; go_simp; try with_reducible rfl
            refine wpAnyIn_ready (rs := [0, 5]) (by kernel_rfl) (by simp) ?_
            refine AllReadyIn.cons rfl (fun K hK => ?_) (AllReadyIn.cons rfl (fun K hK => ?_) AllReadyIn.nil)
            · go_simp
              refine hK _ _ ?_
              clear hK K
              refine wpAnyIn_ready (rs := [5]) (by kernel_rfl) (by simp) ?_
              refine AllReadyIn.cons rfl (fun K hK => ?_) AllReadyIn.nil
              go_simp
              refine hK _ _ ?_
              clear hK K
              refine wpAnyIn_take (i := 6) (v := ?_) rfl rfl (by kernel_rfl) (by kernel_rfl) (by kernel_rfl) (fun _ _ _ h => by cases h.1) ⟨Or.inl ⟨by rfl, ?_⟩, fun _ => rfl⟩ ?_
              rotate_left
              · intro w; go_simp; try with_reducible rfl
              refine wpAnyIn_take (i := 8) (v := ?_) rfl rfl (by kernel_rfl) (by kernel_rfl) (by kernel_rfl) (fun _ _ _ h => by cases h.1) ⟨Or.inl ⟨by rfl, ?_⟩, fun _ => rfl⟩ ?_
              rotate_left
              · intro w; go_simp; try with_reducible rfl
              refine wpAnyIn_take (i := 9) (v := ?_) rfl rfl (by kernel_rfl) (by kernel_rfl) (by kernel_rfl) (fun _ _ _ h => by cases h.1) ⟨Or.inl ⟨by rfl, ?_⟩, fun _ => rfl⟩ ?_
              rotate_left
              · intro w; go_simp; try with_reducible rfl
              refine wpAnyIn_ready (rs := [10]) (by kernel_rfl) (by simp) ?_
              refine AllReadyIn.cons rfl (fun K hK => ?_) AllReadyIn.nil
              go_simp
              refine hK _ _ ?_
              clear hK K
              refine wpAnyIn_done (by kernel_rfl) ?_ _
              exact ⟨rfl, ⟨_, _, _, _, _, _, _, _, _, _, rfl⟩, rfl⟩
            · go_simp
              refine hK _ _ ?_
              clear hK K
              refine wpAnyIn_take (i := 6) (v := ?_) rfl rfl (by kernel_rfl) (by kernel_rfl) (by kernel_rfl) (fun _ _ _ h => by cases h.1) ⟨Or.inl ⟨by rfl, ?_⟩, fun _ => rfl⟩ ?_
              rotate_left
              · intro w; go_simp; try with_reducible rfl
              refine wpAnyIn_take (i := 8) (v := ?_) rfl rfl (by kernel_rfl) (by kernel_rfl) (by kernel_rfl) (fun _ _ _ h => by cases h.1) ⟨Or.inl ⟨by rfl, ?_⟩, fun _ => rfl⟩ ?_
              rotate_left
              · intro w; go_simp; try with_reducible rfl
              refine wpAnyIn_ready (rs := [0]) (by kernel_rfl) (by simp) ?_
              refine AllReadyIn.cons rfl (fun K hK => ?_) AllReadyIn.nil
              go_simp
              refine hK _ _ ?_
              clear hK K
              refine wpAnyIn_take (i := 9) (v := ?_) rfl rfl (by kernel_rfl) (by kernel_rfl) (by kernel_rfl) (fun _ _ _ h => by cases h.1) ⟨Or.inl ⟨by rfl, ?_⟩, fun _ => rfl⟩ ?_
              rotate_left
              · intro w; go_simp; try with_reducible rfl
              refine wpAnyIn_ready (rs := [10]) (by kernel_rfl) (by simp) ?_
              refine AllReadyIn.cons rfl (fun K hK => ?_) AllReadyIn.nil
              go_simp
              refine hK _ _ ?_
              clear hK K
              refine wpAnyIn_done (by kernel_rfl) ?_ _
              exact ⟨rfl, ⟨_, _, _, _, _, _, _, _, _, _, rfl⟩, rfl⟩
        · rintro e a' w' ⟨rfl, ⟨u37, u38, u39, u40, u41, u42, u43, u44, u45, u46, rfl⟩, rfl⟩
          gi_wp2
          have hlen : (pre ++ [m]).length = m + 1 := by simp [HM.out]
          refine ⟨k1.trans ((KeepsOthers.setCell _ _ _).trans (KeepsOthers.drew _)), keeps2_t k2 (keeps2_drew (keeps2_set _ _ _ (by simp; omega) (by simp; omega))), ⟨⟨⟨⟨⟨?_, ?_⟩, ?_⟩, ?_⟩, ?_⟩, ?_⟩⟩
          · exact (b1'.far (by simp; omega) _).drew
          · exact (b2'.far (by simp) _).drew
          · rw [hlen, ← HSet.out]; exact (b3'.set_ p _).drew
          · exact (b4'.far (by simp) _).drew
          · rw [hlen]; omega
          · exact (hB1'.setCell (p := ⟨w.heap.size + 1 + 1, p, none⟩) (by simp; omega) _).drew
  case done =>
    rintro D ys W hD rfl ⟨⟨⟨⟨⟨b1, b2⟩, b3⟩, b4⟩, hpl⟩, hB1⟩ hK
    have hm8 : (List.range (8 * s.length)).length = 8 * szOf c wd := by simp at hpl ⊢; omega
    rw [hm8] at b3
    have c1 := b1.cell 0; have c2 := b2.cell 0; have c4 := b4.cell 0
    dsimp at c1 c2 c4
    have bB1 := bB.under hB1
    have d1 := bB1.cell 1; have d2 := bB1.cell 2
    dsimp at d1 d2
    have hcb := b3.cell c
    rw [ncells_get (by omega), ncell_behind] at hcb
    have hbl := behindOf_lt wd c s
    generalize behindOf wd c s = bh at *
    go_wp2
    go_cut [4, 5] from 47 to 63 (fun s4 s5 wx => s4 = .slice (some ⟨w.heap.size + 1 + 1, 0, none⟩) c c ∧ s5 = .int .i64 bh ∧ ∃ k, wx = W.drewN k)
    case first =>
      refine wp_region_noPanic ?_
      go_quiet (fail)
      all_goals (refine NoPanic.normal ?_; go_wp2_with fail; go_meet; exact ⟨rfl, rfl, _, rfl⟩)
    case rest =>
      obtain ⟨rfl, rfl, k, rfl⟩ := hcut
      have hK2 : (W.drewN k).heap[D]? = some (.deferred (some [])) := hK
      have HN := Lib.hid (nums_post (s := s) (hB1 := hB1) (b3 := b3) (k := k) (D := D) (bh := bh) (by omega) (Array.getElem?_eq_some_iff.1 hK).1)
      go_wp2
      try rw [Exit.noGoto_ret]
      exact ⟨by simp, .inl ⟨_, _, rfl, run_takeDeferred hK2, _, results_tmp2 (t := 4) (u := 5) rfl _ _ _, HN.out⟩⟩
  case stop =>
    rintro D cd pre W hD hSp ⟨⟨⟨⟨⟨b1, b2⟩, b3⟩, b4⟩, rfl⟩, hB1⟩ hK
    have c1 := b1.cell 0; have c2 := b2.cell 0; have c4 := b4.cell 0
    dsimp at c1 c2 c4
    have bB1 := bB.under hB1
    have d1 := bB1.cell 1; have d2 := bB1.cell 2
    dsimp at d1 d2
    have hcb := b3.cell c
    rw [ncells_get (by omega), ncell_behind] at hcb
    have hbl := behindOf_lt wd c s
    generalize behindOf wd c s = bh at *
    refine (wpIn_wide (n := 4)).2 ?_
    go_wp2
    go_cut [4, 5] from 47 to 63 (fun s4 s5 wx => s4 = .slice (some ⟨w.heap.size + 1 + 1, 0, none⟩) c c ∧ s5 = .int .i64 bh ∧ ∃ k, wx = W.drewN k)
    case first =>
      refine wp_region_noPanic ?_
      go_quiet (fail)
      all_goals (refine NoPanic.normal ?_; go_wp2_with fail; go_meet; exact ⟨rfl, rfl, _, rfl⟩)
    case rest =>
      obtain ⟨rfl, rfl, k, rfl⟩ := hcut
      have hK2 : (W.drewN k).heap[D]? = some (.deferred (some [])) := hK
      have HN := Lib.hid (nums_post (s := s) (hB1 := hB1) (b3 := b3) (k := k) (D := D) (bh := bh) (by omega) (Array.getElem?_eq_some_iff.1 hK).1)
      go_wp2
      try rw [Exit.noGoto_ret]
      exact ⟨by simp, .inl ⟨_, _, rfl, run_takeDeferred hK2, _, results_tmp2 (t := 4) (u := 5) rfl _ _ _, HN.out⟩⟩
end Go.Proofs.YtmimepjokkcbeaaDoor
