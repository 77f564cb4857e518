import Derived.Test.YtbfchlfagdhglaaMG20
import Derived.Test.YtbfchlfagdhglaaMG16
import Derived.Test.YtbfchlfagdhglaaMG17
import Derived.Test.YtbfchlfagdhglaaMG11
import Derived.Test.YtbfchlfagdhglaaMG18
import Derived.Test.YtbfchlfagdhglaaMG19
import Derived.Test.YtbfchlfagdhglaaMG5
/- slices.Sorted of maps.Keys of what is merged: the keys, rising. -/
namespace Go.Proofs.Ytbfchlfagdhglaa
open Go.RowKit

/-- The keys that one of two bitmaps has. -/
def keysAB (a b : List Ch) : List Nat := (List.range 256).filter fun k => (both (getC a (k : Int)) (getC b (k : Int))).isSome
theorem keysAB_asc (a b : List Ch) : (keysAB a b).Pairwise (· < ·) := List.Pairwise.filter _ List.pairwise_lt_range
theorem keysAB_mem {a b : List Ch} {k : Nat} : k ∈ keysAB a b ↔ k < 256 ∧ (both (getC a (k : Int)) (getC b (k : Int))).isSome = true := by
  unfold keysAB; rw [List.mem_filter, List.mem_range]
theorem keysAB_le (a b : List Ch) : (keysAB a b).length ≤ 256 := by
  have := List.length_filter_le (fun k : Nat => (both (getC a (k : Int)) (getC b (k : Int))).isSome) (List.range 256)
  rwa [List.length_range] at this
theorem getC_key {r : List Ch} (h : Rises r) {key : Int} (hs : (getC r key).isSome = true) : 0 ≤ key ∧ key < 256 := by
  obtain ⟨p, hp⟩ := Option.isSome_iff_exists.1 hs
  exact h.key _ (getC_some hp)
theorem zs_keys {a b : List Ch} (ha : Rises a) (hb : Rises b) (x : Int) : x ∈ zsOf (keysAB a b) ↔ (both (getC a x) (getC b x)).isSome = true := by
  unfold zsOf
  rw [List.mem_map]
  constructor
  · rintro ⟨k, hk, rfl⟩
    exact (keysAB_mem.1 hk).2
  · intro h
    have h2 := h
    rw [both_isSome, Bool.or_eq_true] at h2
    have hk : 0 ≤ x ∧ x < 256 := by
      rcases h2 with h2 | h2
      · exact getC_key ha h2
      · exact getC_key hb h2
    refine ⟨x.toNat, keysAB_mem.2 ⟨by omega, ?_⟩, by omega⟩
    rw [Int.toNat_of_nonneg hk.1]; exact h
theorem zs_nodup (a b : List Ch) : (zsOf (keysAB a b)).Nodup := by
  unfold zsOf
  refine List.pairwise_map.2 ((keysAB_asc a b).imp fun {x y} h => ?_)
  omega
theorem zs_sorted (a b : List Ch) : (zsOf (keysAB a b)).Pairwise fun x y => Go.leI x y = true := by
  unfold zsOf
  refine List.pairwise_map.2 ((keysAB_asc a b).imp fun {x y} h => ?_)
  simp only [Go.leI, decide_eq_true_eq]; omega
theorem sort_zs {a b : List Ch} {ss : List Int} (h : ss.Perm (zsOf (keysAB a b))) : ss.mergeSort (fun x y => decide (x ≤ y)) = zsOf (keysAB a b) := by
  have e := Go.mergeSort_of_perm_i h
  have tr : ∀ a b c : Int, Go.leI a b = true → Go.leI b c = true → Go.leI a c = true := fun a b c h1 h2 => by simp only [Go.leI, decide_eq_true_eq] at *; exact Int.le_trans h1 h2
  have tot : ∀ a b : Int, (Go.leI a b || Go.leI b a) = true := fun a b => by simp only [Go.leI, Bool.or_eq_true, decide_eq_true_eq]; exact Int.le_total a b
  refine e.trans ?_
  refine List.Perm.eq_of_pairwise (le := fun a b => Go.leI a b = true) (fun a b _ _ h1 h2 => ?_) (List.pairwise_mergeSort tr tot _) (zs_sorted a b) (List.mergeSort_perm _ _)
  simp only [Go.leI, decide_eq_true_eq] at h1 h2
  exact Int.le_antisymm h1 h2
theorem perm_zs {w : World} {M n : Nat} {D : DataW Value} {a b : List Ch} (ha : Rises a) (hb : Rises b) (hown : w.ownsMap Try.prog 3 pairR M n D) (hm : MapIs D fun key => both (getC a key) (getC b key)) {ss : List Int} (h : ss.Perm (Go.intKeys D)) : ss.Perm (zsOf (keysAB a b)) := by
  obtain ⟨es, hD, hpw, _⟩ := hown.entries (Maps.int_keyed Try.underlying3)
  obtain ⟨es', hD', hko⟩ := hown.keysOf
  obtain rfl : es = es' := by rw [hD] at hD'; simpa using hD'
  have hki : ∀ p ∈ es, ∃ x, p.1 = .int .i64 x := fun p hp => by
    obtain ⟨v, hv⟩ := hko p hp
    obtain ⟨x, _, hx, _⟩ := Maps.keyOf_i64 Try.underlying3 hv
    exact ⟨x, hx⟩
  subst hD
  refine h.trans (Go.perm_intKeys hpw hki (zs_nodup a b) fun x => ?_).symm
  rw [zs_keys ha hb, hm.has x]
/-- What comes back: the keys, rising. -/
def KeyR (w : World) (a b : List Ch) (e : Ending) (w' : World) : Prop := ∃ y c, e = .returned (.slice y (keysAB a b).length c) ∧ Ints w'.heap.size w' (.slice y (keysAB a b).length c) (zsOf (keysAB a b)) ∧ Below w.heap.size w w'
theorem keys_call (mb : Option Nat) (W : World) : Calls Try.prog 46 #[.map mb] W fun e w' => e = .returned (.func (.func 62) #[] #[.pointer (some ⟨W.heap.size, 0, none⟩)]) ∧ w' = W.alloc (.cells #[.map mb] 74) :=
  callsIn_wide.1 (AnyZI.keys_in keysA Fence.wide 5 trivial rfl mb W)
set_option maxHeartbeats 1000000 in
theorem sorted_call {a b : List Ch} (ha : Rises a) (hb : Rises b) (M n : Nat) (D : DataW Value) (hm : MapIs D fun key => both (getC a key) (getC b key)) (w : World) (hown : w.ownsMap Try.prog 3 pairR M n D) (hn : n ≤ 512) :
    Calls Try.prog 45 #[.func (.func 62) #[] #[.pointer (some ⟨w.heap.size, 0, none⟩)]] (w.alloc (.cells #[.map (some M)] 74)) (KeyR (w.alloc (.cells #[.map (some M)] 74)) a b) := by
  have hbl := hown.lt
  have hsz : Maps.size D ≤ 512 := Nat.le_trans hown.size_le hn
  have hseq : Go.SeqGives Fence.wide 2 Try.prog 62 #[.pointer (some ⟨w.heap.size, 0, none⟩)] Go.encZ (fun ss => ss.Perm (Go.intKeys D)) (Maps.size D) (w.alloc (.cells #[.map (some M)] 74)) :=
    AnyZI.keys_gives (ρ := keysA_ren) { keysA with } Fence.wide _ trivial rfl (by omega) w.heap.size M n D _ (by simp) (by simp) (by
      obtain ⟨es, clock, hb, Ft, hs, hD⟩ := hown
      exact ⟨es, clock, (Below.heap_alloc _ _ M hbl).trans hb, Ft, hs, hD⟩)
  have cS := AnyZI.sorted_in sortedA Fence.wide 5 trivial trivial trivial trivial rfl (by omega) (sortsA _) (enters_of Try.func61 (by kernel_rfl) rfl) 62 #[.pointer (some ⟨w.heap.size, 0, none⟩)] trivial (enters_of Try.func62 (by kernel_rfl) rfl) _ _ (by unfold maxLen; omega) (by omega) _ hseq
  change CallsIn _ _ Try.prog 45 _ _ _ at cS
  refine (callsIn_wide.1 cS).mono ?_
  rintro e w' ⟨v, ss, rfl, hS, hrow, _, hb2⟩
  have hp := perm_zs ha hb hown hm hS
  rw [sort_zs hp] at hrow
  have hl : ss.length = (keysAB a b).length := by rw [hp.length_eq, zsOf_length]
  rw [hl] at hrow
  have e1 : (zsOf (keysAB a b)).map Go.encZ = intVs (keysAB a b) := by unfold zsOf intVs; rw [List.map_map]; rfl
  rw [e1] at hrow
  obtain ⟨y, c, rfl, hI⟩ := row_ints rfl hrow
  exact ⟨y, c, rfl, hI, hb2⟩

/-! ### What Op makes, chunk by chunk -/
def contA (r : List Ch) (k : Int) : CI := (getC r k).getD noneC
theorem contA_right {r : List Ch} (h : Rises r) (k : Int) : RightC (contA r k).1 (contA r k).2 := by
  unfold contA
  cases e : getC r k with
  | none => exact ⟨by decide, by decide, by decide, by decide +kernel⟩
  | some p => exact (h.best _ (getC_some e)).right
theorem contA_part {r : List Ch} (h : Rises r) (k : Nat) : Same (readS (contA r k).1 (contA r k).2) (part (setZ r) k) := by
  intro i hi
  unfold contA part
  cases e : getC r k with
  | none =>
    show readS 1 [] i = _
    rw [read_empty, setZ_no (fun c hc e2 => ?_) hi]
    have := getC_mem h.asc hc
    rw [e2, e] at this; cases this
  | some p =>
    have hm := getC_some e
    show readS p.1 p.2 i = _
    rw [setZ_at h.asc hm rfl hi]
    have := (h.best _ hm).read
    show readS p.1 p.2 i = setOf p.1.toNat p.2 i
    rw [← this]
theorem op_chunk {a b : List Ch} (ha : Rises a) (hb : Rises b) (op k : Nat) : Same (opS op (readS (contA a k).1 (contA a k).2) (readS (contA b k).1 (contA b k).2)) (part (opS op (setZ a) (setZ b)) k) := fun n hn => by
  have := op_congr (contA_part ha k) (contA_part hb k) op n hn
  rw [this]; rfl
theorem op_lacks {a b : List Ch} (ha : Rises a) (hb : Rises b) (op : Nat) {k : Nat} (hk : k < 256) (h : k ∉ keysAB a b) : vals (part (opS op (setZ a) (setZ b)) k) = [] := by
  have h1 : (both (getC a k) (getC b k)).isSome = false := by
    cases e : (both (getC a k) (getC b k)).isSome with
    | false => rfl
    | true => exact absurd (keysAB_mem.2 ⟨hk, e⟩) h
  rw [both_isSome, Bool.or_eq_false_iff] at h1
  have n1 : ∀ c ∈ a, c.1 ≠ (k : Int) := fun c hc e => by
    have := getC_mem ha.asc hc
    rw [e] at this; rw [this] at h1; cases h1.1
  have n2 : ∀ c ∈ b, c.1 ≠ (k : Int) := fun c hc e => by
    have := getC_mem hb.asc hc
    rw [e] at this; rw [this] at h1; cases h1.2
  unfold vals valsTo
  rw [List.filter_eq_nil_iff]
  intro i hi
  have hi := List.mem_range.1 hi
  show ¬ (opS op (setZ a) (setZ b) (256 * k + i) = true)
  unfold opS
  rw [setZ_no n1 hi, setZ_no n2 hi]
  simp
/-- The chunks that Op makes, of the first m keys. -/
def opL (op : Nat) (a b : List Ch) (m : Nat) : List Ch := ((keysAB a b).take m).map fun k => chunk (part (opS op (setZ a) (setZ b)) k) k
theorem opL_succ {op : Nat} {a b : List Ch} {m : Nat} (h : m < (keysAB a b).length) : opL op a b (m + 1) = opL op a b m ++ [chunk (part (opS op (setZ a) (setZ b)) ((keysAB a b).getD m 0)) ((keysAB a b).getD m 0)] := by
  unfold opL
  rw [List.take_add_one, List.getElem?_eq_getElem h, List.map_append, List.getD_eq_getElem?_getD, List.getElem?_eq_getElem h]; rfl
theorem opL_length {op : Nat} {a b : List Ch} {m : Nat} (h : m ≤ (keysAB a b).length) : (opL op a b m).length = m := by
  unfold opL
  rw [List.length_map, List.length_take, Nat.min_eq_left h]
theorem opL_keep {a b : List Ch} (ha : Rises a) (hb : Rises b) (op : Nat) : keepC (opL op a b (keysAB a b).length) = ofS (opS op (setZ a) (setZ b)) := by
  refine ofS_keys (ks := keysAB a b) (keysAB_asc a b) (fun k hk => (keysAB_mem.1 hk).1) (fun k hk hn => op_lacks ha hb op hk hn) ?_
  unfold opL
  rw [List.take_of_length_le (Nat.le_refl _)]
theorem keys_getD {a b : List Ch} {m : Nat} (h : m < (keysAB a b).length) : (keysAB a b).getD m 0 < 256 ∧ (both (getC a ((keysAB a b).getD m 0 : Nat)) (getC b ((keysAB a b).getD m 0 : Nat))) = some (contA a ((keysAB a b).getD m 0 : Nat), contA b ((keysAB a b).getD m 0 : Nat)) := by
  have hm : (keysAB a b).getD m 0 ∈ keysAB a b := by
    rw [List.getD_eq_getElem?_getD, List.getElem?_eq_getElem h]; exact List.getElem_mem h
  generalize (keysAB a b).getD m 0 = k at *
  obtain ⟨h1, h2⟩ := keysAB_mem.1 hm
  refine ⟨h1, ?_⟩
  unfold contA
  cases e1 : getC a k <;> cases e2 : getC b k
  · rw [e1, e2] at h2; cases h2
  · rfl
  · rfl
  · rfl
end Go.Proofs.Ytbfchlfagdhglaa
/- roar.Op. -/
namespace Go.Proofs.Ytbfchlfagdhglaa
open Go.RowKit

/-- The three boxes. -/
def OqI (w : World) (sa sb : Value) (W : World) : Prop := (Blk W w.heap.size 24 #[sa] ∧ Blk W (w.heap.size + 1) 24 #[sb] ∧ Blk W (w.heap.size + 1 + 1) 24 #[.slice none 0 0]) ∧ Below w.heap.size w W
theorem OqI.under {w A B : World} {sa sb : Value} (h : OqI w sa sb A) (hb : Below A.heap.size A B) : OqI w sa sb B := ⟨⟨h.1.1.under hb, h.1.2.1.under hb, h.1.2.2.under hb⟩, h.2.trans (hb.mono h.2.size)⟩
theorem OqI.start (w : World) (sa sb : Value) : OqI w sa sb (((w.alloc (.cells #[sa] 24)).alloc (.cells #[sb] 24)).alloc (.cells #[.slice none 0 0] 24)) := by
  have h1 := (Blk.new (w.alloc (.cells #[sa] 24)) 24 #[sb]).alloc (.cells #[.slice none 0 0] 24)
  have h2 := Blk.new ((w.alloc (.cells #[sa] 24)).alloc (.cells #[sb] 24)) 24 #[.slice none 0 0]
  rw [World.size_alloc] at h1
  rw [World.size_alloc, World.size_alloc] at h2
  exact ⟨⟨((Blk.new w _ _).alloc _).alloc _, h1, h2⟩, (((Below.refl _ w).alloc (Nat.le_refl _) _).alloc (by simp) _).alloc (by simp; omega) _⟩
theorem okOpZ_iff (op : Int) : okOp op = true ↔ okOpZ op := by
  unfold okOp okOpZ
  rw [Bool.and_eq_true, decide_eq_true_iff, decide_eq_true_iff]
theorem right_one0 : RightC 1 [] := ⟨by decide, by decide, by decide, by decide +kernel⟩
theorem opC_all (op : Int) (f : Int) (d : List UInt8) (g : Int) (e : List UInt8) (h1 : RightC f d) (h2 : RightC g e) (W : World) : Calls Try.prog 42 #[.int .i64 op, .agg #[.int .i64 f, .string ⟨d.toArray⟩], .agg #[.int .i64 g, .string ⟨e.toArray⟩]] W fun en w' => en = .returned (opCV op f d g e) ∧ Below W.heap.size W w' := by
  obtain ⟨a1, a2, a3, _⟩ := h1
  obtain ⟨b1, b2, b3, _⟩ := h2
  exact opC_any f (by omega) (by omega) d (by omega) g (by omega) (by omega) e (by omega) W op
set_option maxRecDepth 100000 in
theorem field_a (a b c d : Value) (W : World) : (Instr.field 81 (.agg #[a, b, c, d]) 0).run Try.prog W = .ok (.agg #[a, b]) W := by kernel_rfl
set_option maxRecDepth 100000 in
theorem field_b (a b c d : Value) (W : World) : (Instr.field 81 (.agg #[a, b, c, d]) 1).run Try.prog W = .ok (.agg #[c, d]) W := by kernel_rfl
/-- What holds at the loop's head. -/
def OpI (W6 : World) (op : Nat) (r q : List Ch) (m : Nat) (v : Value) (wr : World) : Prop := wr.ownsRow W6.heap.size 54 3 v m (chsCells (opL op r q m)) ∧ Below W6.heap.size W6 wr
theorem OpI.under {W6 A B : World} {op : Nat} {r q : List Ch} {m : Nat} {v : Value} (h : OpI W6 op r q m v A) (hb : Below A.heap.size A B) : OpI W6 op r q m v B := ⟨own_under h.1 hb, h.2.trans (hb.mono h.2.size)⟩
theorem OpI.app {W6 a2 w4 : World} {op : Nat} {r q : List Ch} {m : Nat} {v v2 : Value} {o : Obj} (h : OpI W6 op r q m v a2) (hg : (a2.alloc o).grownBy w4 v.ownBlock) (ho : w4.ownsRow W6.heap.size 54 3 v2 (m + 1) (chsCells (opL op r q (m + 1)))) : OpI W6 op r q (m + 1) v2 w4 := by
  have h2 := h.under ((Below.refl _ a2).alloc (Nat.le_refl _) o)
  have hr : ∀ k, v.ownBlock = some k → W6.heap.size ≤ k := fun k e => by
    rcases h.1.2 with ⟨e2, _⟩ | ⟨g, c, cur, e2, hb, _⟩
    · rw [e2] at e; cases e
    · rw [e2] at e
      have : g = k := by simpa [Value.ownBlock] using e
      omega
  exact ⟨ho, h2.2.grown hg h2.2.size (fun k e => hr k e)⟩

set_option maxRecDepth 100000 in
set_option maxHeartbeats 4000000 in
theorem op_roar (op : Int) (x : Option Addr) (len cap : Nat) (r : List Ch) (hk : OkCs r) (hm : len ≤ 9223372036854775807) (y : Option Addr) (len2 cap2 : Nat) (q : List Ch) (hk2 : OkCs q) (hm2 : len2 ≤ 9223372036854775807) (w : World) (h : Chs w.heap.size w (.slice x len cap) r) (k : Chs w.heap.size w (.slice y len2 cap2) q) :
    Calls Try.prog 23 #[.int .i64 op, .agg #[.slice x len cap], .agg #[.slice y len2 cap2]] w (RoarRes w (opZ op r q)) := by
  have hS0 := OqI.start w (.slice x len cap) (.slice y len2 cap2)
  have HR1 := Lib.hid (fun W hW => right_roar x len cap r hk hm W hW)
  have HR2 := Lib.hid (fun W hW => right_roar y len2 cap2 q hk2 hm2 W hW)
  have HC1 : Hid (∀ W, Below w.heap.size w W → Chs W.heap.size W (.slice x len cap) r) := Lib.hid fun W hb => (h.below hb).more hb.size
  have HC2 : Hid (∀ W, Below w.heap.size w W → Chs W.heap.size W (.slice y len2 cap2) q) := Lib.hid fun W hb => (k.below hb).more hb.size
  have HMg := Lib.hid (fun (hr : RightZ r) (hq : RightZ q) W h1 h2 => merged_any x len cap r hr y len2 cap2 q hq W h1 h2)
  have HOp := Lib.hid (fun W => opC_all op 1 [] 1 [] right_one0 right_one0 W)
  have HS0 := Lib.hid hS0
  clear h k hk hk2 hS0
  by_cases hop : okOpZ op
  · have hop2 : okOp op = true := (okOpZ_iff op).2 hop
    rw [opCV_yes hop2 right_one0 right_one0] at HOp
    generalize bestF (opS op.toNat (readS 1 []) (readS 1 [])) = f0 at *
    generalize bestD (opS op.toNat (readS 1 []) (readS 1 [])) = d0 at *
    go_enter Try.func23, Try.ntmps23
    go_wp2_with (first | (go_at_call 43; refine (nothing_any _).mono ?_; rintro e w1 ⟨rfl, hb1⟩; have HS0 := Lib.hid (HS0.out.under hb1); clear hb1) | fail)
    refine (HOp.out _).mono ?_
    rintro e w3 ⟨rfl, hb3⟩
    have HS3 := Lib.hid ((HS0.out.under hb3).under ((Below.refl _ w3).alloc (Nat.le_refl _) (.cells #[.int .i64 f0, .string ⟨d0.toArray⟩] 52)))
    have c0 := HS3.out.1.1.cell 0; have c1 := HS3.out.1.2.1.cell 0
    dsimp at c0 c1
    clear hb3
    have HR1b := Lib.hid (HR1.out _ (HC1.out _ HS3.out.2))
    clear HR1 HOp
    by_cases hr : RightZ r
    · rw [decide_eq_true hr] at HR1b
      go_wp2_with fail
      refine HR1b.out.mono ?_
      rintro e w4 ⟨rfl, hb4⟩
      have HS4 := Lib.hid (HS3.out.under hb4)
      have c0b := HS4.out.1.1.cell 0; have c1b := HS4.out.1.2.1.cell 0
      dsimp at c0b c1b
      have HR2b := Lib.hid (HR2.out _ (HC2.out _ HS4.out.2))
      clear hb4 HR2 HR1b
      by_cases hq : RightZ q
      · rw [decide_eq_true hq] at HR2b
        have HV := Lib.hid (opZ_good hr hq hop)
        go_wp2_with fail
        refine HR2b.out.mono ?_
        rintro e w5 ⟨rfl, hb5⟩
        have HS5 := Lib.hid (HS4.out.under hb5)
        have d0 := HS5.out.1.1.cell 0; have d1 := HS5.out.1.2.1.cell 0
        dsimp at d0 d1
        clear hb5
        go_wp2_with fail
        refine (HMg.out hr hq _ (HC1.out _ HS5.out.2) (HC2.out _ HS5.out.2)).mono ?_
        rintro e w6 ⟨M, n, D, rfl, hM, hown, hn, hm6, hb6⟩
        have HS6 := Lib.hid (HS5.out.under hb6)
        have HKy := Lib.hid (sorted_call (right_rises hr) (right_rises hq) M n D hm6 w6 hown hn)
        have HOw := Lib.hid hown
        have HM6 := Lib.hid hm6
        clear hown hm6 hb6 HMg c0 c1 c0b c1b d0 d1
        go_wp2_with (first | (go_at_call 46; refine (keys_call _ _).mono ?_; rintro e w' ⟨rfl, rfl⟩))
        refine HKy.out.mono ?_
        rintro e w7 ⟨yk, ck, rfl, hI7, hb7⟩
        have hbB : Below w6.heap.size w6 w7 := ((Below.refl _ w6).alloc (Nat.le_refl _) (.cells #[.map (some M)] 74)).trans (hb7.mono (by simp))
        have HS7 := Lib.hid (HS6.out.under hbB)
        have HO7 := Lib.hid (map_under HOw.out hbB)
        have HI7 := Lib.hid hI7
        have hkl := keysAB_le r q
        obtain ⟨i0, hi, hz0, hz1, hz2⟩ := info_parts info_chunk
        have HInf := Lib.hid hi; have HZ0 := Lib.hid hz0; have HZ1 := Lib.hid hz1; have HZ2 := Lib.hid hz2
        have HI0 : Hid (OpI w7 op.toNat r q 0 (.slice none 0 0) w7) := Lib.hid ⟨⟨rfl, .inl ⟨rfl, rfl⟩⟩, Below.refl _ _⟩
        have HKd := Lib.hid (fun m (h : m < (keysAB r q).length) => keys_getD (a := r) (b := q) h)
        have HCa := Lib.hid (fun k : Nat => contA_right (right_rises hr) (k : Int))
        have HCb := Lib.hid (fun k : Nat => contA_right (right_rises hq) (k : Int))
        have HCh := Lib.hid (fun k : Nat => op_chunk (right_rises hr) (right_rises hq) op.toNat k)
        have HFin := Lib.hid (opL_keep (right_rises hr) (right_rises hq) op.toNat)
        clear hI7 hb7 hi hz0 hz1 hz2 hbB HS6 HOw
        go_wp2
        go_loopw [11, 43] (fun v i wr => ∃ m : Nat, i = .int .i64 (m : Nat) ∧ m ≤ (keysAB r q).length ∧ OpI w7 op.toNat r q m v wr)
          (fun _ i _ => (keysAB r q).length - (intOf i).toNat)
        case atStart => exact ⟨0, rfl, Nat.zero_le _, HI0.out⟩
        case round =>
          obtain ⟨m, rfl, hml, hS⟩ := hrel
          clear HI0
          by_cases hlt : m < (keysAB r q).length
          · have hlt' : (m : Int) < (keysAB r q).length := by omega
            obtain ⟨yb, yo, rfl, hyb, hyc⟩ := HI7.out.at_ hlt
            have HZ : Hid ((zsOf (keysAB r q))[m]?.getD 0 = (((keysAB r q).getD m 0 : Nat) : Int)) := Lib.hid (by
              unfold zsOf
              rw [List.getElem?_map, List.getD_eq_getElem?_getD, List.getElem?_eq_getElem hlt]; rfl)
            rw [HZ.out] at hyc
            have hyc2 := (hS.2.cell (p := ⟨yb, yo + m, none⟩) hyb).trans hyc
            obtain ⟨hk2, hbo⟩ := HKd.out m hlt
            have HSu : Hid (chsCells (opL op.toNat r q (m + 1)) = chsCells (opL op.toNat r q m) ++ [Value.int .i64 ((keysAB r q).getD m 0 : Nat), .int .i64 (bestF (part (opS op.toNat (setZ r) (setZ q)) ((keysAB r q).getD m 0)) : Nat), .string ⟨(bestD (part (opS op.toNat (setZ r) (setZ q)) ((keysAB r q).getD m 0))).toArray⟩]) := Lib.hid (by
              rw [opL_succ hlt, chsCells_append, chsCells_one]; rfl)
            have hlk0 := look_pair1 (map_under HO7.out hS.2) HM6.out (key := (((keysAB r q).getD m 0 : Nat) : Int)) (by omega) (by omega)
            rw [hbo] at hlk0
            have HF := Lib.hid (fun W => opC_all op _ _ _ _ (HCa.out ((keysAB r q).getD m 0)) (HCb.out ((keysAB r q).getD m 0)) W)
            rw [opCV_yes hop2 (HCa.out _) (HCb.out _), bestF_congr (HCh.out _), bestD_congr (HCh.out _)] at HF
            have HS := Lib.hid hS
            clear hyc HZ hbo hS
            generalize (keysAB r q).getD m 0 = k at *
            generalize bestF (part (opS op.toNat (setZ r) (setZ q)) k) = f at *
            generalize bestD (part (opS op.toNat (setZ r) (setZ q)) k) = d at *
            generalize contA r (k : Int) = p1 at *
            generalize contA q (k : Int) = p2 at *
            obtain ⟨f1, d1⟩ := p1
            obtain ⟨f2, d2⟩ := p2
            dsimp only at HF
            have hlk : (Instr.lookup 74 (.map (some M)) (.int .i64 k) false).run Try.prog wr = .ok (.agg #[.int .i64 f1, .string ⟨d1.toArray⟩, .int .i64 f2, .string ⟨d2.toArray⟩]) wr := hlk0
            have hfa : ∀ W : World, (Instr.field 81 (.agg #[.int .i64 f1, .string ⟨d1.toArray⟩, .int .i64 f2, .string ⟨d2.toArray⟩]) 0).run Try.prog W = .ok (.agg #[.int .i64 f1, .string ⟨d1.toArray⟩]) W := fun W => field_a ..
            have hfb : ∀ W : World, (Instr.field 81 (.agg #[.int .i64 f1, .string ⟨d1.toArray⟩, .int .i64 f2, .string ⟨d2.toArray⟩]) 1).run Try.prog W = .ok (.agg #[.int .i64 f2, .string ⟨d2.toArray⟩]) W := fun W => field_b ..
            clear hlk0
            go_wp2_with fail
            refine (HF.out _).mono ?_
            rintro e w8 ⟨rfl, hb8⟩
            have hS8 := HS.out.under hb8
            have hS6 := hS8.under ((Below.refl _ w8).alloc (Nat.le_refl _) (.cells #[.int .i64 f, .string ⟨d.toArray⟩] 52))
            have hsz6 := hS6.2.size
            clear hb8 hS8
            go_wp2_with (at_builtin; refine wpList_append_own _ rfl _ _ 22 rfl w7.heap.size 54 i0 (.agg #[.int .i64 0, .int .i64 0, .string ⟨#[]⟩]) 3 32 Try.underlying22 HInf.out HZ0.out HZ1.out HZ2.out rfl (by decide) _ _ _ rfl (hS6.1.alloc _) ⟨w8.heap.size + 1, 0, none⟩ 1 1 [.int .i64 k, .int .i64 f, .string ⟨d.toArray⟩] rfl rfl (by have := cells_three (w8.alloc (.cells #[.int .i64 f, .string ⟨d.toArray⟩] 52)) (.int .i64 k) (.int .i64 f) (.string ⟨d.toArray⟩) 54; rwa [World.size_alloc] at this) (by simp [Value.oneCell']) (by unfold maxLen; omega) (by first | omega | (rw [World.size_alloc]; omega)) (by first | omega | (rw [World.size_alloc]; omega)) ?_; intro v2 w9 hown9 hgrow9 _; rw [← HSu.out] at hown9; obtain ⟨x2, k2, rfl⟩ := own_slice hown9; have HS9 := Lib.hid (OpI.app hS6 hgrow9 hown9); clear hS6 hgrow9 hown9)
            go_roundw
            case rel => exact ⟨m + 1, by simp, by omega, HS9.out⟩
            case measure => simp [intOf]; omega
          · obtain rfl : m = (keysAB r q).length := by omega
            have hge : ¬ (((keysAB r q).length : Nat) : Int) < (keysAB r q).length := by omega
            obtain ⟨x2, c2, rfl⟩ := own_slice hS.1
            have hJ := joined_any w7.heap.size (.slice x2 (keysAB r q).length c2) (keysAB r q).length (opL op.toNat r q (keysAB r q).length) (opL_length (Nat.le_refl _)) wr hS.1 hS.2.size
            unfold JoinR at hJ
            rw [HFin.out] at hJ
            have HJ := Lib.hid hJ
            have HSr := Lib.hid (HS7.out.under hS.2)
            have HS := Lib.hid hS
            clear hS hJ
            go_wp2_with fail
            refine HJ.out.mono ?_
            rintro e w9 ⟨u, rfl, hu, hb9⟩
            have hlt9 : w.heap.size + 1 + 1 < w7.heap.size := HS7.out.1.2.2.lt
            have bR9 : Blk w9 (w.heap.size + 1 + 1) 24 #[.slice none 0 0] := (hb9.block (w.heap.size + 1 + 1) hlt9).trans HSr.out.1.2.2
            have c0 := bR9.cell 0; have f0' := bR9.frozen 0
            dsimp at c0
            obtain ⟨x3, c3, rfl, h1, h2, h3, h4⟩ := own_chs (g := w.heap.size + 1 + 1) (u := u) hu hlt9
            have hE := bR9.set_ 0 (.slice x3 (ofS (opS op.toNat (setZ r) (setZ q))).length c3)
            have HD := Lib.hid ((HSr.out.2.trans (hb9.mono (by omega))).setCell (p := ⟨w.heap.size + 1 + 1, 0, none⟩) (by simp; omega) (.slice x3 (ofS (opS op.toNat (setZ r) (setZ q))).length c3))
            have H4 : Hid (∀ b o, x3 = some ⟨b, o, none⟩ → w.heap.size ≤ b) := Lib.hid (fun b o e => by have := h4 b o e; omega)
            have H3 := Lib.hid h3
            have HE := Lib.hid hE
            clear hu hb9 bR9 h3 h4 HJ HS hE
            go_wp2
            exact ret_roar2 rfl rfl HE.out rfl (roar_some HV.out rfl h1 h2 H3.out HD.out H4.out)
      · rw [decide_eq_false hq] at HR2b
        have HV := Lib.hid (opZ_bad (op := op) (r := r) (q := q) fun h => hq h.2.1)
        go_wp2_with fail
        refine HR2b.out.mono ?_
        rintro e w5 ⟨rfl, hb5⟩
        have HS5 := Lib.hid (HS4.out.under hb5)
        clear hb5
        have HE := Lib.hid (HS5.out.1.2.2.set_ 0 (.slice none 0 0))
        have HD := Lib.hid (HS5.out.2.setCell (p := ⟨w.heap.size + 1 + 1, 0, none⟩) (by simp; omega) (.slice none 0 0))
        have c2 := HS5.out.1.2.2.cell 0; have f2 := HS5.out.1.2.2.frozen 0
        dsimp at c2
        go_wp2
        exact ret_roar2 rfl rfl HE.out rfl (roar_none HV.out rfl HD.out)

    · rw [decide_eq_false hr] at HR1b
      have HV := Lib.hid (opZ_bad (op := op) (r := r) (q := q) fun h => hr h.1)
      go_wp2_with fail
      refine HR1b.out.mono ?_
      rintro e w4 ⟨rfl, hb4⟩
      have HS5 := Lib.hid (HS3.out.under hb4)
      clear hb4
      have HE := Lib.hid (HS5.out.1.2.2.set_ 0 (.slice none 0 0))
      have HD := Lib.hid (HS5.out.2.setCell (p := ⟨w.heap.size + 1 + 1, 0, none⟩) (by simp; omega) (.slice none 0 0))
      have c2 := HS5.out.1.2.2.cell 0; have f2 := HS5.out.1.2.2.frozen 0
      dsimp at c2
      go_wp2
      exact ret_roar2 rfl rfl HE.out rfl (roar_none HV.out rfl HD.out)
  · have hop2 : ¬ okOp op = true := fun h => hop ((okOpZ_iff op).1 h)
    have HV := Lib.hid (opZ_bad (op := op) (r := r) (q := q) fun h => hop h.2.2)
    rw [opCV_no (fun h => hop2 h.1)] at HOp
    go_enter Try.func23, Try.ntmps23
    go_wp2_with (first | (go_at_call 43; refine (nothing_any _).mono ?_; rintro e w1 ⟨rfl, hb1⟩; have HS0 := Lib.hid (HS0.out.under hb1); clear hb1) | fail)
    refine (HOp.out _).mono ?_
    rintro e w3 ⟨rfl, hb3⟩
    have HS3 := Lib.hid (HS0.out.under hb3)
    have HE := Lib.hid ((HS3.out.1.2.2.set_ 0 (.slice none 0 0)).alloc (.cells #[.int .i64 0, .string ⟨#[]⟩] 52))
    have HD := Lib.hid ((HS3.out.2.setCell (p := ⟨w.heap.size + 1 + 1, 0, none⟩) (by simp; omega) (.slice none 0 0)).alloc (by have := HS3.out.2.size; simpa using this) (.cells #[.int .i64 0, .string ⟨#[]⟩] 52))
    have c2 := HS3.out.1.2.2.cell 0; have f2 := HS3.out.1.2.2.frozen 0; have hlt := HS3.out.1.2.2.lt
    dsimp at c2
    go_wp2
    exact ret_roar2 rfl rfl HE.out rfl (roar_none HV.out rfl HD.out)
end Go.Proofs.Ytbfchlfagdhglaa
/- roar.Flip. -/
namespace Go.Proofs.Ytbfchlfagdhglaa
open Go.RowKit

theorem okCs_of (s : Bs) : OkCs (ofS s) := fun c hc => by
  obtain ⟨j, hj, rfl, _⟩ := mem_ofTo hc
  have h1 := bestF_form (part s j)
  have h2 := best_32 (part s j)
  refine ⟨⟨?_, ?_⟩, ⟨?_, ?_⟩, ?_⟩
  · show (-9223372036854775808 : Int) ≤ (j : Int); omega
  · show (j : Int) ≤ 9223372036854775807; omega
  · show (-9223372036854775808 : Int) ≤ ((bestF (part s j) : Nat) : Int); omega
  · show ((bestF (part s j) : Nat) : Int) ≤ 9223372036854775807; omega
  · show (bestD (part s j)).length ≤ 9223372036854775807; omega
/-- The two boxes. -/
def OfI (w : World) (sa : Value) (W : World) : Prop := (Blk W w.heap.size 24 #[sa] ∧ Blk W (w.heap.size + 1) 24 #[.slice none 0 0]) ∧ Below w.heap.size w W
theorem OfI.under {w A B : World} {sa : Value} (h : OfI w sa A) (hb : Below A.heap.size A B) : OfI w sa B := ⟨⟨h.1.1.under hb, h.1.2.under hb⟩, h.2.trans (hb.mono h.2.size)⟩
theorem OfI.start (w : World) (sa : Value) : OfI w sa ((w.alloc (.cells #[sa] 24)).alloc (.cells #[.slice none 0 0] 24)) := by
  have h2 := Blk.new (w.alloc (.cells #[sa] 24)) 24 #[.slice none 0 0]
  rw [World.size_alloc] at h2
  exact ⟨⟨(Blk.new w _ _).alloc _, h2⟩, ((Below.refl _ w).alloc (Nat.le_refl _) _).alloc (by simp) _⟩
/-- Flip is the exclusive or with a span. -/
theorem flip_xor (r : List Ch) {a b : Int} (h : okQ a b) : opZ 3 r (ofS (spanZ a b)) = flipZ r a b := by
  by_cases hr : RightZ r
  · have e := flipZ_of h (setZ r)
    rw [← hr.2] at e
    have e2 := opZ_of 3 (by decide) (by decide) (setZ r) (spanZ a b)
    rw [← hr.2] at e2
    rw [e]
    refine Eq.trans e2 ?_
    refine Prod.ext (ofS_congr fun n _ => ?_) rfl
    unfold opS flipS spanZ
    by_cases h1 : a ≤ n ∧ (n : Int) < b
    · rw [if_pos h1, decide_eq_true h1.1, decide_eq_true h1.2]; cases setZ r n <;> rfl
    · have : (decide (a ≤ (n : Int)) && decide ((n : Int) < b)) = false := by
        rw [Bool.and_eq_false_iff, decide_eq_false_iff_not, decide_eq_false_iff_not]; omega
      rw [if_neg h1, this]; cases setZ r n <;> rfl
  · rw [opZ_bad fun k => hr k.1, flipZ_bad fun k => hr k.1]

set_option maxRecDepth 100000 in
set_option maxHeartbeats 4000000 in
theorem flip_roar (a b : Int) (la : -9223372036854775808 ≤ a) (ua : a ≤ 9223372036854775807) (lb : -9223372036854775808 ≤ b) (ub : b ≤ 9223372036854775807) (x : Option Addr) (len cap : Nat) (r : List Ch) (hk : OkCs r) (hm : len ≤ 9223372036854775807) (w : World) (h : Chs w.heap.size w (.slice x len cap) r) :
    Calls Try.prog 25 #[.agg #[.slice x len cap], .int .i64 a, .int .i64 b] w (RoarRes w (flipZ r a b)) := by
  have hS0 : OfI w (.slice x len cap) ((w.alloc (.cells #[.slice x len cap] 24)).alloc (.cells #[.slice none 0 0] 24)) := OfI.start w (.slice x len cap)
  have HSp := Lib.hid (fun W => span_roar a b la ua lb ub W)
  have HC : Hid (∀ W, Below w.heap.size w W → Chs W.heap.size W (.slice x len cap) r) := Lib.hid fun W hb => (h.below hb).more hb.size
  have HS0 := Lib.hid hS0
  clear h hS0
  by_cases hok : okQ a b
  · have HO := Lib.hid (fun W y c (hq : (ofS (spanZ a b)).length ≤ 9223372036854775807) h1 h2 => op_roar 3 x len cap r hk hm y (ofS (spanZ a b)).length c (ofS (spanZ a b)) (okCs_of _) hq W h1 h2)
    rw [flip_xor r hok] at HO
    have hz : flipZ [] a b = (ofS (spanZ a b), 0) := flipZ_nil hok
    rw [hz] at HSp
    clear hz hok
    generalize flipZ r a b = p at *
    generalize ofS (spanZ a b) = sp at *
    go_enter Try.func25, Try.ntmps25
    go_wp2_with fail
    refine (HSp.out _).mono ?_
    rintro e w1 ⟨y, c, rfl, h1, h2, h3, hb1, h4⟩
    have HS1 := Lib.hid ((HS0.out.under hb1).under ((Below.refl _ w1).alloc (Nat.le_refl _) (.cells #[.slice y sp.length c] 24)))
    have H3 := Lib.hid (h3.under ((Below.refl _ w1).alloc (Nat.le_refl _) (.cells #[.slice y sp.length c] 24)))
    have hq : sp.length ≤ 9223372036854775807 := by unfold maxLen at h2; dsimp only at h1 h2; omega
    have c0 := HS1.out.1.1.cell 0
    dsimp at c0
    have HRes := Lib.hid (HO.out _ y c hq (HC.out _ HS1.out.2) H3.out)
    clear h3 hb1 h4 h1 h2
    go_wp2_with fail
    refine HRes.out.mono ?_
    rintro e w2 ⟨y2, c2, rfl, g1, g2, g3, hb2, g4⟩
    have HS2 := HS1.out.under hb2
    have hlt := HS1.out.1.2.lt
    have d0 := HS2.1.2.cell 0; have f0 := HS2.1.2.frozen 0
    dsimp at d0
    have hE := HS2.1.2.set_ 0 (.slice y2 p.1.length c2)
    have hD := HS2.2.setCell (p := ⟨w.heap.size + 1, 0, none⟩) (by simp) (.slice y2 p.1.length c2)
    have G3 := Lib.hid (chs_set (g := w.heap.size + 1) (u := .slice y2 p.1.length c2) g3 (fun b o l c2 e => by cases e; have := g4 b o rfl; omega))
    have G4 : Hid (∀ b o, y2 = some ⟨b, o, none⟩ → w.heap.size ≤ b) := Lib.hid (fun b o e => by have := g4 b o e; omega)
    clear hb2 g3 g4 HRes HS2
    go_wp2
    exact ret_roar2 rfl rfl hE rfl ⟨y2, c2, rfl, g1, g2, G3.out, hD, G4.out⟩
  · have HV := Lib.hid (flipZ_bad (r := r) (a := a) (b := b) fun k => hok k.2)
    rw [flipZ_bad (r := []) (a := a) (b := b) fun k => hok k.2] at HSp
    go_enter Try.func25, Try.ntmps25
    go_wp2_with fail
    refine (HSp.out _).mono ?_
    rintro e w1 ⟨y, c, rfl, h1, h2, h3, hb1, h4⟩
    have HS1 := (HS0.out.under hb1).under ((Below.refl _ w1).alloc (Nat.le_refl _) (.cells #[.slice y 0 c] 24))
    have HE := Lib.hid (HS1.1.2.set_ 0 (.slice none 0 0))
    have HD := Lib.hid (HS1.2.setCell (p := ⟨w.heap.size + 1, 0, none⟩) (by simp) (.slice none 0 0))
    have c2 := HS1.1.2.cell 0; have f2 := HS1.1.2.frozen 0
    dsimp at c2
    clear HS1 hb1 h1 h2 h3 h4
    go_wp2
    exact ret_roar2 rfl rfl HE.out rfl (roar_none HV.out rfl HD.out)
end Go.Proofs.Ytbfchlfagdhglaa
/- roar.Make: the numbers by their greater byte; the array of their rows. -/
namespace Go.Proofs.Ytbfchlfagdhglaa
open Go.RowKit

/-! ### Mathematics -/
/-- The lesser bytes of the numbers whose greater byte is j. -/
def lowL (zs : List Int) (j : Nat) : List Nat := (zs.filter fun z => decide (z / 256 = (j : Int))).map fun z => (z % 256).toNat
theorem lowL_nil (j : Nat) : lowL [] j = [] := rfl
theorem lowL_snoc (zs : List Int) (z : Int) (j : Nat) : lowL (zs ++ [z]) j = if z / 256 = (j : Int) then lowL zs j ++ [(z % 256).toNat] else lowL zs j := by
  unfold lowL
  by_cases h : z / 256 = (j : Int)
  · rw [if_pos h, List.filter_append, List.map_append]
    simp [h]
  · rw [if_neg h, List.filter_append, List.map_append]
    simp [h]
theorem lowL_take (zs : List Int) {k : Nat} (hk : k < zs.length) (j : Nat) : lowL (zs.take (k + 1)) j = if (zs[k]?.getD 0) / 256 = (j : Int) then lowL (zs.take k) j ++ [((zs[k]?.getD 0) % 256).toNat] else lowL (zs.take k) j := by
  rw [List.take_add_one, List.getElem?_eq_getElem hk]
  exact lowL_snoc _ _ j
theorem lowL_small (zs : List Int) (j : Nat) : ∀ n ∈ lowL zs j, n < 256 := fun n hn => by
  unfold lowL at hn
  rw [List.mem_map] at hn
  obtain ⟨z, _, rfl⟩ := hn
  omega
theorem lowL_le (zs : List Int) (j : Nat) : (lowL zs j).length ≤ zs.length := by
  unfold lowL
  rw [List.length_map]
  exact List.length_filter_le _ _
theorem lowL_set (zs : List Int) (j : Nat) : Same (ofL (zsOf (lowL zs j))) (part (ofL zs) j) := fun i hi => by
  unfold part ofL
  rw [Bool.eq_iff_iff, List.any_eq_true, List.any_eq_true]
  constructor
  · rintro ⟨y, hy, he⟩
    unfold zsOf lowL at hy
    rw [List.mem_map] at hy
    obtain ⟨n, hn, rfl⟩ := hy
    rw [List.mem_map] at hn
    obtain ⟨z, hz, rfl⟩ := hn
    rw [List.mem_filter, decide_eq_true_iff] at hz
    refine ⟨z, hz.1, ?_⟩
    rw [beq_iff_eq] at he ⊢
    omega
  · rintro ⟨z, hz, he⟩
    rw [beq_iff_eq] at he
    refine ⟨((z % 256).toNat : Int), ?_, ?_⟩
    · unfold zsOf lowL
      refine List.mem_map.2 ⟨(z % 256).toNat, List.mem_map.2 ⟨z, ?_, rfl⟩, rfl⟩
      rw [List.mem_filter, decide_eq_true_iff]
      exact ⟨hz, by omega⟩
    · rw [beq_iff_eq]; omega
/-- One chunk more, or none. -/
theorem ofTo_low_some {zs : List Int} {j : Nat} (hn : lowL zs j ≠ []) : ofTo (ofL zs) (j + 1) = ofTo (ofL zs) j ++ [(((j : Int), ((bestF (ofL (zsOf (lowL zs j))) : Nat) : Int), bestD (ofL (zsOf (lowL zs j)))) : Ch)] := by
  have hs := lowL_set zs j
  rw [ofTo_some, bestF_congr hs, bestD_congr hs]; rfl
  intro e
  obtain ⟨n, hm⟩ := List.exists_mem_of_ne_nil _ hn
  have h256 := lowL_small zs j n hm
  have : n ∈ vals (part (ofL zs) j) := by
    refine mem_valsTo.2 ⟨h256, ?_⟩
    rw [← hs n h256]
    unfold ofL zsOf
    rw [List.any_eq_true]
    exact ⟨(n : Int), List.mem_map.2 ⟨n, hm, rfl⟩, beq_self_eq_true _⟩
  rw [e] at this; cases this
theorem ofTo_low_none {zs : List Int} {j : Nat} (hn : lowL zs j = []) : ofTo (ofL zs) (j + 1) = ofTo (ofL zs) j := by
  refine ofTo_none ?_
  unfold vals valsTo
  rw [List.filter_eq_nil_iff]
  intro i hi
  have hi := List.mem_range.1 hi
  rw [← lowL_set zs j i hi, hn]
  exact Bool.false_ne_true

/-! ### Memory -/
def nilS : Value := .slice none 0 0
/-- The two first blocks, the rows of the array. -/
def MkC (w : World) (L : Nat → List Nat) (cs : Array Value) (W : World) : Prop :=
  cs.size = 256 ∧ Blk W w.heap.size 24 #[.slice none 0 0] ∧ Blk W (w.heap.size + 1) 55 cs ∧ (∀ j, j < 256 → W.ownsRow (w.heap.size + 2) 3 1 (cs.getD j nilS) (L j).length (intVs (L j))) ∧
  (∀ i j, i < 256 → j < 256 → i ≠ j → ∀ b, (cs.getD i nilS).ownBlock = some b → (cs.getD j nilS).ownBlock ≠ some b) ∧ Below w.heap.size w W
theorem MkC.under {w A B : World} {L : Nat → List Nat} {cs : Array Value} (h : MkC w L cs A) (hb : Below A.heap.size A B) : MkC w L cs B :=
  ⟨h.1, h.2.1.under hb, h.2.2.1.under hb, fun j hj => own_under (h.2.2.2.1 j hj) hb, h.2.2.2.2.1, h.2.2.2.2.2.trans (hb.mono h.2.2.2.2.2.size)⟩
theorem MkC.lt {w W : World} {L : Nat → List Nat} {cs : Array Value} (h : MkC w L cs W) : w.heap.size + 1 < W.heap.size := h.2.2.1.lt
theorem MkC.at_ {w W : World} {L : Nat → List Nat} {cs : Array Value} (h : MkC w L cs W) {j : Nat} (hj : j < 256) : W.cell? ⟨w.heap.size + 1, j, none⟩ = some (cs.getD j nilS) := by
  rw [h.2.2.1.cell j]
  have hj2 : j < cs.size := by rw [h.1]; exact hj
  rw [Array.getElem?_eq_getElem hj2, Array.getD_eq_getD_getElem?, Array.getElem?_eq_getElem hj2]; rfl
theorem arr_zero : Try.zeroCells55 = Array.replicate 256 nilS := by kernel_rfl
theorem getD_zero (j : Nat) : (Try.zeroCells55).getD j nilS = nilS := by
  rw [arr_zero, Array.getD_eq_getD_getElem?, Array.getElem?_replicate]
  split <;> rfl
theorem MkC.start (w : World) : MkC w (lowL []) Try.zeroCells55 ((w.alloc (.cells #[.slice none 0 0] 24)).alloc (.cells Try.zeroCells55 55)) := by
  have h2 := Blk.new (w.alloc (.cells #[.slice none 0 0] 24)) 55 Try.zeroCells55
  rw [World.size_alloc] at h2
  refine ⟨Try.zeroCells55_size, (Blk.new w _ _).alloc _, h2, fun j _ => ?_, fun i j _ _ _ b e => ?_, ((Below.refl _ w).alloc (Nat.le_refl _) _).alloc (by simp) _⟩
  · rw [getD_zero]; exact ⟨rfl, .inl ⟨rfl, rfl⟩⟩
  · rw [getD_zero] at e; cases e
/-- A number is laid into its row. -/
theorem MkC.put {w a w4 : World} {L L' : Nat → List Nat} {cs : Array Value} {key b : Nat} {v2 : Value} {o : Obj} (h : MkC w L cs a) (hk : key < 256) (hgr : (a.alloc o).grownBy w4 (cs.getD key nilS).ownBlock)
    (hown : w4.ownsRow (w.heap.size + 2) 3 1 v2 ((L key).length + 1) (intVs (L key) ++ [.int .i64 (b : Nat)])) (hob : v2.ownBlock = (cs.getD key nilS).ownBlock ∨ v2.ownBlock = some (a.alloc o).heap.size)
    (hL : ∀ j, L' j = if j = key then L key ++ [b] else L j) :
    w4.cell? ⟨w.heap.size + 1, key, none⟩ = some (cs.getD key nilS) ∧ w4.frozen? ⟨w.heap.size + 1, key, none⟩ = false ∧ MkC w L' (cs.setIfInBounds key v2) (w4.setCell ⟨w.heap.size + 1, key, none⟩ v2) := by
  have h2 := h.under ((Below.refl _ a).alloc (Nat.le_refl _) o)
  have hrow : ∀ k, (cs.getD key nilS).ownBlock = some k → w.heap.size + 2 ≤ k := fun k e => ((h.2.2.2.1 key hk).lt k e).1
  have hB : Below (w.heap.size + 2) (a.alloc o) w4 := (Below.refl _ _).grown hgr (by have := h2.lt; omega) hrow
  have b0 := h2.2.1.below hB (by omega)
  have b1 := h2.2.2.1.below hB (by omega)
  have hks : key < cs.size := by rw [h.1]; exact hk
  have hg : ∀ j, (cs.setIfInBounds key v2).getD j nilS = if j = key then v2 else cs.getD j nilS := fun j => by
    rw [Array.getD_eq_getD_getElem?, Array.getElem?_setIfInBounds]
    by_cases e : j = key
    · subst e; rw [if_pos rfl, if_pos rfl, if_pos hks]; rfl
    · rw [if_neg (fun e2 => e e2.symm), if_neg e, Array.getD_eq_getD_getElem?]
  refine ⟨?_, b1.frozen key, by simpa using h.1, b0.far (by simp) _, b1.set_ key v2, fun j hj => ?_, fun i j hi hj hne c e => ?_, ?_⟩
  · rw [b1.cell key, Array.getElem?_eq_getElem hks, Array.getD_eq_getD_getElem?, Array.getElem?_eq_getElem hks]; rfl
  · rw [hg j, hL j]
    by_cases e : j = key
    · subst e
      rw [if_pos rfl, if_pos rfl, List.length_append]
      have : intVs (L j ++ [b]) = intVs (L j) ++ [.int .i64 (b : Nat)] := by unfold intVs; simp
      rw [this]
      exact rows_far hown (by simp) v2
    · rw [if_neg e, if_neg e]
      refine rows_far ((h2.2.2.2.1 j hj).kept hgr ?_) (by simp) v2
      cases e1 : (cs.getD key nilS).ownBlock with
      | none =>
        cases e2 : (cs.getD j nilS).ownBlock with
        | none => exact .inl rfl
        | some c => exact .inr (by simp)
      | some c => exact .inr (fun e2 => h.2.2.2.2.1 key j hk hj (fun e3 => e e3.symm) c e1 e2)
  · rw [hg i] at e
    rw [hg j]
    have hlt : ∀ i, i < 256 → ∀ c, (cs.getD i nilS).ownBlock = some c → c < a.heap.size := fun i hi c e => ((h.2.2.2.1 i hi).lt c e).2
    by_cases e1 : i = key
    · subst e1
      rw [if_pos rfl] at e
      rw [if_neg (fun e2 => hne e2.symm)]
      rcases hob with h3 | h3
      · rw [h3] at e; exact h.2.2.2.2.1 i j hi hj hne c e
      · rw [h3] at e
        intro e4
        have := hlt j hj c e4
        simp at e; omega
    · rw [if_neg e1] at e
      by_cases e2 : j = key
      · subst e2
        rw [if_pos rfl]
        rcases hob with h3 | h3
        · rw [h3]; exact h.2.2.2.2.1 i j hi hj hne c e
        · rw [h3]
          intro e4
          have := hlt i hi c e
          simp at e4; omega
      · rw [if_neg e2]; exact h.2.2.2.2.1 i j hi hj hne c e
  · exact (h2.2.2.2.2.2.trans (hB.mono (by omega))).setCell (by simp) v2
theorem size_arr : (Try.prog.info? 55).map (·.size) = some 256 := by kernel_rfl
/-- The whole array. -/
theorem load_arr {w W : World} {L : Nat → List Nat} {cs : Array Value} (h : MkC w L cs W) : (loadVar 55 ⟨w.heap.size + 1, 0, none⟩).run Try.prog W = .ok (.agg cs) W :=
  run_loadVar_row W _ _ 55 cs (0, 0) _ h.2.2.1 Try.underlying55 rfl (by rw [h.1]; exact size_arr)
theorem index_arr {cs : Array Value} (hc : cs.size = 256) {j : Nat} (hj : j < 256) {v : Value} (hv : cs.getD j nilS = v) (W : World) : (Instr.index 55 (.agg cs) (.int .i64 (j : Nat))).run Try.prog W = .ok v W := by
  subst hv
  have hj2 : j < cs.size := by omega
  simp [Instr.index, asIntOf, run_underlying Try.underlying55, Go.part, Try.sizeOf25, Try.isAgg25, hj, Array.getElem?_eq_getElem hj2]
end Go.Proofs.Ytbfchlfagdhglaa
