import Derived.Test.YtbfchlfagdhglaaDoorMG13
import Derived.Laws.MakeOwn
import Derived.Laws.IdiomStrings
import Derived.Lib.BufferRead
import Derived.Maps.AppendAt
import Derived.Laws.AppendOwn
import Derived.Laws.OwnMore
import Derived.Lib.ConvBytes
import Derived.Laws.CopyRow
import Derived.WalkKit
import Derived.Lib.AppendStr
import Derived.Test.YtbfchlfagdhglaaDoorMG10
import Derived.Lib.SmallJoins
/- varint.put: the varints of numbers, one behind the other; Put. -/
namespace Go.Proofs.YtbfchlfagdhglaaDoor
open Go.RowKit
attribute [local go_sem] Oper.semAt_some

/-- The byte that is put for seven digits: 128 more, if others follow. -/
def putB (x : UInt8 × Bool) : Int := if x.2 then (x.1.toNat : Int) else bits .or .u8 (x.1.toNat : Int) 128
def putVs (l : List (UInt8 × Bool)) : List Value := l.map fun x => Value.int .u8 (putB x)
def byteVsV (l : List UInt8) : List Value := l.map fun b => Value.int .u8 (b.toNat : Int)
theorem or128 (r : Nat) (h : r < 128) : bits .or .u8 (r : Int) 128 = ((128 + r : Nat) : Int) := by
  show IntKind.u8.wrap ((BitVec.ofInt 8 r ||| BitVec.ofInt 8 128).toNat : Int) = _
  have e : r ||| 128 = 128 + r := by
    rw [Nat.or_comm, show (128 : Nat) = 2 ^ 7 * 1 from rfl, ← Nat.two_pow_add_eq_or_of_lt (by simpa using h)]
  rw [BitVec.toNat_or, BitVec.ofInt_natCast, BitVec.toNat_ofNat, show (BitVec.ofInt 8 128).toNat = 128 from rfl, Nat.mod_eq_of_lt (by omega), e]
  simp [IntKind.wrap, IntKind.bits, IntKind.signed]
  omega
theorem putVs_sevs (n : Nat) : putVs (sevs n) = byteVsV (vput n) := by
  induction n using Nat.strongRecOn with
  | _ n ih =>
    by_cases h : n < 128
    · rw [sevs_lo h, vput_lo h]; rfl
    · rw [sevs_hi h, vput_hi h]
      show Value.int .u8 (putB (UInt8.ofNat (n % 128), false)) :: putVs (sevs (n / 128)) = Value.int .u8 _ :: byteVsV (vput (n / 128))
      rw [ih (n / 128) (by omega)]
      congr 2
      show bits .or .u8 ((UInt8.ofNat (n % 128)).toNat : Int) 128 = _
      rw [ofNat_toNat _ (by omega), or128 _ (by omega), ofNat_toNat _ (by omega)]
theorem byteVs_appendV (a b : List UInt8) : byteVsV (a ++ b) = byteVsV a ++ byteVsV b := by simp [byteVsV]
theorem byteVs_lengthV (a : List UInt8) : (byteVsV a).length = a.length := by simp [byteVsV]
theorem putVs_length (a : List (UInt8 × Bool)) : (putVs a).length = a.length := by simp [putVs]
theorem putVs_snoc (a : List (UInt8 × Bool)) (x : UInt8 × Bool) : putVs (a ++ [x]) = putVs a ++ [Value.int .u8 (putB x)] := by simp [putVs]
theorem sevs_length (n : Nat) : (sevs n).length = (vput n).length := by rw [← putVs_length, putVs_sevs, byteVs_lengthV]
/-- The bytes of numbers. -/
def vputs (ns : List Nat) : List UInt8 := ns.flatMap vput
theorem vputs_snoc (ns : List Nat) (n : Nat) : vputs (ns ++ [n]) = vputs ns ++ vput n := by simp [vputs]
theorem vputs_length (ns : List Nat) (h : ∀ n ∈ ns, n < 18446744073709551616) : (vputs ns).length ≤ 10 * ns.length := by
  induction ns with
  | nil => simp [vputs]
  | cons n ns ih =>
    have h1 := length_put (h n (List.mem_cons_self ..))
    have h2 := ih (fun m hm => h m (List.mem_cons_of_mem _ hm))
    simp only [vputs, List.flatMap_cons, List.length_append, List.length_cons] at h2 ⊢
    omega

/-- Marks among the deferred calls, of loops over functions, none of which deferred anything. -/
def marks (Ds : List Nat) : List Deferred := Ds.map fun D => { target := .collected D, args := #[] }
def Shut (Ds : List Nat) (w : World) : Prop := Ds.Nodup ∧ ∀ D ∈ Ds, w.heap[D]? = some (.deferred (some []))
theorem Shut.keeps {Ds : List Nat} {w w' : World} (h : Shut Ds w) (hk : KeepsOthers w w') : Shut Ds w' := ⟨h.1, fun D hD => hk.same D _ (h.2 D hD) rfl⟩
theorem Shut.lt {Ds : List Nat} {w : World} (h : Shut Ds w) : ∀ D ∈ Ds, D < w.heap.size := fun D hD => (Array.getElem?_eq_some_iff.1 (h.2 D hD)).1
theorem Shut.cons {Ds : List Nat} {w : World} {D : Nat} (h : Shut Ds w) (hD : w.heap[D]? = some (.deferred (some []))) (hne : ∀ E ∈ Ds, E < D) : Shut (D :: Ds) w :=
  ⟨List.nodup_cons.2 ⟨fun hm => Nat.lt_irrefl _ (hne D hm), h.1⟩, fun E hE => by
    rcases List.mem_cons.1 hE with rfl | hE
    · exact hD
    · exact h.2 E hE⟩
theorem shut_own {β : Type} {Ds : List Nat} {B : Nat} (h : ∀ D ∈ Ds, D < B) : OwnFrom B (fun (_ : β) W => Shut Ds W) := fun _ X Y row hs hg hr =>
  ⟨hs.1, fun D hD => (hg.block D (Array.getElem?_eq_some_iff.1 (hs.2 D hD)).1 (fun e => by
    have h1 := h D hD
    have h2 := (hr D e.symm).1
    omega)).trans (hs.2 D hD)⟩
/-- A function leaves over its marks: its result stands, and below n₀ nothing turns. -/
theorem leaves_marks {n : Nat} {P : Program} {fn : Func} {tmps : Array Value} {R : Ending → World → Prop} {v : Value} {n₀ : Nat} (hv : ∀ w, (results fn tmps).run P w = .ok v w) :
    ∀ (Ds : List Nat) (w : World), Shut Ds w → (∀ D ∈ Ds, n₀ ≤ D) → (∀ w', Below n₀ w w' → R (.returned v) w') → LeavesInM Fence.wide n P fn tmps R (marks Ds) .returning w
  | [], w, _, _, hR => ⟨v, hv w, hR w (Below.refl _ _)⟩
  | D :: Ds, w, hS, hn, hR => by
    have hD := hS.2 D (List.mem_cons_self ..)
    have hnd := List.nodup_cons.1 hS.1
    refine ⟨by simp, .inl ⟨D, _, rfl, run_takeDeferred hD, leaves_marks hv Ds _ ⟨hnd.2, fun E hE => ?_⟩ (fun E hE => hn E (List.mem_cons_of_mem _ hE)) (fun w' hb => hR w' ?_)⟩⟩
    · have hne : E ≠ D := fun e => hnd.1 (e ▸ hE)
      exact (World.putObj_heap_other (by omega)).trans (hS.2 E (List.mem_cons_of_mem _ hE))
    · have hDn := hn D (List.mem_cons_self ..)
      exact ((Below.refl n₀ w).grown (grownBy_putObj' w D (.deferred none)) (by have := (Array.getElem?_eq_some_iff.1 hD).1; omega) (fun k e => by cases e; omega)).trans hb

theorem info_u8V : (Tryd.prog.info? 5).map (fun i => (i.zero, i.size, i.bytes)) = some (some (.int .u8 0), 1, 1) := by kernel_rfl

theorem conv_ownV {wr : World} {n₀ : Nat} {v : Value} {l : List UInt8} (h : wr.ownsRow n₀ 5 1 v l.length (byteVsV l)) : (convert 42 9 v).run Tryd.prog wr = .ok (.string ⟨l.toArray⟩) wr := by
  rcases h.2 with ⟨rfl, h0⟩ | ⟨g, cap, cur, rfl, _⟩
  · obtain rfl : l = [] := List.eq_nil_of_length_eq_zero h0
    exact Lib.run_convert_nil_bytes wr _ _ _ 0 Tryd.underlying42 Tryd.underlying5 Tryd.underlying9
  · refine run_convert_bytes_back wr _ _ _ _ cap l Tryd.underlying42 Tryd.underlying5 Tryd.underlying9 (fun j hj => ?_)
    exact h.cells (g := g) rfl j _ (by simp [byteVsV, List.getElem?_eq_getElem hj])
theorem nums_get {ns : List Nat} (h : ∀ n ∈ ns, n < 18446744073709551616) (k : Nat) : ns.getD k 0 < 18446744073709551616 := by
  rw [List.getD_eq_getElem?_getD]
  cases e : ns[k]? with
  | none => decide
  | some n => exact h n (List.mem_of_getElem? e)
theorem vputs_take {ns : List Nat} {k : Nat} (h : k < ns.length) : vputs (ns.take (k + 1)) = vputs (ns.take k) ++ vput (ns.getD k 0) := by
  rw [List.take_succ_eq_append_getElem h, vputs_snoc, List.getD_eq_getElem?_getD, List.getElem?_eq_getElem h]; rfl
/-- What holds at the head of put's loop. -/
def PutInv (b len cap : Nat) (ns : List Nat) (w : World) (a : Act) (wr : World) : Prop := ∃ (k : Nat) (Ds : List Nat) (u5 u15 u16 u17 u18 u19 u30 : Value), k ≤ len ∧
  a = { tmps := #[.slice (some ⟨b, 0, none⟩) len cap, undef, .string ⟨#[]⟩, .pointer (some ⟨w.heap.size + 1, 0, none⟩), undef, u5, undef, undef, .slice (some ⟨b, 0, none⟩) len cap, .int .i64 len, .int .i64 (2 * (len : Int)), .slice (some ⟨w.heap.size, 0, none⟩) 0 (2 * len), .slice (some ⟨b, 0, none⟩) len cap, .int .i64 len, .int .i64 k, u15, u16, u17, u18, u19, undef, undef, undef, undef, undef, undef, undef, undef, undef, undef, u30, undef, undef], defers := marks Ds } ∧ Shut Ds wr ∧ (∀ D ∈ Ds, w.heap.size ≤ D) ∧
  (∃ v, Boxed wr (w.heap.size + 1) 42 v ∧ wr.ownsRow w.heap.size 5 1 v (vputs (ns.take k)).length (byteVsV (vputs (ns.take k)))) ∧ Below w.heap.size w wr

set_option maxRecDepth 100000 in
set_option maxHeartbeats 2000000 in
theorem put_anyV (b len cap : Nat) (ns : List Nat) (hlen : ns.length = len) (hns : ∀ n ∈ ns, n < 18446744073709551616) (hl : len ≤ 2000) (w : World) (hb : b < w.heap.size) (hc : ∀ j, j < len → w.cell? ⟨b, j, none⟩ = some (.int .u64 (ns.getD j 0 : Nat))) :
    Calls Tryd.prog 29 #[.slice (some ⟨b, 0, none⟩) len cap] w fun e w' => e = .returned (.string ⟨(vputs ns).toArray⟩) ∧ Below w.heap.size w w' := by
  obtain ⟨i0, hi, hz0, hz1, hz2⟩ := info_parts info_u8V
  have hmk : ∀ W : World, (Instr.makeSlice 42 (.int .i64 0) (.int .i64 (2 * (len : Int)))).run Tryd.prog W = .ok (.slice (some ⟨W.heap.size, 0, none⟩) 0 (2 * len)) (W.alloc (.cells (madeCells #[.int .u8 0] (2 * len)) 5)) := fun W => by
    have h := run_make (P := Tryd.prog) W 42 5 i0 (.int .u8 0) Tryd.underlying42 hi hz0 .i64 .i64 0 (2 * (len : Int)) (by omega) (by omega) (by rw [hz2]; omega) (by omega)
    rw [hz1] at h
    rw [h]
    have e : (2 * (len : Int)).toNat = 2 * len := by omega
    rw [e]
    simp [Value.cells]
  have HC := Lib.hid hc; have HN := Lib.hid hns; have HL := Lib.hid hlen
  have HI := Lib.hid hi; have HZ0 := Lib.hid hz0; have HZ1 := Lib.hid hz1; have HZ2 := Lib.hid hz2
  clear hc hns hlen hi hz0 hz1 hz2
  refine (callsIn_wide (n := 4)).1 ?_
  refine callsIn_of_wp_marks Tryd.func29 rfl trivial ?_ rfl
  simp only [Tryd.ntmps29, List.size_toArray, List.length_cons, List.length_nil, Nat.reduceAdd, Nat.reduceSub, Array.replicate_succ, Array.replicate_zero, List.push_toArray, List.append_toArray, List.nil_append, List.cons_append]
  gi_wp2
  refine wpIn_loop (PutInv b len cap ns w) (fun a _ => len - (intOf (a.tmps.getD 14 undef)).toNat) ?start ?round
  case start =>
    refine ⟨0, [], undef, undef, undef, undef, undef, undef, undef, Nat.zero_le _, rfl, ⟨List.nodup_nil, fun D h => by cases h⟩, (fun D h => by cases h), ⟨_, (by simpa using Boxed.new (w.alloc (.cells (madeCells #[.int .u8 0] (2 * len)) 5)) 42 (.slice (some ⟨w.heap.size, 0, none⟩) 0 (2 * len))), ?_⟩, ?_⟩
    · exact (World.ownsRow_made (base := w.heap.size) (e := 5) (size := 1) w (madeCells #[.int .u8 0] (2 * len)) (2 * len) (Nat.le_refl _) (by unfold maxLen; omega) (by simp [madeCells])).alloc _
    · exact ((Below.refl _ w).alloc (Nat.le_refl _) _).alloc (by simp) _
  case round =>
    rintro a wr ⟨k, Ds, u5, u15, u16, u17, u18, u19, u30, hk, rfl, hSh, hDs, ⟨v, hv, hrow⟩, hB⟩
    by_cases hlt : k < len
    · have hck : wr.cell? ⟨b, k, none⟩ = some (.int .u64 (ns.getD k 0 : Nat)) := (hB.cell (p := ⟨b, k, none⟩) hb).trans (HC.out k hlt)
      have hm64 : ns.getD k 0 < 18446744073709551616 := nums_get HN.out k
      have HS : Hid (vputs (ns.take (k + 1)) = vputs (ns.take k) ++ vput (ns.getD k 0)) := Lib.hid (vputs_take (by rw [HL.out]; exact hlt))
      have HM : (vputs (ns.take k)).length ≤ 20000 := by
        have h1 := vputs_length (ns.take k) (fun n hn => HN.out n (List.mem_of_mem_take hn))
        simp at h1
        omega
      generalize ns.getD k 0 = m at *
      gi_wp2_with (refine ⟨trivial, ?_⟩; gi_at_call 40; refine (callsIn_wide.2 (sevens_any _ _)).mono ?_; rintro e w' ⟨rfl, rfl⟩)
      have hW0 : Below wr.heap.size wr (wr.alloc (.cells #[.int .u64 m] 44)) := (Below.refl _ wr).alloc (Nat.le_refl _) _
      have hbx := (Boxed.new wr 44 (.int .u64 m)).cell
      have hv0 := hv.alloc (.cells #[.int .u64 m] 44)
      have hrow0 := hrow.alloc (.cells #[.int .u64 m] 44)
      have hSh0 : Shut Ds (wr.alloc (.cells #[.int .u64 m] 44)) := hSh.keeps (KeepsOthers.alloc _ _)
      have hB0 := hB.alloc hB.size (.cells #[.int .u64 m] 44)
      have hsz : (wr.alloc (.cells #[.int .u64 m] 44)).heap.size = wr.heap.size + 1 := by simp
      have hDl := hSh0.lt
      have hwn := hB.size
      generalize wr.alloc (.cells #[.int .u64 m] 44) = W0 at *
      refine wpIn_rangeFunc_ownF (n := 4) rfl (by decide) (gf := 55) (lb := #[.pointer (some ⟨wr.heap.size, 0, none⟩)]) rfl trivial (enters_of Tryd.func55 (by kernel_rfl) rfl)
        (sevens_stops 3 (by decide) wr.heap.size w.heap.size m hm64 W0 (by omega) hbx) belowK_t (belowK_b (by omega)) (Below.refl _ _) (fun _ => rfl)
        (fun pre W => ((∃ v, Boxed W (w.heap.size + 1) 42 v ∧ W.ownsRow w.heap.size 5 1 v ((vputs (ns.take k)).length + pre.length) (byteVsV (vputs (ns.take k)) ++ putVs pre) ∧ True) ∧ Shut Ds W) ∧ Below w.heap.size w W)
        (fun _ _ _ => False)
        (OwnFrom.and (OwnFrom.and (Own.from (holdsRow_own w.heap.size (w.heap.size + 1) 42 5 1 (fun pre => (vputs (ns.take k)).length + pre.length) (fun pre => byteVsV (vputs (ns.take k)) ++ putVs pre) (fun _ _ => True)) _) (shut_own hDl)) (ownFrom_below (Nat.le_refl _) (by omega)))
        (fun _ _ _ _ _ hs _ _ => hs)
        ⟨⟨⟨v, hv0, by simpa [putVs] using hrow0, trivial⟩, hSh0⟩, hB0⟩
        (fun x => { tmps := #[.slice (some ⟨b, 0, none⟩) len cap, undef, .string ⟨#[]⟩, .pointer (some ⟨w.heap.size + 1, 0, none⟩), undef, .int .u64 m, .int .u8 (x.1.toNat : Int), .bool x.2, .slice (some ⟨b, 0, none⟩) len cap, .int .i64 len, .int .i64 (2 * (len : Int)), .slice (some ⟨w.heap.size, 0, none⟩) 0 (2 * len), .slice (some ⟨b, 0, none⟩) len cap, .int .i64 len, .int .i64 k, .bool true, .pointer (some ⟨b, k, none⟩), .int .u64 m, .int .u64 m, .func (.func 55) #[] #[.pointer (some ⟨wr.heap.size, 0, none⟩)], .int .u8 (x.1.toNat : Int), .bool x.2, undef, undef, undef, undef, undef, undef, undef, undef, u30, undef, undef], defers := [] }) ?assign ?body ?done ?stop
      case assign =>
        intro l x W K hK
        gi_wp2
        exact hK
      case body =>
        rintro l pre ⟨d, la⟩ W ⟨⟨⟨v, hv, hrow, _⟩, hSh⟩, hB⟩ hlt10
        have hc := hv.cell
        cases la
        · dsimp only
          gi_wp2_with (gi_at_builtin; refine wpListIn_append_own _ rfl _ _ 42 rfl w.heap.size 5 i0 (.int .u8 0) 1 1 Tryd.underlying42 HI.out HZ0.out HZ1.out HZ2.out rfl (by decide) _ _ _ rfl (hrow.alloc _) ⟨W.heap.size, 0, none⟩ 1 1 [.int .u8 (bits .or .u8 (d.toNat : Int) 128)] rfl rfl (cell_one_new _ _ _) (by simp [Value.oneCell']) (by unfold maxLen; omega) (by omega) (by have := hB.size; simp; omega) ?_; intro v' w1 hown' hgrow _; obtain ⟨g', cap', rfl⟩ := ownsRow_succ hown'; obtain ⟨hv1, hv2, hr2, hk2, hb2⟩ := hv.appended (by decide) hrow hB.size (by omega) hown' hgrow; have hc1 := hv1.cell; have hf1 := hv1.frozen)
          exact ⟨hk2, hb2, ⟨⟨_, hv2, by rw [putVs_snoc]; simpa [Nat.add_assoc, putB] using hr2, trivial⟩, hSh.keeps hk2⟩, hB.trans hb2⟩
        · dsimp only
          gi_wp2_with (gi_at_builtin; refine wpListIn_append_own _ rfl _ _ 42 rfl w.heap.size 5 i0 (.int .u8 0) 1 1 Tryd.underlying42 HI.out HZ0.out HZ1.out HZ2.out rfl (by decide) _ _ _ rfl (hrow.alloc _) ⟨W.heap.size, 0, none⟩ 1 1 [.int .u8 (d.toNat : Int)] rfl rfl (cell_one_new _ _ _) (by simp [Value.oneCell']) (by unfold maxLen; omega) (by omega) (by have := hB.size; simp; omega) ?_; intro v' w1 hown' hgrow _; obtain ⟨g', cap', rfl⟩ := ownsRow_succ hown'; obtain ⟨hv1, hv2, hr2, hk2, hb2⟩ := hv.appended (by decide) hrow hB.size (by omega) hown' hgrow; have hc1 := hv1.cell; have hf1 := hv1.frozen)
          exact ⟨hk2, hb2, ⟨⟨_, hv2, by rw [putVs_snoc]; simpa [Nat.add_assoc, putB] using hr2, trivial⟩, hSh.keeps hk2⟩, hB.trans hb2⟩
      case done =>
        rintro D ys W hD rfl ⟨⟨⟨v, hv, hrow, _⟩, hSh⟩, hB⟩ hK
        gi_wp2
        refine ⟨⟨k + 1, D :: Ds, _, _, _, _, _, _, _, by omega, rfl, hSh.cons hK (fun E hE => by have := hDl E hE; omega), ?_, ⟨v, hv, ?_⟩, hB⟩, ?_⟩
        · intro E hE
          rcases List.mem_cons.1 hE with rfl | hE
          · omega
          · exact hDs E hE
        · rw [HS.out, byteVs_appendV, ← putVs_sevs, List.length_append, ← sevs_length]
          exact hrow
        · simp [intOf]; omega
      case stop =>
        rintro D c pre W _ _ h _
        exact h.elim
    · have hkl : k = len := by omega
      have hcv := conv_ownV hrow
      rw [hkl, ← HL.out, List.take_length] at hcv
      have hc := hv.cell
      have hge : ¬ (k : Int) < len := by omega
      clear hkl
      gi_wp2
      exact leaves_marks (v := .string ⟨(vputs ns).toArray⟩) (fun w => results_tmp (t := 2) rfl _ _ _) Ds wr hSh hDs (fun w' hb => ⟨rfl, hB.trans hb⟩)

set_option maxRecDepth 100000 in
set_option maxHeartbeats 1000000 in
/-- Put: the varint of n. -/
theorem put1_any (n : Nat) (h : n < 18446744073709551616) (w : World) :
    Calls Tryd.prog 17 #[.int .u64 n] w fun e w' => e = .returned (.string ⟨(vput n).toArray⟩) ∧ Below w.heap.size w w' := by
  have hp := put_anyV w.heap.size 1 1 [n] rfl (by simpa using h) (by decide) (w.alloc (.cells #[.int .u64 n] 44)) (by simp) (fun j hj => by
    obtain rfl : j = 0 := by omega
    simp)
  rw [show vputs [n] = vput n by simp [vputs]] at hp
  have HP := Lib.hid hp
  clear hp
  go_enter Tryd.func17, Tryd.ntmps17
  go_wp2_with (go_at_call 29; refine HP.out.mono ?_; rintro e w' ⟨rfl, hb⟩)
  go_ret
  exact ⟨rfl, ((Below.refl _ w).alloc (Nat.le_refl _) _).trans (hb.mono (by simp))⟩
end Go.Proofs.YtbfchlfagdhglaaDoor
/- append onto the bytes of a string: '[]byte(s)' leaves a row that bears a mark behind its cells; nothing within them is frozen. The library's laws of append want a row without a mark. -/
namespace Go.Proofs.YtbfchlfagdhglaaDoor
open Go Go.RowKit

/-- None of the first n cells is frozen. -/
def Free (fz : Nat × Nat) (n : Nat) : Prop := ∀ i, i < n → (decide (fz.1 ≤ i) && decide (i < fz.2)) = false

theorem store_free (P : Program) (g o : Nat) (t : TypeId) (fz : Nat × Nat) : ∀ (vs : List Value) (i : Nat) (cur : Array Value) (w : World), w.heap[g]? = some (.cells cur t fz) → Free fz cur.size → o + i + vs.length ≤ cur.size → (∀ v ∈ vs, v.oneCell' = true) →
    (storeCells ⟨g, o, none⟩ vs i).run P w = .ok () (w.setRow g (cur.toList.take (o + i) ++ vs ++ cur.toList.drop (o + i + vs.length)).toArray)
  | [], i, cur, w, hg, _, _, _ => by
    rw [storeCells, List.append_nil, List.length_nil, Nat.add_zero, List.take_append_drop, Array.toArray_toList, setRow_self w g cur t fz hg]
    rfl
  | v :: rest, i, cur, w, hg, hf, hl, h1 => by
    rw [List.length_cons] at hl
    have hi : o + i < cur.size := by omega
    have hadd : (⟨g, o, none⟩ : Addr).add i = ⟨g, o + i, none⟩ := by unfold Addr.add; split <;> simp_all
    have hcell : w.cell? ⟨g, o + i, none⟩ = some cur[o + i] := by simp [World.cell?, hg, hi]
    have hfro : w.frozen? ⟨g, o + i, none⟩ = false := by
      have := hf (o + i) hi
      unfold World.frozen?
      rw [hg]
      exact this
    have hst : (store ((⟨g, o, none⟩ : Addr).add i) v).run P w = .ok () (w.setRow g (cur.setIfInBounds (o + i) v)) := by
      rw [hadd, run_store P w _ v _ (h1 v (List.mem_cons_self ..)), hcell]
      simp [hfro, setCell_eq_setRow w g (o + i) cur t fz v hg]
    have ih := store_free P g o t fz rest (i + 1) (cur.setIfInBounds (o + i) v) (w.setRow g (cur.setIfInBounds (o + i) v)) (setRow_heap w g cur _ t _ hg) (by rw [Array.size_setIfInBounds]; exact hf) (by rw [Array.size_setIfInBounds]; omega) (fun x hx => h1 x (List.mem_cons_of_mem _ hx))
    simp only [storeCells, Sem.run_bind, hst, Result.andThen_ok, ih, setRow_setRow]
    congr 3
    have e := list_seg_step cur.toList (o + i) v rest (by rw [Array.length_toList]; omega)
    simpa [Array.toList_setIfInBounds, Nat.add_assoc] using e

/-- The slice owns these cells (one each), in a row of which nothing is frozen. -/
def OwnsM (w : World) (base : Nat) (e : TypeId) (v : Value) (n : Nat) (xs : List Value) : Prop :=
  xs.length = n ∧ ∃ g cap cur fz, v = .slice (some ⟨g, 0, none⟩) n cap ∧ base ≤ g ∧ w.heap[g]? = some (.cells cur e fz) ∧ Free fz cur.size ∧ n ≤ cap ∧ cap ≤ maxLen ∧ cur.size = cap ∧ cur.toList.take n = xs
section
variable {w w' : World} {base n : Nat} {e : TypeId} {v : Value} {xs : List Value}
theorem OwnsM.kept {row : Option Nat} (h : OwnsM w base e v n xs) (hg : w.grownBy w' row) (hne : v.ownBlock ≠ row) : OwnsM w' base e v n xs := by
  obtain ⟨h1, g, cap, cur, fz, rfl, hb, hgg, rest⟩ := h
  refine ⟨h1, g, cap, cur, fz, rfl, hb, ?_, rest⟩
  rw [hg.block g (Array.getElem?_eq_some_iff.1 hgg).1 hne]
  exact hgg
theorem OwnsM.under (h : OwnsM w base e v n xs) (hb : Below w.heap.size w w') : OwnsM w' base e v n xs := by
  obtain ⟨h1, g, cap, cur, fz, rfl, hb2, hgg, rest⟩ := h
  exact ⟨h1, g, cap, cur, fz, rfl, hb2, (hb.block g (Array.getElem?_eq_some_iff.1 hgg).1).trans hgg, rest⟩
theorem OwnsM.lt (h : OwnsM w base e v n xs) : ∀ k, v.ownBlock = some k → base ≤ k ∧ k < w.heap.size := by
  obtain ⟨h1, g, cap, cur, fz, rfl, hb, hgg, _⟩ := h
  intro k hk
  obtain rfl : g = k := by simpa [Value.ownBlock] using hk
  exact ⟨hb, (Array.getElem?_eq_some_iff.1 hgg).1⟩
theorem OwnsM.cells (h : OwnsM w base e v n xs) : ∃ g cap, v = .slice (some ⟨g, 0, none⟩) n cap ∧ base ≤ g ∧ g < w.heap.size ∧ ∀ j u, xs[j]? = some u → w.cell? ⟨g, j, none⟩ = some u := by
  obtain ⟨h1, g, cap, cur, fz, rfl, hb, hgg, _, _, _, _, ht⟩ := h
  refine ⟨g, cap, rfl, hb, (Array.getElem?_eq_some_iff.1 hgg).1, fun j u hu => ?_⟩
  rw [cell_of_row w g j cur e fz hgg]
  rw [← ht, List.getElem?_take] at hu
  split at hu
  · simpa using hu
  · cases hu
end

section
variable {P : Program} (w : World)
/-- The law of append. -/
theorem run_append_ownM (base : Nat) (t ty e : TypeId) (i : TypeInfo) (z : Value) (bytes : Nat) (ht : P.underlying t = some (.slice e)) (hi : P.info? e = some i) (hz : i.zero = some z)
    (hsize : i.size = 1) (hby : i.bytes = bytes) (hzs : z.cells.size = 1) (v : Value) (n : Nat) (xs : List Value) (hown : OwnsM w base e v n xs)
    (a : Addr) (m c : Nat) (news : List Value) (hl : news.length = m) (hnews : ∀ j u, news[j]? = some u → w.cell? (a.add j) = some u) (h1 : ∀ u ∈ news, u.oneCell' = true)
    (h63 : n + m ≤ maxLen) (hbytes : (n + m) * bytes ≤ 140737488355328) (hbase : base ≤ w.heap.size) :
    ∃ v' w', (Builtin.append_ #[t, t] ty #[v, .slice (some a) m c]).run P w = .ok v' w' ∧ OwnsM w' base e v' (n + m) (xs ++ news) ∧ w.grownBy w' v.ownBlock := by
  obtain ⟨hx, g, cap, cur, fz, rfl, hbg, hg, hfr, hnc, hcm, hcs, htake⟩ := hown
  have hlen : (xs ++ news).length = n + m := by rw [List.length_append, hx, hl]
  by_cases hroom : n + m ≤ cap
  · have hf := run_firstCells_some (P := P) w i.size m a m c news (by rw [hl, hsize, Nat.mul_one]) hnews
    have hst := store_free P g n e fz news 0 cur w hg hfr (by omega) h1
    simp only [Nat.add_zero] at hst
    refine ⟨.slice (some ⟨g, 0, none⟩) (n + m) cap, w.setRow g (cur.toList.take n ++ news ++ cur.toList.drop (n + news.length)).toArray, ?_, ⟨hlen, g, cap, _, fz, rfl, hbg, setRow_heap w g cur _ e _ hg, ?_, hroom, hcm, ?_, ?_⟩, ⟨rfl, rfl, rfl, by simp, fun k _ hk => setRow_other w g k _ (fun e => hk (by simp [Value.ownBlock, e]))⟩⟩
    · rw [hsize] at hf
      simp [Builtin.append_, run_underlying ht, sizeOf, typeInfo, hi, hsize, Builtin.lenOf, hroom, hf, Addr.add_lit, hst]
    · have e : (cur.toList.take n ++ news ++ cur.toList.drop (n + news.length)).toArray.size = cur.size := by
        simp only [List.size_toArray, List.length_append, List.length_take, List.length_drop, Array.length_toList]; omega
      rw [e]; exact hfr
    · simp only [List.size_toArray, List.length_append, List.length_take, List.length_drop, Array.length_toList]; omega
    · rw [htake]
      show ((xs ++ news) ++ _).take (n + m) = _
      rw [← hlen]
      exact List.take_left
  · have holds : ∀ j u, xs[j]? = some u → w.cell? ((⟨g, 0, none⟩ : Addr).add j) = some u := fun j u hu => by
      have hadd : (⟨g, 0, none⟩ : Addr).add j = ⟨g, j, none⟩ := by unfold Addr.add; split <;> simp_all
      rw [hadd, cell_of_row w g j cur e fz hg]
      rw [← htake, List.getElem?_take] at hu
      split at hu
      · simpa using hu
      · cases hu
    have hmx : n + m ≤ 9223372036854775807 := by simp only [maxLen] at h63; omega
    have hr := run_append_grow (P := P) w t ty e i z ht hi hz ⟨g, 0, none⟩ n cap xs (by rw [hsize, Nat.mul_one]; exact hx) holds a m c news (by rw [hl, hsize, Nat.mul_one]) hnews (by omega) (by omega) (by rw [hby]; exact growslice_fits (by omega) hbytes)
    have hge := grownCap_ge w (n + m) cap e
    have hcm2 : grownCap w (n + m) cap e ≤ maxLen := grownCap_le_maxLen w (n + m) cap e h63
    refine ⟨_, _, hr, ⟨hlen, w.heap.size, _, _, (0, 0), rfl, hbase, heap_alloc_new w.drew _, (fun k _ => by simp), hge, hcm2, ?_, ?_⟩, ⟨rfl, rfl, rfl, by simp, fun k hk _ => Below.heap_alloc w.drew _ k (by simpa using hk)⟩⟩
    · simp only [Array.size_append, List.size_toArray, size_zeroCells, hzs, hx, hl]; omega
    · simp only [Array.toList_append, List.append_assoc]
      rw [← List.append_assoc, ← hlen]
      exact List.take_left

/-- At the list of a plain region's operations. -/
theorem wpList_append_ownM {ops : Array Oper} {rest : List Oper} {o : Oper} {a : Act} {Q : Exit → Act → World → Prop} (hgd : o.guard = none) (s x : Operand) (t : TypeId)
    (ho : o.op = .call { callee := .builtin .append, args := #[s, x], argTypes := #[t, t] })
    (base : Nat) (e : TypeId) (i : TypeInfo) (z : Value) (bytes : Nat) (ht : P.underlying t = some (.slice e)) (hi : P.info? e = some i) (hz : i.zero = some z)
    (hsize : i.size = 1) (hby : i.bytes = bytes) (hzs : z.cells.size = 1) (v : Value) (n : Nat) (xs : List Value) (hs : a.eval s = v) (hown : OwnsM w base e v n xs)
    (ad : Addr) (m c : Nat) (news : List Value) (hx : a.eval x = .slice (some ad) m c) (hl : news.length = m) (hnews : ∀ j u, news[j]? = some u → w.cell? (ad.add j) = some u) (h1 : ∀ u ∈ news, u.oneCell' = true)
    (h63 : n + m ≤ maxLen) (hbytes : (n + m) * bytes ≤ 140737488355328) (hbase : base ≤ w.heap.size)
    (h : ∀ v' w', OwnsM w' base e v' (n + m) (xs ++ news) → w.grownBy w' v.ownBlock → wpList P ops Q rest (a.put o.dst v') w') : wpList P ops Q (o :: rest) a w := by
  refine wpList_plain hgd fun K hK => ?_
  obtain ⟨v', w', hr, h2, h3⟩ := run_append_ownM (P := P) w base t o.type e i z bytes ht hi hz hsize hby hzs v n xs hown ad m c news hl hnews h1 h63 hbytes hbase
  unfold Oper.wp execOp
  simp only [ho, resolve, invoke, builtin, Sem.run_bind, Sem.run_pure, Result.andThen_ok, List.map_toArray, List.map_cons, List.map_nil, hs, hx, hr]
  exact hK _ _ (h v' w' h2 h3)
end

/-- '[]byte(s)' owns the bytes. -/
theorem owns_bytes (w : World) (e : TypeId) (l : List UInt8) (hl : l.length ≤ maxLen) :
    OwnsM (Lib.bytesWorld w e ⟨l.toArray⟩) w.heap.size e (.slice (some ⟨w.heap.size, 0, none⟩) l.length (grownCap w l.length 0 e)) l.length (l.map fun b => Value.int .u8 (b.toNat : Int)) := by
  have hge := grownCap_ge w l.length 0 e
  refine ⟨by simp, w.heap.size, _, _, _, rfl, Nat.le_refl _, Lib.bytesWorld_at_new w e ⟨l.toArray⟩, fun i hi => by simp; omega, hge, grownCap_le_maxLen w l.length 0 e hl, ?_, ?_⟩
  · unfold Lib.bytesCells
    rw [Array.size_append, Array.size_map, Array.size_replicate]
    show l.toArray.size + (grownCap w l.toArray.size 0 e - l.toArray.size) = _
    rw [List.size_toArray]
    omega
  · unfold Lib.bytesCells
    rw [Array.toList_append, Array.toList_map]
    show ((l.toArray.toList.map _) ++ _).take _ = _
    rw [List.take_append_of_le_length (by simp), List.take_of_length_le (by simp)]
end Go.Proofs.YtbfchlfagdhglaaDoor
/- append of a string's bytes onto the bytes of a string: the row bears a mark (LMark). -/
namespace Go.Proofs.YtbfchlfagdhglaaDoor
open Go Go.RowKit

section
variable {P : Program} (w : World)
theorem run_append_ownM_string (base : Nat) (t u ty e : TypeId) (i : TypeInfo) (ht : P.underlying t = some (.slice e)) (hu : P.underlying u = some .string) (hi : P.info? e = some i) (hz : i.zero = some (.int .u8 0))
    (hsize : i.size = 1) (hby : i.bytes = 1) (v : Value) (n : Nat) (xs : List Value) (hown : OwnsM w base e v n xs) (s : ByteArray)
    (h63 : n + s.size ≤ maxLen) (hbytes : n + s.size ≤ 140737488355328) (hbase : base ≤ w.heap.size) :
    ∃ v' w', (Builtin.append_ #[t, u] ty #[v, .string s]).run P w = .ok v' w' ∧ OwnsM w' base e v' (n + s.size) (xs ++ Lib.strCells s) ∧ w.grownBy w' v.ownBlock := by
  obtain ⟨hx, g, cap, cur, fz, rfl, hbg, hg, hfr, hnc, hcm, hcs, htake⟩ := hown
  have hsl := Lib.strCells_length s
  have hlen : (xs ++ Lib.strCells s).length = n + s.size := by rw [List.length_append, hx, hsl]
  by_cases hroom : n + s.size ≤ cap
  · have hf := Lib.run_firstCells_string (P := P) w 1 s
    have hst := store_free P g n e fz (Lib.strCells s) 0 cur w hg hfr (by omega) (Lib.strCells_oneCell s)
    simp only [Nat.add_zero, hsl] at hst
    refine ⟨.slice (some ⟨g, 0, none⟩) (n + s.size) cap, w.setRow g (cur.toList.take n ++ Lib.strCells s ++ cur.toList.drop (n + s.size)).toArray, ?_, ⟨hlen, g, cap, _, fz, rfl, hbg, setRow_heap w g cur _ e _ hg, ?_, hroom, hcm, ?_, ?_⟩, ⟨rfl, rfl, rfl, by simp, fun k _ hk => setRow_other w g k _ (fun e => hk (by simp [Value.ownBlock, e]))⟩⟩
    · simp [Builtin.append_, run_underlying ht, run_underlying hu, sizeOf, typeInfo, hi, hsize, Builtin.lenOf, hroom, hf, Addr.add_lit, hst]
    · have e : (cur.toList.take n ++ Lib.strCells s ++ cur.toList.drop (n + s.size)).toArray.size = cur.size := by
        simp only [List.size_toArray, List.length_append, List.length_take, List.length_drop, Array.length_toList, hsl]; omega
      rw [e]; exact hfr
    · simp only [List.size_toArray, List.length_append, List.length_take, List.length_drop, Array.length_toList, hsl]; omega
    · rw [htake]
      show ((xs ++ Lib.strCells s) ++ _).take (n + s.size) = _
      rw [← hlen]
      exact List.take_left
  · have holds : ∀ j u, xs[j]? = some u → w.cell? ((⟨g, 0, none⟩ : Addr).add j) = some u := fun j u hu => by
      have hadd : (⟨g, 0, none⟩ : Addr).add j = ⟨g, j, none⟩ := by unfold Addr.add; split <;> simp_all
      rw [hadd, cell_of_row w g j cur e fz hg]
      rw [← htake, List.getElem?_take] at hu
      split at hu
      · simpa using hu
      · cases hu
    have hmx : n + s.size ≤ 9223372036854775807 := by simp only [maxLen] at h63; omega
    have hr := Lib.run_append_grow_string (P := P) w t u ty e i (.int .u8 0) ht hu hi hz ⟨g, 0, none⟩ n cap xs (by rw [hsize, Nat.mul_one]; exact hx) holds s (by omega) (by omega) (by rw [hby]; exact growslice_fits (by omega) (by omega))
    have hge := grownCap_ge w (n + s.size) cap e
    have hcm2 : grownCap w (n + s.size) cap e ≤ maxLen := grownCap_le_maxLen w (n + s.size) cap e h63
    have hz1 : (Value.int IntKind.u8 0).cells.size = 1 := rfl
    refine ⟨_, _, hr, ⟨hlen, w.heap.size, _, _, (0, 0), rfl, hbase, heap_alloc_new w.drew _, (fun k _ => by simp), hge, hcm2, ?_, ?_⟩, ⟨rfl, rfl, rfl, by simp, fun k hk _ => Below.heap_alloc w.drew _ k (by simpa using hk)⟩⟩
    · simp only [Array.size_append, List.size_toArray, size_zeroCells, hz1, hx, hsl]; omega
    · simp only [Array.toList_append, List.append_assoc]
      rw [← List.append_assoc, ← hlen]
      exact List.take_left

/-- At the list of a plain region's operations. -/
theorem wpList_append_ownM_string {ops : Array Oper} {rest : List Oper} {o : Oper} {a : Act} {Q : Exit → Act → World → Prop} (hgd : o.guard = none) (s x : Operand) (t u : TypeId)
    (ho : o.op = .call { callee := .builtin .append, args := #[s, x], argTypes := #[t, u] })
    (base : Nat) (e : TypeId) (i : TypeInfo) (ht : P.underlying t = some (.slice e)) (hu : P.underlying u = some .string) (hi : P.info? e = some i) (hz : i.zero = some (.int .u8 0))
    (hsize : i.size = 1) (hby : i.bytes = 1) (v : Value) (n : Nat) (xs : List Value) (hs : a.eval s = v) (hown : OwnsM w base e v n xs)
    (b : ByteArray) (hx : a.eval x = .string b)
    (h63 : n + b.size ≤ maxLen) (hbytes : n + b.size ≤ 140737488355328) (hbase : base ≤ w.heap.size)
    (h : ∀ v' w', OwnsM w' base e v' (n + b.size) (xs ++ Lib.strCells b) → w.grownBy w' v.ownBlock → wpList P ops Q rest (a.put o.dst v') w') : wpList P ops Q (o :: rest) a w := by
  refine wpList_plain hgd fun K hK => ?_
  obtain ⟨v', w', hr, h2, h3⟩ := run_append_ownM_string (P := P) w base t u o.type e i ht hu hi hz hsize hby v n xs hown b h63 hbytes hbase
  unfold Oper.wp execOp
  simp only [ho, resolve, invoke, builtin, Sem.run_bind, Sem.run_pure, Result.andThen_ok, List.map_toArray, List.map_cons, List.map_nil, hs, hx, hr]
  exact hK _ _ (h v' w' h2 h3)
end
end Go.Proofs.YtbfchlfagdhglaaDoor
/- roar.Encode. -/
namespace Go.Proofs.YtbfchlfagdhglaaDoor
open Go.RowKit

theorem ok3_right {r : List Ch} (h : RightZ r) : Ok3 r := by
  intro c hc
  rw [h.2] at hc
  obtain ⟨j, _, rfl, _⟩ := mem_ofTo hc
  have := best_32 (part (setZ r) j)
  show (bestD (part (setZ r) j)).length ≤ 300
  omega
theorem u8_val (z : Int) : ((u8 z).toNat : Int) = z % 256 := by
  unfold u8
  rw [UInt8.toNat_ofNat']
  omega
theorem conv_ownM {wr : World} {n₀ n : Nat} {v : Value} {l : List UInt8} (h : OwnsM wr n₀ 5 v n (byteVs l)) : (convert 42 9 v).run Tryd.prog wr = .ok (.string ⟨l.toArray⟩) wr := by
  have hn : l.length = n := by rw [← h.1]; simp [byteVs]
  obtain ⟨g, cap, rfl, _, _, hc⟩ := h.cells
  subst hn
  refine run_convert_bytes_back wr _ _ _ _ cap l Tryd.underlying42 Tryd.underlying5 Tryd.underlying9 (fun j hj => ?_)
  rw [show (⟨g, 0, none⟩ : Addr).add j = ⟨g, j, none⟩ by unfold Addr.add; split <;> simp_all]
  exact hc j _ (by simp [byteVs, List.getElem?_eq_getElem hj])
/-- What holds at the loop's head: the bytes so far, the bitmap's box. -/
def EnI (w : World) (g : Nat) (sv : Value) (l : List UInt8) (s : Value) (W : World) : Prop := OwnsM W g 5 s l.length (byteVs l) ∧ Blk W w.heap.size 24 #[sv] ∧ Below w.heap.size w W ∧ g ≤ W.heap.size
theorem EnI.under {w A B : World} {g : Nat} {sv s : Value} {l : List UInt8} (h : EnI w g sv l s A) (hb : Below A.heap.size A B) : EnI w g sv l s B := ⟨h.1.under hb, h.2.1.under hb, h.2.2.1.trans (hb.mono h.2.2.1.size), Nat.le_trans h.2.2.2 hb.size⟩
theorem EnI.app {w A B : World} {g n : Nat} {sv s s2 : Value} {l l2 : List UInt8} (hg : w.heap.size < g) (h : EnI w g sv l s A) (hgr : A.grownBy B s.ownBlock) (hn : n = (l ++ l2).length) (ho : OwnsM B g 5 s2 n (byteVs l ++ byteVs l2)) : EnI w g sv (l ++ l2) s2 B := by
  have hr : ∀ k, s.ownBlock = some k → g ≤ k := fun k e => (h.1.lt k e).1
  refine ⟨?_, (hgr.block _ h.2.1.lt (fun e => by have := hr _ e.symm; omega)).trans h.2.1, h.2.2.1.grown hgr h.2.2.1.size (fun k e => by have := hr k e; omega), Nat.le_trans h.2.2.2 hgr.size⟩
  rw [show byteVs (l ++ l2) = byteVs l ++ byteVs l2 by simp [byteVs], ← hn]
  exact ho
theorem EnI.start {w W : World} {sv : Value} {l : List UInt8} (hl : l.length ≤ maxLen) (hB : Blk W w.heap.size 24 #[sv]) (hb : Below w.heap.size w W) : EnI w W.heap.size sv l (.slice (some ⟨W.heap.size, 0, none⟩) l.length (grownCap W l.length 0 5)) (Lib.bytesWorld W 5 ⟨l.toArray⟩) := by
  have h2 : Below W.heap.size W (Lib.bytesWorld W 5 ⟨l.toArray⟩) := Joins.below_bytesWorld _ W _ _ (Nat.le_refl _)
  exact ⟨owns_bytes W _ l hl, hB.under h2, hb.trans (h2.mono hb.size), h2.size⟩
/-- A chunk in its box besides. -/
def EnC (w : World) (g : Nat) (sv : Value) (l : List UInt8) (s : Value) (q : Nat) (k f : Int) (d : List UInt8) (W : World) : Prop := EnI w g sv l s W ∧ Blk W q 48 #[.int .i64 k, .int .i64 f, .string ⟨d.toArray⟩]

set_option maxRecDepth 100000 in
set_option maxHeartbeats 4000000 in
theorem enc_roar (x : Option Addr) (len cap : Nat) (r : List Ch) (hk : OkCs r) (hm : len ≤ 9223372036854775807) (w : World) (h : Chs w.heap.size w (.slice x len cap) r) :
    Calls Tryd.prog 6 #[.agg #[.slice x len cap]] w fun e w' => e = .returned (.tuple #[.string ⟨(encZ r).1.toArray⟩, .int .i64 (encZ r).2]) ∧ Below w.heap.size w w' := by
  have hl := h.len
  have HRt := Lib.hid (fun W hW => right_roar x len cap r hk hm W hW)
  have HS0 := Lib.hid (RtSt.start h)
  have HC : Hid (∀ W, Below w.heap.size w W → Chs w.heap.size W (.slice x len cap) r) := Lib.hid fun W hb => h.below hb
  clear h hk
  by_cases hr : RightZ r
  · rw [decide_eq_true hr] at HRt
    have hV := encZ_good hr
    rw [hV]
    have HOk := Lib.hid (ok3_right hr)
    have hl256 : len ≤ 256 := by rw [← hl]; exact hr.1
    have HLe := Lib.hid (fun k => accZ_le HOk.out (by rw [hl]; exact hl256) k)
    have hpl := length_put (n := len) (by omega)
    have HPut := Lib.hid (put1_any len (by omega))
    have hac := accZ_zero r
    have hall := accZ_all r
    rw [hl] at hac hall
    rw [← hall]
    have hw0 : IntKind.u64.wrap (len : Int) = (len : Int) := by rw [u64_wrap]; omega
    obtain ⟨i0, hi, hz0, hz1, hz2⟩ := info_parts info_u8
    have HInf := Lib.hid hi; have HZ0 := Lib.hid hz0; have HZ1 := Lib.hid hz1; have HZ2 := Lib.hid hz2
    have HL := Lib.hid hl
    clear hi hz0 hz1 hz2 hV hall hr hl
    generalize vput len = hd at *
    go_enter Tryd.func6, Tryd.ntmps6
    have c00 := HS0.out.1.cell 0
    dsimp at c00
    go_wp2_with fail
    refine (HRt.out _ HS0.out.2.1).mono ?_
    rintro e w1 ⟨rfl, hb1⟩
    have hS1 := HS0.out.under hb1
    have c0 := hS1.1.cell 0
    dsimp at c0
    have HS1 := Lib.hid hS1
    clear HS0 HRt c00 hb1 hS1
    go_wp2_with fail
    refine (HPut.out _).mono ?_
    rintro e w2 ⟨rfl, hb2⟩
    have HS2 := Lib.hid (HS1.out.under hb2)
    clear hb2 HPut c0
    have hcv := Lib.run_convert_string_bytes (P := Tryd.prog) w2 9 42 5 ⟨hd.toArray⟩ Tryd.underlying9 Tryd.underlying42 Tryd.underlying5
    have hs2 : (ByteArray.mk hd.toArray).size = hd.length := by simp [ByteArray.size]
    rw [hs2] at hcv
    have hE0 := EnI.start (w := w) (W := w2) (sv := .slice x len cap) (l := hd) (by unfold maxLen; omega) HS2.out.1 HS2.out.2.2
    have hgw : w.heap.size < w2.heap.size := HS2.out.1.lt
    generalize Lib.bytesWorld w2 5 ⟨hd.toArray⟩ = w3 at *
    generalize w2.heap.size = g at *
    generalize grownCap w2 hd.length 0 5 = gc at *
    have c1 := hE0.2.1.cell 0
    dsimp at c1
    have HE0 := Lib.hid hE0
    clear hE0 HS1 HS2
    go_wp2
    go_loopw [4, 19] (fun s i wr => ∃ k : Nat, i = .int .i64 (k : Nat) ∧ k ≤ len ∧ EnI w g (.slice x len cap) (accZ r k) s wr)
      (fun _ i _ => len - (intOf i).toNat)
    case atStart => exact ⟨0, rfl, Nat.zero_le _, by rw [hac]; exact HE0.out⟩
    case round =>
      obtain ⟨k, rfl, hkl, hE⟩ := hrel
      clear HE0 c1
      by_cases hlt : k < len
      · have hlt' : (k : Int) < len := by omega
        obtain ⟨b, o, rfl, hb, d0, d1, d2⟩ := (HC.out _ hE.2.2.1).at_ hlt
        have hac2 := accZ_succ (r := r) (k := k) (by rw [HL.out]; exact hlt)
        have hl1 := HLe.out k
        have hl2 := HLe.out (k + 1)
        have hdk : (r.getD k noCh).2.2.length ≤ 300 := HOk.out _ (by rw [List.getD_eq_getElem?_getD, List.getElem?_eq_getElem (by rw [HL.out]; exact hlt)]; exact List.getElem_mem _)
        have HE := Lib.hid hE
        clear hE
        generalize hq2 : accZ r (k + 1) = l2 at *
        generalize accZ r k = l1 at *
        generalize r.getD k noCh = c at *
        obtain ⟨ck, f, d⟩ := c
        dsimp only at *
        have HE2 := Lib.hid ((HE.out.under ((Below.refl _ wr).alloc (Nat.le_refl _) (.cells #[.int .i64 ck, .int .i64 f, .string ⟨d.toArray⟩] 48))).under ((Below.refl _ _).alloc (Nat.le_refl _) (.cells #[.int .u8 (ck % 256), .int .u8 (f % 256), .int .u8 (((d.length : Nat) - 1 : Int) % 256)] 5)))
        have HBx := Lib.hid ((Blk.new wr 48 #[.int .i64 ck, .int .i64 f, .string ⟨d.toArray⟩]).alloc (.cells #[.int .u8 (ck % 256), .int .u8 (f % 256), .int .u8 (((d.length : Nat) - 1 : Int) % 256)] 5))
        have HGl : Hid (∀ v : Value, EnI w g (.slice (some ⟨b, o, none⟩) len cap) l1 v wr → ∀ k, v.ownBlock = some k → k < wr.heap.size) := Lib.hid (fun v h k e => (h.1.lt k e).2)
        have HC3 := Lib.hid (cells_three (wr.alloc (.cells #[.int .i64 ck, .int .i64 f, .string ⟨d.toArray⟩] 48)) (.int .u8 (ck % 256)) (.int .u8 (f % 256)) (.int .u8 (((d.length : Nat) - 1 : Int) % 256)) 5)
        rw [World.size_alloc] at HC3
        have HB3 : Hid (byteVs [u8 ck, u8 f, u8 ((d.length : Int) - 1)] = [.int .u8 (ck % 256), .int .u8 (f % 256), .int .u8 (((d.length : Nat) - 1 : Int) % 256)]) := Lib.hid (by unfold byteVs; simp only [List.map_cons, List.map_nil, u8_val])
        have HBd : Hid (Lib.strCells ⟨d.toArray⟩ = byteVs d) := Lib.hid (by unfold Lib.strCells byteVs; rfl)
        have HL2 : Hid (l2 = (l1 ++ [u8 ck, u8 f, u8 ((d.length : Int) - 1)]) ++ d) := Lib.hid (by rw [hac2, List.append_assoc]; rfl)
        have hsd : (ByteArray.mk d.toArray).size = d.length := by simp [ByteArray.size]
        have hlen2 : l2.length = l1.length + 3 + d.length := by rw [HL2.out]; simp; omega
        have HRt : Hid (EnI w g (.slice (some ⟨b, o, none⟩) len cap) l1 _ wr) := HE
        go_wp2_with (first | (at_builtin; refine wpList_append_ownM _ rfl _ _ 42 rfl g 5 i0 (.int .u8 0) 1 Tryd.underlying42 HInf.out HZ0.out HZ1.out HZ2.out rfl _ _ _ rfl HE2.out.1 ⟨wr.heap.size + 1, 0, none⟩ 3 3 _ rfl rfl HC3.out (by simp [Value.oneCell']) (by unfold maxLen; omega) (by omega) HE2.out.2.2.2 ?_; intro v5 w5 hown5 hgr5; rw [← HB3.out] at hown5; have hE5 := EnI.app hgw HE2.out hgr5 (by simp) hown5; have hB5 := (hgr5.block wr.heap.size HBx.out.lt (fun e => by have := HGl.out _ HRt.out _ e.symm; omega)).trans HBx.out; have x2 := Blk.cell (show Blk w5 wr.heap.size _ _ from hB5) 2; dsimp at x2; have HE5 := Lib.hid hE5; clear hE5 hB5 hown5 hgr5) | (at_builtin; refine wpList_append_ownM_string _ rfl _ _ 42 9 rfl g 5 i0 Tryd.underlying42 Tryd.underlying9 HInf.out HZ0.out HZ1.out HZ2.out _ _ _ rfl HE5.out.1 ⟨d.toArray⟩ rfl (by rw [hsd]; unfold maxLen; simp only [List.length_append, List.length_cons, List.length_nil]; omega) (by rw [hsd]; simp only [List.length_append, List.length_cons, List.length_nil]; omega) HE5.out.2.2.2 ?_; intro v7 w7 hown7 hgr7; rw [HBd.out] at hown7; have hE7 := EnI.app hgw HE5.out hgr7 (by rw [hsd]; simp; omega) hown7; rw [← HL2.out] at hE7; have HE7 := Lib.hid hE7; clear hE7 hown7 hgr7))
        go_roundw
        case rel => exact ⟨k + 1, by simp, by omega, by rw [hq2]; exact HE7.out⟩
        case measure => simp [intOf]; omega
      · obtain rfl : k = len := by omega
        have hge : ¬ (k : Int) < k := by omega
        have hcv7 := conv_ownM hE.1
        have HB := Lib.hid hE.2.2.1
        clear hE
        go_wp2
        go_ret2
        exact ⟨rfl, HB.out⟩
  · rw [decide_eq_false hr] at HRt
    rw [encZ_bad hr]
    go_enter Tryd.func6, Tryd.ntmps6
    have c00 := HS0.out.1.cell 0
    dsimp at c00
    go_wp2_with fail
    refine (HRt.out _ HS0.out.2.1).mono ?_
    rintro e w1 ⟨rfl, hb1⟩
    have HB := Lib.hid (HS0.out.under hb1).2.2
    clear hb1
    go_wp2
    go_ret2
    exact ⟨rfl, HB.out⟩
end Go.Proofs.YtbfchlfagdhglaaDoor
