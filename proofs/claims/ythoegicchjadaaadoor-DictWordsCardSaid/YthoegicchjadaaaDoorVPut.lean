/- varint.put: the varints of numbers, one behind the other; Put. -/
import Derived.Test.YthoegicchjadaaaDoorVIter
import Derived.Laws.MakeOwn
import Derived.Laws.IdiomStrings
import Derived.Lib.BufferRead
import Derived.Maps.AppendAt
namespace Go.Proofs.YthoegicchjadaaaDoor
open Go.RowKit
attribute [local go_sem] Oper.semAt_some

/-- The byte that is put for seven digits: 128 more, if others follow. -/
def putB (x : UInt8 × Bool) : Int := if x.2 then (x.1.toNat : Int) else bits .or .u8 (x.1.toNat : Int) 128
def putVs (l : List (UInt8 × Bool)) : List Value := l.map fun x => Value.int .u8 (putB x)
def byteVs (l : List UInt8) : List Value := l.map fun b => Value.int .u8 (b.toNat : Int)
theorem or128 (r : Nat) (h : r < 128) : bits .or .u8 (r : Int) 128 = ((128 + r : Nat) : Int) := by
  show IntKind.u8.wrap ((BitVec.ofInt 8 r ||| BitVec.ofInt 8 128).toNat : Int) = _
  have e : r ||| 128 = 128 + r := by
    rw [Nat.or_comm, show (128 : Nat) = 2 ^ 7 * 1 from rfl, ← Nat.two_pow_add_eq_or_of_lt (by simpa using h)]
  rw [BitVec.toNat_or, BitVec.ofInt_natCast, BitVec.toNat_ofNat, show (BitVec.ofInt 8 128).toNat = 128 from rfl, Nat.mod_eq_of_lt (by omega), e]
  simp [IntKind.wrap, IntKind.bits, IntKind.signed]
  omega
theorem putVs_sevs (n : Nat) : putVs (sevs n) = byteVs (vput n) := by
  induction n using Nat.strongRecOn with
  | _ n ih =>
    by_cases h : n < 128
    · rw [sevs_lo h, vput_lo h]; rfl
    · rw [sevs_hi h, vput_hi h]
      show Value.int .u8 (putB (UInt8.ofNat (n % 128), false)) :: putVs (sevs (n / 128)) = Value.int .u8 _ :: byteVs (vput (n / 128))
      rw [ih (n / 128) (by omega)]
      congr 2
      show bits .or .u8 ((UInt8.ofNat (n % 128)).toNat : Int) 128 = _
      rw [ofNat_toNat _ (by omega), or128 _ (by omega), ofNat_toNat _ (by omega)]
theorem byteVs_append (a b : List UInt8) : byteVs (a ++ b) = byteVs a ++ byteVs b := by simp [byteVs]
theorem byteVs_length (a : List UInt8) : (byteVs a).length = a.length := by simp [byteVs]
theorem putVs_length (a : List (UInt8 × Bool)) : (putVs a).length = a.length := by simp [putVs]
theorem putVs_snoc (a : List (UInt8 × Bool)) (x : UInt8 × Bool) : putVs (a ++ [x]) = putVs a ++ [Value.int .u8 (putB x)] := by simp [putVs]
theorem sevs_length (n : Nat) : (sevs n).length = (vput n).length := by rw [← putVs_length, putVs_sevs, byteVs_length]
/-- The bytes of numbers. -/
def vputs (ns : List Nat) : List UInt8 := ns.flatMap vput
theorem vputs_snoc (ns : List Nat) (n : Nat) : vputs (ns ++ [n]) = vputs ns ++ vput n := by simp [vputs]
theorem vputs_length (ns : List Nat) (h : ∀ n ∈ ns, n < 18446744073709551616) : (vputs ns).length ≤ 10 * ns.length := by
  induction ns with
  | nil => simp [vputs]
  | cons n ns ih =>
    have h1 := length_put (h n (List.mem_cons_self ..))
    have h2 := ih (fun m hm => h m (List.mem_cons_of_mem _ hm))
    simp only [vputs, List.flatMap_cons, List.length_append, List.length_cons] at h2 ⊢
    omega

/-- Marks among the deferred calls, of loops over functions, none of which deferred anything. -/
def marks (Ds : List Nat) : List Deferred := Ds.map fun D => { target := .collected D, args := #[] }
def Shut (Ds : List Nat) (w : World) : Prop := Ds.Nodup ∧ ∀ D ∈ Ds, w.heap[D]? = some (.deferred (some []))
theorem Shut.keeps {Ds : List Nat} {w w' : World} (h : Shut Ds w) (hk : KeepsOthers w w') : Shut Ds w' := ⟨h.1, fun D hD => hk.same D _ (h.2 D hD) rfl⟩
theorem Shut.lt {Ds : List Nat} {w : World} (h : Shut Ds w) : ∀ D ∈ Ds, D < w.heap.size := fun D hD => (Array.getElem?_eq_some_iff.1 (h.2 D hD)).1
theorem Shut.cons {Ds : List Nat} {w : World} {D : Nat} (h : Shut Ds w) (hD : w.heap[D]? = some (.deferred (some []))) (hne : ∀ E ∈ Ds, E < D) : Shut (D :: Ds) w :=
  ⟨List.nodup_cons.2 ⟨fun hm => Nat.lt_irrefl _ (hne D hm), h.1⟩, fun E hE => by
    rcases List.mem_cons.1 hE with rfl | hE
    · exact hD
    · exact h.2 E hE⟩
theorem shut_own {β : Type} {Ds : List Nat} {B : Nat} (h : ∀ D ∈ Ds, D < B) : OwnFrom B (fun (_ : β) W => Shut Ds W) := fun _ X Y row hs hg hr =>
  ⟨hs.1, fun D hD => (hg.block D (Array.getElem?_eq_some_iff.1 (hs.2 D hD)).1 (fun e => by
    have h1 := h D hD
    have h2 := (hr D e.symm).1
    omega)).trans (hs.2 D hD)⟩
/-- A function leaves over its marks: its result stands, and below n₀ nothing turns. -/
theorem leaves_marks {n : Nat} {P : Program} {fn : Func} {tmps : Array Value} {R : Ending → World → Prop} {v : Value} {n₀ : Nat} (hv : ∀ w, (results fn tmps).run P w = .ok v w) :
    ∀ (Ds : List Nat) (w : World), Shut Ds w → (∀ D ∈ Ds, n₀ ≤ D) → (∀ w', Below n₀ w w' → R (.returned v) w') → LeavesInM Fence.wide n P fn tmps R (marks Ds) .returning w
  | [], w, _, _, hR => ⟨v, hv w, hR w (Below.refl _ _)⟩
  | D :: Ds, w, hS, hn, hR => by
    have hD := hS.2 D (List.mem_cons_self ..)
    have hnd := List.nodup_cons.1 hS.1
    refine ⟨by simp, .inl ⟨D, _, rfl, run_takeDeferred hD, leaves_marks hv Ds _ ⟨hnd.2, fun E hE => ?_⟩ (fun E hE => hn E (List.mem_cons_of_mem _ hE)) (fun w' hb => hR w' ?_)⟩⟩
    · have hne : E ≠ D := fun e => hnd.1 (e ▸ hE)
      exact (World.putObj_heap_other (by omega)).trans (hS.2 E (List.mem_cons_of_mem _ hE))
    · have hDn := hn D (List.mem_cons_self ..)
      exact ((Below.refl n₀ w).grown (grownBy_putObj' w D (.deferred none)) (by have := (Array.getElem?_eq_some_iff.1 hD).1; omega) (fun k e => by cases e; omega)).trans hb

theorem info_u8 : (Tryd.prog.info? 5).map (fun i => (i.zero, i.size, i.bytes)) = some (some (.int .u8 0), 1, 1) := by kernel_rfl

theorem conv_own {wr : World} {n₀ : Nat} {v : Value} {l : List UInt8} (h : wr.ownsRow n₀ 5 1 v l.length (byteVs l)) : (convert 42 9 v).run Tryd.prog wr = .ok (.string ⟨l.toArray⟩) wr := by
  rcases h.2 with ⟨rfl, h0⟩ | ⟨g, cap, cur, rfl, _⟩
  · obtain rfl : l = [] := List.eq_nil_of_length_eq_zero h0
    exact Lib.run_convert_nil_bytes wr _ _ _ 0 Tryd.underlying42 Tryd.underlying5 Tryd.underlying9
  · refine run_convert_bytes_back wr _ _ _ _ cap l Tryd.underlying42 Tryd.underlying5 Tryd.underlying9 (fun j hj => ?_)
    exact h.cells (g := g) rfl j _ (by simp [byteVs, List.getElem?_eq_getElem hj])
theorem nums_get {ns : List Nat} (h : ∀ n ∈ ns, n < 18446744073709551616) (k : Nat) : ns.getD k 0 < 18446744073709551616 := by
  rw [List.getD_eq_getElem?_getD]
  cases e : ns[k]? with
  | none => decide
  | some n => exact h n (List.mem_of_getElem? e)
theorem vputs_take {ns : List Nat} {k : Nat} (h : k < ns.length) : vputs (ns.take (k + 1)) = vputs (ns.take k) ++ vput (ns.getD k 0) := by
  rw [List.take_succ_eq_append_getElem h, vputs_snoc, List.getD_eq_getElem?_getD, List.getElem?_eq_getElem h]; rfl
/-- What holds at the head of put's loop. -/
def PutInv (b len cap : Nat) (ns : List Nat) (w : World) (a : Act) (wr : World) : Prop := ∃ (k : Nat) (Ds : List Nat) (u5 u15 u16 u17 u18 u19 u30 : Value), k ≤ len ∧
  a = { tmps := #[.slice (some ⟨b, 0, none⟩) len cap, undef, .string ⟨#[]⟩, .pointer (some ⟨w.heap.size + 1, 0, none⟩), undef, u5, undef, undef, .slice (some ⟨b, 0, none⟩) len cap, .int .i64 len, .int .i64 (2 * (len : Int)), .slice (some ⟨w.heap.size, 0, none⟩) 0 (2 * len), .slice (some ⟨b, 0, none⟩) len cap, .int .i64 len, .int .i64 k, u15, u16, u17, u18, u19, undef, undef, undef, undef, undef, undef, undef, undef, undef, undef, u30, undef, undef], defers := marks Ds } ∧ Shut Ds wr ∧ (∀ D ∈ Ds, w.heap.size ≤ D) ∧
  (∃ v, Boxed wr (w.heap.size + 1) 42 v ∧ wr.ownsRow w.heap.size 5 1 v (vputs (ns.take k)).length (byteVs (vputs (ns.take k)))) ∧ Below w.heap.size w wr

set_option maxRecDepth 100000 in
set_option maxHeartbeats 2000000 in
theorem put_any (b len cap : Nat) (ns : List Nat) (hlen : ns.length = len) (hns : ∀ n ∈ ns, n < 18446744073709551616) (hl : len ≤ 2000) (w : World) (hb : b < w.heap.size) (hc : ∀ j, j < len → w.cell? ⟨b, j, none⟩ = some (.int .u64 (ns.getD j 0 : Nat))) :
    Calls Tryd.prog 72 #[.slice (some ⟨b, 0, none⟩) len cap] w fun e w' => e = .returned (.string ⟨(vputs ns).toArray⟩) ∧ Below w.heap.size w w' := by
  obtain ⟨i0, hi, hz0, hz1, hz2⟩ := info_parts info_u8
  have hmk : ∀ W : World, (Instr.makeSlice 42 (.int .i64 0) (.int .i64 (2 * (len : Int)))).run Tryd.prog W = .ok (.slice (some ⟨W.heap.size, 0, none⟩) 0 (2 * len)) (W.alloc (.cells (madeCells #[.int .u8 0] (2 * len)) 5)) := fun W => by
    have h := run_make (P := Tryd.prog) W 42 5 i0 (.int .u8 0) Tryd.underlying42 hi hz0 .i64 .i64 0 (2 * (len : Int)) (by omega) (by omega) (by rw [hz2]; omega) (by omega)
    rw [hz1] at h
    rw [h]
    have e : (2 * (len : Int)).toNat = 2 * len := by omega
    rw [e]
    simp [Value.cells]
  have HC := Lib.hid hc; have HN := Lib.hid hns; have HL := Lib.hid hlen
  have HI := Lib.hid hi; have HZ0 := Lib.hid hz0; have HZ1 := Lib.hid hz1; have HZ2 := Lib.hid hz2
  clear hc hns hlen hi hz0 hz1 hz2
  refine (callsIn_wide (n := 4)).1 ?_
  refine callsIn_of_wp_marks Tryd.func72 rfl trivial ?_ rfl
  simp only [Tryd.ntmps72, List.size_toArray, List.length_cons, List.length_nil, Nat.reduceAdd, Nat.reduceSub, Array.replicate_succ, Array.replicate_zero, List.push_toArray, List.append_toArray, List.nil_append, List.cons_append]
  gi_wp2
  refine wpIn_loop (PutInv b len cap ns w) (fun a _ => len - (intOf (a.tmps.getD 14 undef)).toNat) ?start ?round
  case start =>
    refine ⟨0, [], undef, undef, undef, undef, undef, undef, undef, Nat.zero_le _, rfl, ⟨List.nodup_nil, fun D h => by cases h⟩, (fun D h => by cases h), ⟨_, (by simpa using Boxed.new (w.alloc (.cells (madeCells #[.int .u8 0] (2 * len)) 5)) 42 (.slice (some ⟨w.heap.size, 0, none⟩) 0 (2 * len))), ?_⟩, ?_⟩
    · exact (World.ownsRow_made (base := w.heap.size) (e := 5) (size := 1) w (madeCells #[.int .u8 0] (2 * len)) (2 * len) (Nat.le_refl _) (by unfold maxLen; omega) (by simp [madeCells])).alloc _
    · exact ((Below.refl _ w).alloc (Nat.le_refl _) _).alloc (by simp) _
  case round =>
    rintro a wr ⟨k, Ds, u5, u15, u16, u17, u18, u19, u30, hk, rfl, hSh, hDs, ⟨v, hv, hrow⟩, hB⟩
    by_cases hlt : k < len
    · have hck : wr.cell? ⟨b, k, none⟩ = some (.int .u64 (ns.getD k 0 : Nat)) := (hB.cell (p := ⟨b, k, none⟩) hb).trans (HC.out k hlt)
      have hm64 : ns.getD k 0 < 18446744073709551616 := nums_get HN.out k
      have HS : Hid (vputs (ns.take (k + 1)) = vputs (ns.take k) ++ vput (ns.getD k 0)) := Lib.hid (vputs_take (by rw [HL.out]; exact hlt))
      have HM : (vputs (ns.take k)).length ≤ 20000 := by
        have h1 := vputs_length (ns.take k) (fun n hn => HN.out n (List.mem_of_mem_take hn))
        simp at h1
        omega
      generalize ns.getD k 0 = m at *
      gi_wp2_with (refine ⟨trivial, ?_⟩; gi_at_call 86; refine (callsIn_wide.2 (sevens_any _ _)).mono ?_; rintro e w' ⟨rfl, rfl⟩)
      have hW0 : Below wr.heap.size wr (wr.alloc (.cells #[.int .u64 m] 53)) := (Below.refl _ wr).alloc (Nat.le_refl _) _
      have hbx := (Boxed.new wr 53 (.int .u64 m)).cell
      have hv0 := hv.alloc (.cells #[.int .u64 m] 53)
      have hrow0 := hrow.alloc (.cells #[.int .u64 m] 53)
      have hSh0 : Shut Ds (wr.alloc (.cells #[.int .u64 m] 53)) := hSh.keeps (KeepsOthers.alloc _ _)
      have hB0 := hB.alloc hB.size (.cells #[.int .u64 m] 53)
      have hsz : (wr.alloc (.cells #[.int .u64 m] 53)).heap.size = wr.heap.size + 1 := by simp
      have hDl := hSh0.lt
      have hwn := hB.size
      generalize wr.alloc (.cells #[.int .u64 m] 53) = W0 at *
      refine wpIn_rangeFunc_ownF (n := 4) rfl (by decide) (gf := 91) (lb := #[.pointer (some ⟨wr.heap.size, 0, none⟩)]) rfl trivial (enters_of Tryd.func91 (by kernel_rfl) rfl)
        (sevens_stops 3 (by decide) wr.heap.size w.heap.size m hm64 W0 (by omega) hbx) belowK_t (belowK_b (by omega)) (Below.refl _ _) (fun _ => rfl)
        (fun pre W => ((∃ v, Boxed W (w.heap.size + 1) 42 v ∧ W.ownsRow w.heap.size 5 1 v ((vputs (ns.take k)).length + pre.length) (byteVs (vputs (ns.take k)) ++ putVs pre) ∧ True) ∧ Shut Ds W) ∧ Below w.heap.size w W)
        (fun _ _ _ => False)
        (OwnFrom.and (OwnFrom.and (Own.from (holdsRow_own w.heap.size (w.heap.size + 1) 42 5 1 (fun pre => (vputs (ns.take k)).length + pre.length) (fun pre => byteVs (vputs (ns.take k)) ++ putVs pre) (fun _ _ => True)) _) (shut_own hDl)) (ownFrom_below (Nat.le_refl _) (by omega)))
        (fun _ _ _ _ _ hs _ _ => hs)
        ⟨⟨⟨v, hv0, by simpa [putVs] using hrow0, trivial⟩, hSh0⟩, hB0⟩
        (fun x => { tmps := #[.slice (some ⟨b, 0, none⟩) len cap, undef, .string ⟨#[]⟩, .pointer (some ⟨w.heap.size + 1, 0, none⟩), undef, .int .u64 m, .int .u8 (x.1.toNat : Int), .bool x.2, .slice (some ⟨b, 0, none⟩) len cap, .int .i64 len, .int .i64 (2 * (len : Int)), .slice (some ⟨w.heap.size, 0, none⟩) 0 (2 * len), .slice (some ⟨b, 0, none⟩) len cap, .int .i64 len, .int .i64 k, .bool true, .pointer (some ⟨b, k, none⟩), .int .u64 m, .int .u64 m, .func (.func 91) #[] #[.pointer (some ⟨wr.heap.size, 0, none⟩)], .int .u8 (x.1.toNat : Int), .bool x.2, undef, undef, undef, undef, undef, undef, undef, undef, u30, undef, undef], defers := [] }) ?assign ?body ?done ?stop
      case assign =>
        intro l x W K hK
        gi_wp2
        exact hK
      case body =>
        rintro l pre ⟨d, la⟩ W ⟨⟨⟨v, hv, hrow, _⟩, hSh⟩, hB⟩ hlt10
        have hc := hv.cell
        cases la
        · dsimp only
          gi_wp2_with (gi_at_builtin; refine wpListIn_append_own _ rfl _ _ 42 rfl w.heap.size 5 i0 (.int .u8 0) 1 1 Tryd.underlying42 HI.out HZ0.out HZ1.out HZ2.out rfl (by decide) _ _ _ rfl (hrow.alloc _) ⟨W.heap.size, 0, none⟩ 1 1 [.int .u8 (bits .or .u8 (d.toNat : Int) 128)] rfl rfl (cell_one_new _ _ _) (by simp [Value.oneCell']) (by unfold maxLen; omega) (by omega) (by have := hB.size; simp; omega) ?_; intro v' w1 hown' hgrow _; obtain ⟨g', cap', rfl⟩ := ownsRow_succ hown'; obtain ⟨hv1, hv2, hr2, hk2, hb2⟩ := hv.appended (by decide) hrow hB.size (by omega) hown' hgrow; have hc1 := hv1.cell; have hf1 := hv1.frozen)
          exact ⟨hk2, hb2, ⟨⟨_, hv2, by rw [putVs_snoc]; simpa [Nat.add_assoc, putB] using hr2, trivial⟩, hSh.keeps hk2⟩, hB.trans hb2⟩
        · dsimp only
          gi_wp2_with (gi_at_builtin; refine wpListIn_append_own _ rfl _ _ 42 rfl w.heap.size 5 i0 (.int .u8 0) 1 1 Tryd.underlying42 HI.out HZ0.out HZ1.out HZ2.out rfl (by decide) _ _ _ rfl (hrow.alloc _) ⟨W.heap.size, 0, none⟩ 1 1 [.int .u8 (d.toNat : Int)] rfl rfl (cell_one_new _ _ _) (by simp [Value.oneCell']) (by unfold maxLen; omega) (by omega) (by have := hB.size; simp; omega) ?_; intro v' w1 hown' hgrow _; obtain ⟨g', cap', rfl⟩ := ownsRow_succ hown'; obtain ⟨hv1, hv2, hr2, hk2, hb2⟩ := hv.appended (by decide) hrow hB.size (by omega) hown' hgrow; have hc1 := hv1.cell; have hf1 := hv1.frozen)
          exact ⟨hk2, hb2, ⟨⟨_, hv2, by rw [putVs_snoc]; simpa [Nat.add_assoc, putB] using hr2, trivial⟩, hSh.keeps hk2⟩, hB.trans hb2⟩
      case done =>
        rintro D ys W hD rfl ⟨⟨⟨v, hv, hrow, _⟩, hSh⟩, hB⟩ hK
        gi_wp2
        refine ⟨⟨k + 1, D :: Ds, _, _, _, _, _, _, _, by omega, rfl, hSh.cons hK (fun E hE => by have := hDl E hE; omega), ?_, ⟨v, hv, ?_⟩, hB⟩, ?_⟩
        · intro E hE
          rcases List.mem_cons.1 hE with rfl | hE
          · omega
          · exact hDs E hE
        · rw [HS.out, byteVs_append, ← putVs_sevs, List.length_append, ← sevs_length]
          exact hrow
        · simp [intOf]; omega
      case stop =>
        rintro D c pre W _ _ h _
        exact h.elim
    · have hkl : k = len := by omega
      have hcv := conv_own hrow
      rw [hkl, ← HL.out, List.take_length] at hcv
      have hc := hv.cell
      have hge : ¬ (k : Int) < len := by omega
      clear hkl
      gi_wp2
      exact leaves_marks (v := .string ⟨(vputs ns).toArray⟩) (fun w => results_tmp (t := 2) rfl _ _ _) Ds wr hSh hDs (fun w' hb => ⟨rfl, hB.trans hb⟩)

set_option maxRecDepth 100000 in
set_option maxHeartbeats 1000000 in
/-- Put: the varint of n. -/
theorem put1_any (n : Nat) (h : n < 18446744073709551616) (w : World) :
    Calls Tryd.prog 51 #[.int .u64 n] w fun e w' => e = .returned (.string ⟨(vput n).toArray⟩) ∧ Below w.heap.size w w' := by
  have hp := put_any w.heap.size 1 1 [n] rfl (by simpa using h) (by decide) (w.alloc (.cells #[.int .u64 n] 53)) (by simp) (fun j hj => by
    obtain rfl : j = 0 := by omega
    simp)
  rw [show vputs [n] = vput n by simp [vputs]] at hp
  have HP := Lib.hid hp
  clear hp
  go_enter Tryd.func51, Tryd.ntmps51
  go_wp2_with (go_at_call 72; refine HP.out.mono ?_; rintro e w' ⟨rfl, hb⟩)
  go_ret
  exact ⟨rfl, ((Below.refl _ w).alloc (Nat.le_refl _) _).trans (hb.mono (by simp))⟩
end Go.Proofs.YthoegicchjadaaaDoor
