/- FrameSums: the sum of what two texts of one length come to, byte by byte, by exclusive or, is what both sums, and that of as many zeros, come to so: for any two texts (of one length; their first five hundred bytes). No condition beyond the row's: the package's table of steps lies as start-up laid it (tied to the program's text). -/
import Derived.Test.YtkjiinhcmhoejaaDoorFRow
import Derived.Test.YtkjiinhcmhoejaaDoorFShown
import Derived.Test.YtkjiinhcmhoejaaDoorFBytes
import Derived.Deep.RegionWith
import Derived.Laws.Cover1
namespace Go.Proofs.YtkjiinhcmhoejaaDoor.frameSums
open Go.ChangeShapes Go.WideShapes Go.ChangeAt Go.RowKit Go.Joins

theorem u8_xor (x y : UInt8) : bits .xor .u8 (x.toNat : Int) (y.toNat : Int) = ((x ^^^ y).toNat : Int) := by
  show IntKind.u8.wrap ((BitVec.ofInt 8 x.toNat ^^^ BitVec.ofInt 8 y.toNat).toNat : Int) = _
  have hx := x.toNat_lt
  have hy := y.toNat_lt
  have h := (x ^^^ y).toNat_lt
  rw [UInt8.toNat_xor] at h ⊢
  rw [BitVec.toNat_xor, BitVec.ofInt_natCast, BitVec.ofInt_natCast, BitVec.toNat_ofNat, BitVec.toNat_ofNat, Nat.mod_eq_of_lt (show x.toNat < 2 ^ 8 by omega), Nat.mod_eq_of_lt (show y.toNat < 2 ^ 8 by omega), u8_wrap]
  omega
/-- The row, when k of its bytes have been stored. -/
def row (a b : List UInt8) (n k : Nat) : List UInt8 := xors (a.take k) (b.take k) ++ List.replicate (n - k) 0
theorem xors_snoc {a b : List UInt8} (x y : UInt8) (h : a.length = b.length) : xors (a ++ [x]) (b ++ [y]) = xors a b ++ [x ^^^ y] := by
  induction a generalizing b with
  | nil => cases b with
    | nil => rfl
    | cons z b => simp at h
  | cons z a ih =>
    cases b with
    | nil => simp at h
    | cons u b => simp only [List.cons_append, xors]; rw [ih (by simpa using h)]
theorem row_length {a b : List UInt8} {n k : Nat} (hk : k ≤ n) (ha : n ≤ a.length) (hb : n ≤ b.length) : (row a b n k).length = n := by
  unfold row
  rw [List.length_append, xors_length (by simp; omega), List.length_replicate, List.length_take]
  omega
theorem row_succ {a b : List UInt8} {n k : Nat} (hk : k < n) (ha : n ≤ a.length) (hb : n ≤ b.length) : row a b n (k + 1) = (row a b n k).set k (a.getD k 0 ^^^ b.getD k 0) := by
  have hl : (xors (a.take k) (b.take k)).length = k := by rw [xors_length (by simp; omega), List.length_take]; omega
  unfold row
  rw [byte_split (by omega), byte_split (by omega), xors_snoc _ _ (by simp; omega), List.set_append_right _ _ (by omega), hl, Nat.sub_self, show n - k = (n - (k + 1)) + 1 by omega, List.replicate_succ]
  simp
theorem row_zero (a b : List UInt8) (n : Nat) : row a b n 0 = List.replicate n 0 := by simp [row, xors]
theorem row_end (a b : List UInt8) (n : Nat) : row a b n n = xors (a.take n) (b.take n) := by simp [row]

set_option maxRecDepth 100000 in
set_option maxHeartbeats 8000000 in
theorem walk (a : List UInt8) (ha : a.length ≤ 9223372036854775807) (b : List UInt8) (hb : b.length ≤ 9223372036854775807) (w : World) (hT : Tab w) :
    Calls Tryd.prog 9 #[.string ⟨a.toArray⟩, .string ⟨b.toArray⟩] w fun e w' => e = .returned (.bool true) ∧ Below w.heap.size w w' := by
  obtain ⟨n, hna, hnb, hn5, hmin⟩ : ∃ n : Nat, n ≤ a.length ∧ n ≤ b.length ∧ n ≤ 500 ∧ ∀ (ts : Array TypeId) (t : TypeId) (W : World), (Builtin.min_ ts t #[.int .i64 (a.length : Int), .int .i64 (b.length : Int), .int .i64 500]).run Tryd.prog W = .ok (.int .i64 (n : Int)) W := by
    refine ⟨min (min a.length b.length) 500, by omega, by omega, by omega, fun ts t W => ?_⟩
    rw [run_min_int3]
    congr 2
    split <;> split <;> omega
  have hmk := make_u8 n (by omega)
  go_enter Tryd.func9, Tryd.ntmps9
  go_wp2_with fail
  refine (shown_any _ hT).mono ?_
  rintro e w1 ⟨rfl, hB1⟩
  go_wp2
  have hn5' : (n : Int) ≤ 500 := by omega
  have hna' : (n : Int) ≤ a.length := by omega
  have hnb' : (n : Int) ≤ b.length := by omega
  go_loopw [8] (fun i wr => ∃ (k : Nat) (cs : Array Value), k ≤ n ∧ i = .int .i64 k ∧ Blk wr w1.heap.size 5 cs ∧ Hid (Bytes (row a b n k) cs) ∧ cs.size = n ∧ Below w.heap.size w wr)
    (fun i _ => n - (intOf i).toNat)
  case atStart => exact ⟨0, zeros n, Nat.zero_le _, rfl, Blk.new _ _ _, Lib.hid (by rw [row_zero]; exact bytes_zeros n), zeros_size n, hB1.alloc hB1.size _⟩
  case round =>
    obtain ⟨k, cs, hk, rfl, bx, HX, hcs, hB⟩ := hrel
    by_cases hlt : k < n
    · have hlt' : (k : Int) < n := by omega
      have hka : (k : Int) < a.length := by omega
      have hkb : (k : Int) < b.length := by omega
      have ga := byte_get a k (by omega)
      have gb := byte_get b k (by omega)
      unfold byteAt at ga gb
      have HR : Hid (row a b n (k + 1) = (row a b n k).set k (a.getD k 0 ^^^ b.getD k 0)) := Lib.hid (row_succ hlt hna hnb)
      have HL := Lib.hid (row_length hk hna hnb)
      have hx := u8_xor (a.getD k 0) (b.getD k 0)
      generalize a.getD k 0 = x at *
      generalize b.getD k 0 = y at *
      generalize x ^^^ y = z at *
      have c0 := bx.cell k
      rw [Array.getElem?_eq_getElem (by omega)] at c0
      have f0 := bx.frozen k
      generalize cs[k] = v at *
      go_wp2
      go_region
      all_goals
        go_wp2
        go_roundw
        case rel => exact ⟨k + 1, _, by omega, by simp, (bx.set_ k (.int .u8 (z.toNat : Int))).drew, Lib.hid (by rw [HR.out]; exact HX.out.set (by rw [HL.out, hcs]; exact Nat.le_refl _) k z), by simp [hcs], (hB.setCell (p := ⟨w1.heap.size, k, none⟩) hB1.size _).drew⟩
        case measure => simp [intOf]; omega
    · obtain rfl : k = n := by omega
      have hxa : (ByteArray.mk a.toArray).extract 0 k = ⟨(a.take k).toArray⟩ := (ext_mk a 0 k).trans (mk_str (by rw [List.drop_zero]))
      have hxb : (ByteArray.mk b.toArray).extract 0 k = ⟨(b.take k).toArray⟩ := (ext_mk b 0 k).trans (mk_str (by rw [List.drop_zero]))
      have hla : (a.take k).length = k := by rw [List.length_take]; omega
      have hlb : (b.take k).length = k := by rw [List.length_take]; omega
      have hlr := row_length hk hna hnb
      have hlz : (List.replicate k (0 : UInt8)).length = k := List.length_replicate
      have hc := crc_xors (a.take k) (b.take k) (by omega)
      rw [hla, ← row_end] at hc
      have HS : Hid (∀ s : List UInt8, s.length = k → ∀ W, Tab W → Calls Tryd.prog 16 #[.string ⟨s.toArray⟩] W fun e w' => e = .returned (.int .u32 (crc s : Nat)) ∧ W = w') := Lib.hid (fun s hs W hW => sum_any s (by omega) W hW)
      have m1 := crc_lt (a.take k)
      have m2 := crc_lt (b.take k)
      have m3 := crc_lt (List.replicate k 0)
      have hBytes := HX.out
      have hBz := bytes_zeros k
      have hT1 : Tab wr.drew := fun i hi => ((hT.below hB) i hi)
      have hT2 : Tab (wr.alloc (.cells (zeros k) 5)).drew := fun i hi => ((hT.below (hB.alloc hB.size (.cells (zeros k) 5))) i hi)
      have v1 := conv_blk (c := k) hlr hBytes bx
      have v2 := conv_blk (c := k) hlr hBytes bx.drew
      have v3 := conv_blk (c := k) hlr hBytes (bx.alloc (.cells (zeros k) 5))
      have v4 := conv_blk (c := k) hlr hBytes (bx.alloc (.cells (zeros k) 5)).drew
      have z3 := conv_blk (c := k) hlz hBz (Blk.new wr 5 (zeros k))
      have z4 := conv_blk (c := k) hlz hBz (Blk.new wr 5 (zeros k)).drew
      have x1 := bits_xor32 m1 m2
      have x2 := bits_xor32 (Nat.xor_lt_two_pow (n := 32) m1 m2) m3
      rw [hc] at x2
      have hBe : Below w.heap.size w (wr.alloc (.cells (zeros k) 5)).drew := (hB.alloc hB.size _).drew
      clear hc HX hBytes hBz m1 m2 m3 hT v1 v3 z3
      generalize crc (a.take k) ^^^ crc (b.take k) = s12 at *
      generalize row a b k k = r at *
      generalize List.replicate k (0 : UInt8) = z at *
      generalize a.take k = p at *
      generalize b.take k = q at *
      go_wp2
      go_region_held (fun W => (convert 40 9 (.slice (some ⟨w1.heap.size, 0, none⟩) k k)).run Tryd.prog W = .ok (.string ⟨r.toArray⟩) W ∧ Tab W) (first | exact ⟨v2, hT1⟩ | exact ⟨v4, hT2⟩) (first | (go_at_call 16; refine (HS.out _ (by first | exact hla | exact hlb | exact hlz | exact hlr) _ (by first | exact hT1 | exact hT2)).mono ?_; rintro e w' ⟨rfl, rfl⟩))
      all_goals
        go_wp2
        go_ret
        exact ⟨rfl, hBe⟩

set_option maxRecDepth 100000 in
set_option maxHeartbeats 1000000 in
theorem lifted (os : Os) (started : os.Started) (H : Type) (enc : TypeId × Value → H) :
    ReturnsInHanded {} Tryd.checked os 9 .any (fun w args => (Rows.frameSumsSpec.pre enc Tryd.prog Tryd.f9 [] false w args ∧ laidMetH Tryd.prog laid1 w) ∧ sizedMet enc Tryd.prog Tryd.f9 (OpenSpec.ofChange Rows.frameSumsSpec) false w args)
      (Rows.frameSumsSpec.post enc Tryd.prog Tryd.f9 false true false false) := by
  refine returnsInHanded_of_change_and (C := Tryd.checked) (X := fun w _ => laidMetH Tryd.prog laid1 w) (fun _ _ _ hh h => h.of_heap hh) own started (by kernel_rfl) Tryd.func9
    (ChangeSpec.witness_shaped (enc := enc) (C := Tryd.checked) (os := os) (X := fun w _ => laidMetH Tryd.prog laid1 w) false (World.doorLaid Tryd.prog 14 os) #[.string ⟨#[]⟩, .string ⟨#[]⟩] 8 rfl (World.shaped_of_RefB (by kernel_rfl) (by kernel_rfl)) (by kernel_rfl) (by kernel_rfl) (by kernel_rfl) (door_met os _)) ?_
  intro W base args ds gs before hval0 hW _ _ hL _
  rw [laid_plain] at hL
  have hT := tab_of_laid hL
  have hval : ∀ (j : Nat) t v, Tryd.f9.params[j]? = some t → args[j]? = some v → Value.okWide Tryd.prog W .any base t v := hval0
  have hW' := hW
  obtain ⟨p, q, hA0, hV, rfl, hfz, hnd⟩ := hW
  have hA : DataW.TrodAll enc Tryd.prog W 0 (fun _ => true) true Tryd.f9.params.toList args.toList ds p := hA0
  rw [Tryd.params9] at hA hval
  obtain ⟨v0, vs0, d0, ds0, p0, q0, hargs, rfl, rfl, h0, r0⟩ := trodAll_cons hA
  obtain ⟨v1, vs1, d1, ds1, p1, q1, rfl, rfl, rfl, h1, r1⟩ := trodAll_cons r0
  obtain ⟨rfl, rfl, rfl⟩ := trodAll_nil r1
  obtain rfl : args = #[v0, v1] := by cases args; simp_all
  obtain ⟨rfl, rfl⟩ := trodVars_none hV
  obtain ⟨z0, rfl, l0, rfl, hr0⟩ := open_text (hval 0 9 v0 rfl rfl) h0
  obtain ⟨z1, rfl, l1, rfl, hr1⟩ := open_text (hval 1 9 v1 rfl rfl) h1
  clear hA0 hval0
  simp only [List.append_nil] at hW'
  refine (walk z0 l0 z1 l1 W hT).mono fun e W' ⟨he, hg⟩ => ?_
  subst he
  exact ⟨_, rfl, post_below (pa := []) (pv := []) hW' (fun _ _ _ => (trodAll_cons_mk (shut_bool Tryd.underlying4 _) trodAll_mk0)) (fun sp hsp => (trodAll_cons_mk (hr0 _ _ _ _) (trodAll_cons_mk (hr1 _ _ _ _) trodAll_mk0))) (fun _ _ => rfl) rfl
    hg (ok_one (by kernel_rfl) rfl (okWide_bool_mk Tryd.underlying4 _))⟩

theorem over : Rows.FrameSumsSaid :=
  OpenClaim.holds_of_wide 9 Tryd.f9 rfl rfl rfl rfl rfl rfl rfl ⟨rfl, rfl, rfl, rfl, rfl⟩ rfl rfl rfl rfl rfl (by kernel_rfl) Tryd.func9 (by kernel_rfl)
    (of_decide_eq_true (by kernel_rfl)) (by unfold Func.isWrapper; first | (rw [if_pos (by decide +kernel)]; kernel_rfl) | (rw [if_neg (by decide +kernel)]; exact ⟨rfl, rfl⟩))
    (fun os started H enc _ => lifted os started H enc)

/-- The statement: the tied card. -/
theorem proved : Rows.FrameSumsCardSaid :=
  Claim7.holds_tied_plain_at .later [] [.data] true _ false
    over (fun _ h => by cases h) (by kernel_rfl) (fun _ h => by cases h) frameSums_row_tie rfl ⟨rfl, rfl⟩ (by kernel_rfl) rfl
    (fun f fn hf hfn => by
      obtain rfl : f = 9 := Option.some.inj ((show Tryd.prog.funcNamed "tesserae/tesseraelaw03.FrameSums" = some 9 by kernel_rfl).symm.trans hf) |>.symm
      obtain rfl : fn = Tryd.f9 := (Option.some.inj (Tryd.func9.symm.trans hfn)).symm
      exact ⟨by kernel_rfl, fun j t ht => by
        rw [Tryd.params9] at ht
        have hm : t ∈ [9, 9] := by simpa using Array.mem_of_getElem? ht
        have hall : ([9, 9].all fun u => !Tryd.prog.wantsStandIn u) = true := by kernel_rfl
        exact (show Tryd.prog.wantsStandIn t = false by simpa using List.all_eq_true.1 hall t hm)⟩)
    (by kernel_rfl)
#print axioms proved
end Go.Proofs.YtkjiinhcmhoejaaDoor.frameSums
