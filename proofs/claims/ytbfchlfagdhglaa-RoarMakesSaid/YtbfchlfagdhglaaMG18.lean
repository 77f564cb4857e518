import Derived.Test.YtbfchlfagdhglaaMG17
import Derived.Deep.RegionWith
/- cont.Op: what is made of two containers. -/
namespace Go.Proofs.Ytbfchlfagdhglaa
open Go.RowKit

theorem and8b (a b : Nat) (ha : a < 256) (hb : b < 256) : bits .and .u8 (a : Int) (b : Int) = ((opN 1 a b : Nat) : Int) := and8 a b ha hb
theorem or8b (a b : Nat) (ha : a < 256) (hb : b < 256) : bits .or .u8 (a : Int) (b : Int) = ((opN 2 a b : Nat) : Int) := or8 a b ha hb
theorem xor8b (a b : Nat) (ha : a < 256) (hb : b < 256) : bits .xor .u8 (a : Int) (b : Int) = ((opN 3 a b : Nat) : Int) := by
  show IntKind.u8.wrap ((BitVec.ofInt 8 a ^^^ BitVec.ofInt 8 b).toNat : Int) = ((a ^^^ b : Nat) : Int)
  rw [BitVec.toNat_xor, BitVec.toNat_ofInt, BitVec.toNat_ofInt]
  rw [show ((a : Int) % ((2 ^ 8 : Nat) : Int)).toNat = a by omega, show ((b : Int) % ((2 ^ 8 : Nat) : Int)).toNat = b by omega]
  have := Nat.xor_lt_two_pow (n := 8) ha hb
  simp [IntKind.wrap, IntKind.bits, IntKind.signed]
  omega
theorem andn8b (a b : Nat) (ha : a < 256) (hb : b < 256) : bits .andNot .u8 (a : Int) (b : Int) = ((opN 4 a b : Nat) : Int) := by
  show IntKind.u8.wrap ((BitVec.ofInt 8 a &&& ~~~ (BitVec.ofInt 8 b)).toNat : Int) = ((a &&& (255 ^^^ b) : Nat) : Int)
  rw [BitVec.toNat_and, BitVec.toNat_not, BitVec.toNat_ofInt, BitVec.toNat_ofInt]
  rw [show ((a : Int) % ((2 ^ 8 : Nat) : Int)).toNat = a by omega, show ((b : Int) % ((2 ^ 8 : Nat) : Int)).toNat = b by omega]
  have e : (2 ^ 8 - 1 - b : Nat) = 255 ^^^ b := by
    have : ∀ b : Fin 256, (2 ^ 8 - 1 - b.val : Nat) = 255 ^^^ b.val := by decide +kernel
    exact this ⟨b, hb⟩
  rw [e]
  have h2 : a &&& (255 ^^^ b) < 256 := Nat.and_lt_two_pow (n := 8) a (Nat.xor_lt_two_pow (n := 8) (by decide) hb)
  simp [IntKind.wrap, IntKind.bits, IntKind.signed]
  omega
theorem opf1 (a b : Nat) (ha : a < 256) (hb : b < 256) (w : World) : Calls Try.prog 73 #[.int .u8 a, .int .u8 b] w fun e w' => e = .returned (.int .u8 (opN 1 a b : Nat)) ∧ w = w' := by
  have h := and8b a b ha hb
  go_enter Try.func73, Try.ntmps73
  go_wp2
  go_ret
  exact ⟨rfl, rfl⟩
theorem opf2 (a b : Nat) (ha : a < 256) (hb : b < 256) (w : World) : Calls Try.prog 74 #[.int .u8 a, .int .u8 b] w fun e w' => e = .returned (.int .u8 (opN 2 a b : Nat)) ∧ w = w' := by
  have h := or8b a b ha hb
  go_enter Try.func74, Try.ntmps74
  go_wp2
  go_ret
  exact ⟨rfl, rfl⟩
theorem opf3 (a b : Nat) (ha : a < 256) (hb : b < 256) (w : World) : Calls Try.prog 75 #[.int .u8 a, .int .u8 b] w fun e w' => e = .returned (.int .u8 (opN 3 a b : Nat)) ∧ w = w' := by
  have h := xor8b a b ha hb
  go_enter Try.func75, Try.ntmps75
  go_wp2
  go_ret
  exact ⟨rfl, rfl⟩
theorem opf4 (a b : Nat) (ha : a < 256) (hb : b < 256) (w : World) : Calls Try.prog 76 #[.int .u8 a, .int .u8 b] w fun e w' => e = .returned (.int .u8 (opN 4 a b : Nat)) ∧ w = w' := by
  have h := andn8b a b ha hb
  go_enter Try.func76, Try.ntmps76
  go_wp2
  go_ret
  exact ⟨rfl, rfl⟩

/-- The first k bytes are turned. -/
def mixS (op : Nat) (s t : Bs) (k : Nat) : Bs := fun n => if n < 8 * k then opS op s t n else s n
theorem byteS_mix {op : Nat} {s t : Bs} {k j : Nat} (hj : j < 32) : byteS (mixS op s t k) 256 j = if j < k then byteS (opS op s t) 256 j else byteS s 256 j := by
  symm
  by_cases h : j < k
  · rw [if_pos h]
    refine byteS_ext hj (byteS_lt _ _ _) fun i hi => ?_
    rw [byteS_bit _ _ _ hj]
    unfold mixS
    rw [if_pos (by omega)]; simp [hi]
  · rw [if_neg h]
    refine byteS_ext hj (byteS_lt _ _ _) fun i hi => ?_
    rw [byteS_bit _ _ _ hj]
    unfold mixS
    rw [if_neg (by omega)]; simp [hi]
theorem mix_step {op : Nat} {s t : Bs} {k : Nat} (hk : k < 32) : (scl (mixS op s t k)).setIfInBounds k (.int .u8 (opN op (byteS s 256 k) (byteS t 256 k) : Nat)) = scl (mixS op s t (k + 1)) := by
  refine scl_ext (by rw [Array.size_setIfInBounds, scl_size]) fun j hj => ?_
  rw [Array.getElem?_setIfInBounds, byteS_mix hj]
  by_cases e : k = j
  · subst e
    rw [if_pos rfl, if_pos (by rw [scl_size]; exact hk), if_pos (by omega), byteS_op op s t k hk]
  · rw [if_neg e, scl_get hj, byteS_mix hj]
    by_cases h : j < k
    · rw [if_pos h, if_pos (by omega)]
    · rw [if_neg h, if_neg (by omega)]
theorem mix_zero (op : Nat) (s t : Bs) : mixS op s t 0 = s := by funext n; unfold mixS; rw [if_neg (by omega)]
theorem mix_all (op : Nat) (s t : Bs) : scl (mixS op s t 32) = scl (opS op s t) := scl_congr fun n hn => by unfold mixS; rw [if_pos (by omega)]

/-- The state of the loop: the set that is turned, the other one, the result's cell. -/
def MixSt (w : World) (g1 g2 op : Nat) (s t : Bs) (k : Nat) (wr : World) : Prop := Blk wr g1 92 (scl (mixS op s t k)) ∧ Blk wr g2 92 (scl t) ∧ Blk wr (w.heap.size + 1 + 1) 52 #[.int .i64 0, .string ⟨#[]⟩] ∧ Below w.heap.size w wr
theorem MixSt.put {w wr : World} {g1 g2 op k : Nat} {s t : Bs} (h : MixSt w g1 g2 op s t k wr) (hg : g1 ≠ g2) (hg1 : w.heap.size + 2 < g1) (hk : k < 32) : MixSt w g1 g2 op s t (k + 1) (wr.setCell ⟨g1, k, none⟩ (.int .u8 (opN op (byteS s 256 k) (byteS t 256 k) : Nat))) := by
  obtain ⟨h1, h2, h3, h4⟩ := h
  refine ⟨?_, h2.far (p := ⟨g1, k, none⟩) (fun e => hg e.symm) _, h3.far (p := ⟨g1, k, none⟩) (by simp; omega) _, h4.setCell (p := ⟨g1, k, none⟩) (by simp; omega) _⟩
  have := h1.set_ k (.int .u8 (opN op (byteS s 256 k) (byteS t 256 k) : Nat))
  rwa [mix_step hk] at this
theorem MixSt.drew {w wr : World} {g1 g2 op k : Nat} {s t : Bs} (h : MixSt w g1 g2 op s t k wr) : MixSt w g1 g2 op s t k wr.drew := ⟨h.1, h.2.1, h.2.2.1, h.2.2.2.drew⟩

/-- What Op answers. -/
def opCV (op : Int) (f : Int) (d : List UInt8) (g : Int) (e : List UInt8) : Value :=
  if okOp op = true ∧ RightC f d ∧ RightC g e then .tuple #[contV (bestF (opS op.toNat (setOf f.toNat d) (setOf g.toNat e)) : Nat) (bestD (opS op.toNat (setOf f.toNat d) (setOf g.toNat e))), .int .i64 0] else .tuple #[contV 0 [], .int .i64 60]
theorem opCV_no {op f g : Int} {d e : List UInt8} (h : ¬ (okOp op = true ∧ RightC f d ∧ RightC g e)) : opCV op f d g e = .tuple #[.agg #[.int .i64 0, .string ⟨#[]⟩], .int .i64 60] := by
  unfold opCV
  rw [if_neg h]; rfl
theorem opCV_yes {op f g : Int} {d e : List UInt8} (h0 : okOp op = true) (h1 : RightC f d) (h2 : RightC g e) : opCV op f d g e = .tuple #[.agg #[.int .i64 (bestF (opS op.toNat (readS f d) (readS g e)) : Nat), .string ⟨(bestD (opS op.toNat (readS f d) (readS g e))).toArray⟩], .int .i64 0] := by
  unfold opCV readS
  rw [if_pos ⟨h0, h1, h2⟩, if_pos h1, if_pos h2]; rfl
/-- The walk's first blocks: the two containers', the result's. -/
def OpSt (w : World) (_f : Int) (_d : List UInt8) (g : Int) (e : List UInt8) (wr : World) : Prop := Blk wr (w.heap.size + 1) 52 #[.int .i64 g, .string ⟨e.toArray⟩] ∧ Blk wr (w.heap.size + 1 + 1) 52 #[.int .i64 0, .string ⟨#[]⟩] ∧ Below w.heap.size w wr
theorem OpSt.start (w : World) (f : Int) (d : List UInt8) (g : Int) (e : List UInt8) : OpSt w f d g e ((((w.alloc (.cells #[.int .i64 f, .string ⟨d.toArray⟩] 52)).alloc (.cells #[.int .i64 g, .string ⟨e.toArray⟩] 52)).alloc (.cells #[.int .i64 0, .string ⟨#[]⟩] 52)).alloc (.map opEs 4)) := by
  refine ⟨?_, ?_, ?_⟩
  · have := ((Blk.new (w.alloc (.cells #[.int .i64 f, .string ⟨d.toArray⟩] 52)) 52 #[.int .i64 g, .string ⟨e.toArray⟩]).alloc (.cells #[.int .i64 0, .string ⟨#[]⟩] 52)).alloc (.map opEs 4)
    rwa [World.size_alloc] at this
  · have := (Blk.new ((w.alloc (.cells #[.int .i64 f, .string ⟨d.toArray⟩] 52)).alloc (.cells #[.int .i64 g, .string ⟨e.toArray⟩] 52)) 52 #[.int .i64 0, .string ⟨#[]⟩]).alloc (.map opEs 4)
    rwa [World.size_alloc, World.size_alloc] at this
  · exact ((((Below.refl _ _).alloc (Nat.le_refl _) _).alloc (by simp) _).alloc (by simp; omega) _).alloc (by simp; omega) _
theorem OpSt.under {w wr w2 : World} {f g : Int} {d e : List UInt8} (h : OpSt w f d g e wr) (hb : Below wr.heap.size wr w2) : OpSt w f d g e w2 := ⟨h.1.under hb, h.2.1.under hb, h.2.2.trans (hb.mono h.2.2.size)⟩
theorem OpSt.done {w wr : World} {f g : Int} {d e : List UInt8} (h : OpSt w f d g e wr) (x y : Value) : Blk ((wr.setCell ⟨w.heap.size + 1 + 1, 0, none⟩ x).setCell ⟨w.heap.size + 1 + 1, 1, none⟩ y) (w.heap.size + 1 + 1) 52 #[x, y] ∧ Below w.heap.size w ((wr.setCell ⟨w.heap.size + 1 + 1, 0, none⟩ x).setCell ⟨w.heap.size + 1 + 1, 1, none⟩ y) :=
  ⟨h.2.1.set2 x y, (h.2.2.setCell (p := ⟨w.heap.size + 1 + 1, 0, none⟩) (by simp; omega) x).setCell (p := ⟨w.heap.size + 1 + 1, 1, none⟩) (by simp; omega) y⟩
theorem OpSt.size {w wr : World} {f g : Int} {d e : List UInt8} (h : OpSt w f d g e wr) : w.heap.size + 2 < wr.heap.size := by have := h.2.1.lt; omega

section
variable (f : Int) (hf1 : -9223372036854775808 ≤ f) (hf2 : f ≤ 9223372036854775807) (d : List UInt8) (hd : d.length ≤ 9223372036854775807)
  (g : Int) (hg1 : -9223372036854775808 ≤ g) (hg2 : g ≤ 9223372036854775807) (e : List UInt8) (he : e.length ≤ 9223372036854775807) (w : World)
include hf1 hf2 hd hg1 hg2 he

set_option maxRecDepth 100000 in
set_option maxHeartbeats 4000000 in
theorem opC_none (op : Int) (hop : okOp op = false) : Calls Try.prog 42 #[.int .i64 op, contV f d, contV g e] w fun en w' => en = .returned (opCV op f d g e) ∧ Below w.heap.size w w' := by
  have hz := zero_set
  have hss := scl_size
  have hst := st_new
  have hS0 := OpSt.start w f d g e
  have hmb : ((((w.alloc (.cells #[.int .i64 f, .string ⟨d.toArray⟩] 52)).alloc (.cells #[.int .i64 g, .string ⟨e.toArray⟩] 52)).alloc (.cells #[.int .i64 0, .string ⟨#[]⟩] 52)).alloc (.map opEs 4)).heap[w.heap.size + 1 + 1 + 1]? = some (.map opEs 4) := by
    have := World.alloc_heap_new (((w.alloc (.cells #[.int .i64 f, .string ⟨d.toArray⟩] 52)).alloc (.cells #[.int .i64 g, .string ⟨e.toArray⟩] 52)).alloc (.cells #[.int .i64 0, .string ⟨#[]⟩] 52)) (.map opEs 4)
    rwa [World.size_alloc, World.size_alloc, World.size_alloc] at this
  have hlook := run_look ((((w.alloc (.cells #[.int .i64 f, .string ⟨d.toArray⟩] 52)).alloc (.cells #[.int .i64 g, .string ⟨e.toArray⟩] 52)).alloc (.cells #[.int .i64 0, .string ⟨#[]⟩] 52)).alloc (.map opEs 4)) (w.heap.size + 1 + 1 + 1) op hmb
  have HO := Lib.hid (operations_any (((w.alloc (.cells #[.int .i64 f, .string ⟨d.toArray⟩] 52)).alloc (.cells #[.int .i64 g, .string ⟨e.toArray⟩] 52)).alloc (.cells #[.int .i64 0, .string ⟨#[]⟩] 52)))
  rw [show (((w.alloc (.cells #[.int .i64 f, .string ⟨d.toArray⟩] 52)).alloc (.cells #[.int .i64 g, .string ⟨e.toArray⟩] 52)).alloc (.cells #[.int .i64 0, .string ⟨#[]⟩] 52)).heap.size = w.heap.size + 1 + 1 + 1 by simp] at HO
  have HR1 := Lib.hid (read_any f hf1 hf2 d hd ((((w.alloc (.cells #[.int .i64 f, .string ⟨d.toArray⟩] 52)).alloc (.cells #[.int .i64 g, .string ⟨e.toArray⟩] 52)).alloc (.cells #[.int .i64 0, .string ⟨#[]⟩] 52)).alloc (.map opEs 4)))
  have HR2 := Lib.hid (read_any g hg1 hg2 e he)
  unfold readV contV at HR1 HR2
  have HN : Hid (opCV op f d g e = .tuple #[.agg #[.int .i64 0, .string ⟨#[]⟩], .int .i64 60]) := Lib.hid (opCV_no (fun h => by rw [hop] at h; exact Bool.noConfusion h.1))
  rw [hop] at hlook
  generalize opV op = ov at *
  generalize opCV op f d g e = av at *
  have HS0 := Lib.hid hS0
  unfold contV
  clear hmb hS0
  generalize readS f d = s at *
  generalize readS g e = t at *
  generalize decide (RightC f d) = b1 at *
  generalize decide (RightC g e) = b2 at *
  go_enter Try.func42, Try.ntmps42
  go_wp2_with fail
  refine HO.out.mono ?_
  rintro en w0 ⟨rfl, rfl⟩
  go_wp2_with fail
  refine HR1.out.mono ?_
  rintro en w1 ⟨rfl, hb1⟩
  have hS1 := HS0.out.under hb1
  have hS2 := hS1.under ((Below.refl _ w1).alloc (Nat.le_refl _) (.cells (scl s) 92))
  have hs1 := Blk.new w1 92 (scl s)
  have c0 := hS2.1.cell 0; have c1 := hS2.1.cell 1
  dsimp at c0 c1
  have hl1 := hS1.size
  have HR2' := Lib.hid (HR2.out (w1.alloc (.cells (scl s) 92)))
  have HS2 := Lib.hid hS2
  clear hS1 hS2 hb1 hlook
  go_wp2_with fail
  refine HR2'.out.mono ?_
  rintro en w2 ⟨rfl, hb2⟩
  have hS3 := HS2.out.under hb2
  have hs2 := hs1.under hb2
  have hs3 := hs2.alloc (.cells (scl t) 92)
  have hl2 : w1.heap.size < w2.heap.size := hs2.lt
  have ht3 := Blk.new w2 92 (scl t)
  have hS4 := hS3.under ((Below.refl _ w2).alloc (Nat.le_refl _) (.cells (scl t) 92))
  have HS4 := Lib.hid hS4
  have Hs3 := Lib.hid hs3; have Ht3 := Lib.hid ht3
  have c0 := hS3.2.1.cell 0; have c1 := hS3.2.1.cell 1; have f0 := hS3.2.1.frozen 0; have f1 := hS3.2.1.frozen 1
  dsimp at c0 c1
  have hE := hS3.done (.int .i64 0) (.string ⟨#[]⟩)
  have hE1 := hE.1.alloc (.cells (scl t) 92)
  have hE2 := hE.2.alloc hE.2.size (.cells (scl t) 92)
  have hlr : w.heap.size + 1 + 1 < w2.heap.size := by omega
  clear hS3 hs2 hS4 hs3 ht3 hb2 hs1 hE
  go_wp2
  exact ret_cont2 rfl rfl hE1 rfl ⟨by rw [HN.out]; rfl, hE2⟩

set_option maxRecDepth 100000 in
set_option maxHeartbeats 4000000 in
theorem opC_1 : Calls Try.prog 42 #[.int .i64 1, contV f d, contV g e] w fun en w' => en = .returned (opCV 1 f d g e) ∧ Below w.heap.size w w' := by
  have hz := zero_set
  have hss := scl_size
  have hst := st_new
  have hS0 := OpSt.start w f d g e
  have hmb : ((((w.alloc (.cells #[.int .i64 f, .string ⟨d.toArray⟩] 52)).alloc (.cells #[.int .i64 g, .string ⟨e.toArray⟩] 52)).alloc (.cells #[.int .i64 0, .string ⟨#[]⟩] 52)).alloc (.map opEs 4)).heap[w.heap.size + 1 + 1 + 1]? = some (.map opEs 4) := by
    have := World.alloc_heap_new (((w.alloc (.cells #[.int .i64 f, .string ⟨d.toArray⟩] 52)).alloc (.cells #[.int .i64 g, .string ⟨e.toArray⟩] 52)).alloc (.cells #[.int .i64 0, .string ⟨#[]⟩] 52)) (.map opEs 4)
    rwa [World.size_alloc, World.size_alloc, World.size_alloc] at this
  have hlook := run_look ((((w.alloc (.cells #[.int .i64 f, .string ⟨d.toArray⟩] 52)).alloc (.cells #[.int .i64 g, .string ⟨e.toArray⟩] 52)).alloc (.cells #[.int .i64 0, .string ⟨#[]⟩] 52)).alloc (.map opEs 4)) (w.heap.size + 1 + 1 + 1) 1 hmb
  have HO := Lib.hid (operations_any (((w.alloc (.cells #[.int .i64 f, .string ⟨d.toArray⟩] 52)).alloc (.cells #[.int .i64 g, .string ⟨e.toArray⟩] 52)).alloc (.cells #[.int .i64 0, .string ⟨#[]⟩] 52)))
  rw [show (((w.alloc (.cells #[.int .i64 f, .string ⟨d.toArray⟩] 52)).alloc (.cells #[.int .i64 g, .string ⟨e.toArray⟩] 52)).alloc (.cells #[.int .i64 0, .string ⟨#[]⟩] 52)).heap.size = w.heap.size + 1 + 1 + 1 by simp] at HO
  have HR1 := Lib.hid (read_any f hf1 hf2 d hd ((((w.alloc (.cells #[.int .i64 f, .string ⟨d.toArray⟩] 52)).alloc (.cells #[.int .i64 g, .string ⟨e.toArray⟩] 52)).alloc (.cells #[.int .i64 0, .string ⟨#[]⟩] 52)).alloc (.map opEs 4)))
  have HR2 := Lib.hid (read_any g hg1 hg2 e he)
  unfold readV contV at HR1 HR2
  have HY : Hid (decide (RightC f d) = true → decide (RightC g e) = true → opCV 1 f d g e = .tuple #[.agg #[.int .i64 (bestF (opS 1 (readS f d) (readS g e)) : Nat), .string ⟨(bestD (opS 1 (readS f d) (readS g e))).toArray⟩], .int .i64 0]) := Lib.hid (fun h1 h2 => opCV_yes (op := 1) rfl (of_decide_eq_true h1) (of_decide_eq_true h2))
  have HN : Hid (decide (RightC f d) = false ∨ decide (RightC g e) = false → opCV 1 f d g e = .tuple #[.agg #[.int .i64 0, .string ⟨#[]⟩], .int .i64 60]) := Lib.hid (fun h => opCV_no (fun k => by
    rcases h with h | h
    · exact of_decide_eq_false h k.2.1
    · exact of_decide_eq_false h k.2.2))
  rw [show opV 1 = .func (.func 73) #[] #[] from rfl, show okOp 1 = true from rfl] at hlook
  generalize opCV 1 f d g e = av at *
  have HS0 := Lib.hid hS0
  unfold contV
  clear hmb hS0
  generalize readS f d = s at *
  generalize readS g e = t at *
  generalize decide (RightC f d) = b1 at *
  generalize decide (RightC g e) = b2 at *
  go_enter Try.func42, Try.ntmps42
  go_wp2_with fail
  refine HO.out.mono ?_
  rintro en w0 ⟨rfl, rfl⟩
  go_wp2_with fail
  refine HR1.out.mono ?_
  rintro en w1 ⟨rfl, hb1⟩
  have hS1 := HS0.out.under hb1
  have hS2 := hS1.under ((Below.refl _ w1).alloc (Nat.le_refl _) (.cells (scl s) 92))
  have hs1 := Blk.new w1 92 (scl s)
  have c0 := hS2.1.cell 0; have c1 := hS2.1.cell 1
  dsimp at c0 c1
  have hl1 := hS1.size
  have HR2' := Lib.hid (HR2.out (w1.alloc (.cells (scl s) 92)))
  have HS2 := Lib.hid hS2
  clear hS1 hS2 hb1 hlook
  go_wp2_with fail
  refine HR2'.out.mono ?_
  rintro en w2 ⟨rfl, hb2⟩
  have hS3 := HS2.out.under hb2
  have hs2 := hs1.under hb2
  have hs3 := hs2.alloc (.cells (scl t) 92)
  have hl2 : w1.heap.size < w2.heap.size := hs2.lt
  have ht3 := Blk.new w2 92 (scl t)
  have hS4 := hS3.under ((Below.refl _ w2).alloc (Nat.le_refl _) (.cells (scl t) 92))
  have HS4 := Lib.hid hS4
  have Hs3 := Lib.hid hs3; have Ht3 := Lib.hid ht3
  have c0 := hS3.2.1.cell 0; have c1 := hS3.2.1.cell 1; have f0 := hS3.2.1.frozen 0; have f1 := hS3.2.1.frozen 1
  dsimp at c0 c1
  have hE := hS3.done (.int .i64 0) (.string ⟨#[]⟩)
  have hE1 := hE.1.alloc (.cells (scl t) 92)
  have hE2 := hE.2.alloc hE.2.size (.cells (scl t) 92)
  have hlr : w.heap.size + 1 + 1 < w2.heap.size := by omega
  clear hS3 hs2 hS4 hs3 ht3 hb2 hs1 hE
  cases b1
  · have HV := Lib.hid (HN.out (.inl rfl))
    clear HY HN
    go_wp2
    exact ret_cont2 rfl rfl hE1 rfl ⟨by rw [HV.out]; rfl, hE2⟩
  cases b2
  · have HV := Lib.hid (HN.out (.inr rfl))
    clear HY HN
    go_wp2
    exact ret_cont2 rfl rfl hE1 rfl ⟨by rw [HV.out]; rfl, hE2⟩
  have HV := Lib.hid (HY.out rfl rfl)
  clear HY HN hE1 hE2 c0 c1 f0 f1
  go_wp2
  have HM0 : Hid (MixSt w w1.heap.size w2.heap.size 1 s t 0 (w2.alloc (.cells (scl t) 92))) := Lib.hid ⟨by rw [mix_zero]; exact Hs3.out, Ht3.out, HS4.out.2.1, HS4.out.2.2⟩
  have hg12 : w1.heap.size ≠ w2.heap.size := by omega
  generalize w1.heap.size = g1 at *
  generalize w2.heap.size = g2 at *
  go_loopw [42] (fun i wr => ∃ k : Nat, k ≤ 32 ∧ i = .int .i64 k ∧ MixSt w g1 g2 1 s t k wr) (fun i _ => 32 - (intOf i).toNat)
  case atStart => exact ⟨0, Nat.zero_le _, rfl, HM0.out⟩
  case round =>
    obtain ⟨k, hk, rfl, hM⟩ := hrel
    by_cases hlt : k < 32
    · have hlt' : (k : Int) < 32 := by omega
      have c0 := hM.1.cell k; have f0 := hM.1.frozen k
      rw [scl_get hlt, byteS_mix hlt, if_neg (by omega)] at c0
      have c1 := hM.2.1.cell k
      rw [scl_get hlt] at c1
      have HP := Lib.hid (hM.drew.put hg12 (by omega) hlt)
      have hb1 := byteS_lt s 256 k
      have hb2 := byteS_lt t 256 k
      generalize byteS s 256 k = x1 at *
      generalize byteS t 256 k = x2 at *
      have HF := Lib.hid (fun W => opf1 x1 x2 hb1 hb2 W)
      have hol := opN_lt 1 x1 x2 hb1 hb2
      generalize opN 1 x1 x2 = x3 at *
      clear hM
      go_wp2
      go_region_with (go_at_call 73; refine (HF.out _).mono ?_; rintro en w' ⟨rfl, rfl⟩)
      all_goals
        go_wp2
        go_roundw
        case rel => exact ⟨k + 1, by omega, by simp, HP.out⟩
        case measure => simp [intOf]; omega
    · obtain rfl : k = 32 := by omega
      have hge : ¬ ((32 : Nat) : Int) < 32 := by omega
      obtain ⟨m1, _, m3, m4⟩ := hM
      rw [mix_all] at m1
      have HA := Lib.hid (best_any g1 (opS 1 s t) wr m1)
      unfold contV at HA
      clear m1
      generalize bestF (opS 1 s t) = q at *
      generalize bestD (opS 1 s t) = dq at *
      go_wp2_with fail
      refine HA.out.mono ?_
      rintro en w5 ⟨rfl, hb5⟩
      have m5 := m3.under hb5
      have m6 := m4.trans (hb5.mono m4.size)
      have c0 := m5.cell 0; have c1 := m5.cell 1; have f0 := m5.frozen 0; have f1 := m5.frozen 1
      dsimp at c0 c1
      have hE := m5.set2 (.int .i64 q) (.string ⟨dq.toArray⟩)
      have hE2 := (m6.setCell (p := ⟨w.heap.size + 1 + 1, 0, none⟩) (by simp; omega) (.int .i64 q)).setCell (p := ⟨w.heap.size + 1 + 1, 1, none⟩) (by simp; omega) (.string ⟨dq.toArray⟩)
      clear m3 m4 m5 m6 hb5
      go_wp2
      exact ret_cont2 rfl rfl hE rfl ⟨by rw [HV.out]; rfl, hE2⟩

set_option maxRecDepth 100000 in
set_option maxHeartbeats 4000000 in
theorem opC_2 : Calls Try.prog 42 #[.int .i64 2, contV f d, contV g e] w fun en w' => en = .returned (opCV 2 f d g e) ∧ Below w.heap.size w w' := by
  have hz := zero_set
  have hss := scl_size
  have hst := st_new
  have hS0 := OpSt.start w f d g e
  have hmb : ((((w.alloc (.cells #[.int .i64 f, .string ⟨d.toArray⟩] 52)).alloc (.cells #[.int .i64 g, .string ⟨e.toArray⟩] 52)).alloc (.cells #[.int .i64 0, .string ⟨#[]⟩] 52)).alloc (.map opEs 4)).heap[w.heap.size + 1 + 1 + 1]? = some (.map opEs 4) := by
    have := World.alloc_heap_new (((w.alloc (.cells #[.int .i64 f, .string ⟨d.toArray⟩] 52)).alloc (.cells #[.int .i64 g, .string ⟨e.toArray⟩] 52)).alloc (.cells #[.int .i64 0, .string ⟨#[]⟩] 52)) (.map opEs 4)
    rwa [World.size_alloc, World.size_alloc, World.size_alloc] at this
  have hlook := run_look ((((w.alloc (.cells #[.int .i64 f, .string ⟨d.toArray⟩] 52)).alloc (.cells #[.int .i64 g, .string ⟨e.toArray⟩] 52)).alloc (.cells #[.int .i64 0, .string ⟨#[]⟩] 52)).alloc (.map opEs 4)) (w.heap.size + 1 + 1 + 1) 2 hmb
  have HO := Lib.hid (operations_any (((w.alloc (.cells #[.int .i64 f, .string ⟨d.toArray⟩] 52)).alloc (.cells #[.int .i64 g, .string ⟨e.toArray⟩] 52)).alloc (.cells #[.int .i64 0, .string ⟨#[]⟩] 52)))
  rw [show (((w.alloc (.cells #[.int .i64 f, .string ⟨d.toArray⟩] 52)).alloc (.cells #[.int .i64 g, .string ⟨e.toArray⟩] 52)).alloc (.cells #[.int .i64 0, .string ⟨#[]⟩] 52)).heap.size = w.heap.size + 1 + 1 + 1 by simp] at HO
  have HR1 := Lib.hid (read_any f hf1 hf2 d hd ((((w.alloc (.cells #[.int .i64 f, .string ⟨d.toArray⟩] 52)).alloc (.cells #[.int .i64 g, .string ⟨e.toArray⟩] 52)).alloc (.cells #[.int .i64 0, .string ⟨#[]⟩] 52)).alloc (.map opEs 4)))
  have HR2 := Lib.hid (read_any g hg1 hg2 e he)
  unfold readV contV at HR1 HR2
  have HY : Hid (decide (RightC f d) = true → decide (RightC g e) = true → opCV 2 f d g e = .tuple #[.agg #[.int .i64 (bestF (opS 2 (readS f d) (readS g e)) : Nat), .string ⟨(bestD (opS 2 (readS f d) (readS g e))).toArray⟩], .int .i64 0]) := Lib.hid (fun h1 h2 => opCV_yes (op := 2) rfl (of_decide_eq_true h1) (of_decide_eq_true h2))
  have HN : Hid (decide (RightC f d) = false ∨ decide (RightC g e) = false → opCV 2 f d g e = .tuple #[.agg #[.int .i64 0, .string ⟨#[]⟩], .int .i64 60]) := Lib.hid (fun h => opCV_no (fun k => by
    rcases h with h | h
    · exact of_decide_eq_false h k.2.1
    · exact of_decide_eq_false h k.2.2))
  rw [show opV 2 = .func (.func 74) #[] #[] from rfl, show okOp 2 = true from rfl] at hlook
  generalize opCV 2 f d g e = av at *
  have HS0 := Lib.hid hS0
  unfold contV
  clear hmb hS0
  generalize readS f d = s at *
  generalize readS g e = t at *
  generalize decide (RightC f d) = b1 at *
  generalize decide (RightC g e) = b2 at *
  go_enter Try.func42, Try.ntmps42
  go_wp2_with fail
  refine HO.out.mono ?_
  rintro en w0 ⟨rfl, rfl⟩
  go_wp2_with fail
  refine HR1.out.mono ?_
  rintro en w1 ⟨rfl, hb1⟩
  have hS1 := HS0.out.under hb1
  have hS2 := hS1.under ((Below.refl _ w1).alloc (Nat.le_refl _) (.cells (scl s) 92))
  have hs1 := Blk.new w1 92 (scl s)
  have c0 := hS2.1.cell 0; have c1 := hS2.1.cell 1
  dsimp at c0 c1
  have hl1 := hS1.size
  have HR2' := Lib.hid (HR2.out (w1.alloc (.cells (scl s) 92)))
  have HS2 := Lib.hid hS2
  clear hS1 hS2 hb1 hlook
  go_wp2_with fail
  refine HR2'.out.mono ?_
  rintro en w2 ⟨rfl, hb2⟩
  have hS3 := HS2.out.under hb2
  have hs2 := hs1.under hb2
  have hs3 := hs2.alloc (.cells (scl t) 92)
  have hl2 : w1.heap.size < w2.heap.size := hs2.lt
  have ht3 := Blk.new w2 92 (scl t)
  have hS4 := hS3.under ((Below.refl _ w2).alloc (Nat.le_refl _) (.cells (scl t) 92))
  have HS4 := Lib.hid hS4
  have Hs3 := Lib.hid hs3; have Ht3 := Lib.hid ht3
  have c0 := hS3.2.1.cell 0; have c1 := hS3.2.1.cell 1; have f0 := hS3.2.1.frozen 0; have f1 := hS3.2.1.frozen 1
  dsimp at c0 c1
  have hE := hS3.done (.int .i64 0) (.string ⟨#[]⟩)
  have hE1 := hE.1.alloc (.cells (scl t) 92)
  have hE2 := hE.2.alloc hE.2.size (.cells (scl t) 92)
  have hlr : w.heap.size + 1 + 1 < w2.heap.size := by omega
  clear hS3 hs2 hS4 hs3 ht3 hb2 hs1 hE
  cases b1
  · have HV := Lib.hid (HN.out (.inl rfl))
    clear HY HN
    go_wp2
    exact ret_cont2 rfl rfl hE1 rfl ⟨by rw [HV.out]; rfl, hE2⟩
  cases b2
  · have HV := Lib.hid (HN.out (.inr rfl))
    clear HY HN
    go_wp2
    exact ret_cont2 rfl rfl hE1 rfl ⟨by rw [HV.out]; rfl, hE2⟩
  have HV := Lib.hid (HY.out rfl rfl)
  clear HY HN hE1 hE2 c0 c1 f0 f1
  go_wp2
  have HM0 : Hid (MixSt w w1.heap.size w2.heap.size 2 s t 0 (w2.alloc (.cells (scl t) 92))) := Lib.hid ⟨by rw [mix_zero]; exact Hs3.out, Ht3.out, HS4.out.2.1, HS4.out.2.2⟩
  have hg12 : w1.heap.size ≠ w2.heap.size := by omega
  generalize w1.heap.size = g1 at *
  generalize w2.heap.size = g2 at *
  go_loopw [42] (fun i wr => ∃ k : Nat, k ≤ 32 ∧ i = .int .i64 k ∧ MixSt w g1 g2 2 s t k wr) (fun i _ => 32 - (intOf i).toNat)
  case atStart => exact ⟨0, Nat.zero_le _, rfl, HM0.out⟩
  case round =>
    obtain ⟨k, hk, rfl, hM⟩ := hrel
    by_cases hlt : k < 32
    · have hlt' : (k : Int) < 32 := by omega
      have c0 := hM.1.cell k; have f0 := hM.1.frozen k
      rw [scl_get hlt, byteS_mix hlt, if_neg (by omega)] at c0
      have c1 := hM.2.1.cell k
      rw [scl_get hlt] at c1
      have HP := Lib.hid (hM.drew.put hg12 (by omega) hlt)
      have hb1 := byteS_lt s 256 k
      have hb2 := byteS_lt t 256 k
      generalize byteS s 256 k = x1 at *
      generalize byteS t 256 k = x2 at *
      have HF := Lib.hid (fun W => opf2 x1 x2 hb1 hb2 W)
      have hol := opN_lt 2 x1 x2 hb1 hb2
      generalize opN 2 x1 x2 = x3 at *
      clear hM
      go_wp2
      go_region_with (go_at_call 74; refine (HF.out _).mono ?_; rintro en w' ⟨rfl, rfl⟩)
      all_goals
        go_wp2
        go_roundw
        case rel => exact ⟨k + 1, by omega, by simp, HP.out⟩
        case measure => simp [intOf]; omega
    · obtain rfl : k = 32 := by omega
      have hge : ¬ ((32 : Nat) : Int) < 32 := by omega
      obtain ⟨m1, _, m3, m4⟩ := hM
      rw [mix_all] at m1
      have HA := Lib.hid (best_any g1 (opS 2 s t) wr m1)
      unfold contV at HA
      clear m1
      generalize bestF (opS 2 s t) = q at *
      generalize bestD (opS 2 s t) = dq at *
      go_wp2_with fail
      refine HA.out.mono ?_
      rintro en w5 ⟨rfl, hb5⟩
      have m5 := m3.under hb5
      have m6 := m4.trans (hb5.mono m4.size)
      have c0 := m5.cell 0; have c1 := m5.cell 1; have f0 := m5.frozen 0; have f1 := m5.frozen 1
      dsimp at c0 c1
      have hE := m5.set2 (.int .i64 q) (.string ⟨dq.toArray⟩)
      have hE2 := (m6.setCell (p := ⟨w.heap.size + 1 + 1, 0, none⟩) (by simp; omega) (.int .i64 q)).setCell (p := ⟨w.heap.size + 1 + 1, 1, none⟩) (by simp; omega) (.string ⟨dq.toArray⟩)
      clear m3 m4 m5 m6 hb5
      go_wp2
      exact ret_cont2 rfl rfl hE rfl ⟨by rw [HV.out]; rfl, hE2⟩

set_option maxRecDepth 100000 in
set_option maxHeartbeats 4000000 in
theorem opC_3 : Calls Try.prog 42 #[.int .i64 3, contV f d, contV g e] w fun en w' => en = .returned (opCV 3 f d g e) ∧ Below w.heap.size w w' := by
  have hz := zero_set
  have hss := scl_size
  have hst := st_new
  have hS0 := OpSt.start w f d g e
  have hmb : ((((w.alloc (.cells #[.int .i64 f, .string ⟨d.toArray⟩] 52)).alloc (.cells #[.int .i64 g, .string ⟨e.toArray⟩] 52)).alloc (.cells #[.int .i64 0, .string ⟨#[]⟩] 52)).alloc (.map opEs 4)).heap[w.heap.size + 1 + 1 + 1]? = some (.map opEs 4) := by
    have := World.alloc_heap_new (((w.alloc (.cells #[.int .i64 f, .string ⟨d.toArray⟩] 52)).alloc (.cells #[.int .i64 g, .string ⟨e.toArray⟩] 52)).alloc (.cells #[.int .i64 0, .string ⟨#[]⟩] 52)) (.map opEs 4)
    rwa [World.size_alloc, World.size_alloc, World.size_alloc] at this
  have hlook := run_look ((((w.alloc (.cells #[.int .i64 f, .string ⟨d.toArray⟩] 52)).alloc (.cells #[.int .i64 g, .string ⟨e.toArray⟩] 52)).alloc (.cells #[.int .i64 0, .string ⟨#[]⟩] 52)).alloc (.map opEs 4)) (w.heap.size + 1 + 1 + 1) 3 hmb
  have HO := Lib.hid (operations_any (((w.alloc (.cells #[.int .i64 f, .string ⟨d.toArray⟩] 52)).alloc (.cells #[.int .i64 g, .string ⟨e.toArray⟩] 52)).alloc (.cells #[.int .i64 0, .string ⟨#[]⟩] 52)))
  rw [show (((w.alloc (.cells #[.int .i64 f, .string ⟨d.toArray⟩] 52)).alloc (.cells #[.int .i64 g, .string ⟨e.toArray⟩] 52)).alloc (.cells #[.int .i64 0, .string ⟨#[]⟩] 52)).heap.size = w.heap.size + 1 + 1 + 1 by simp] at HO
  have HR1 := Lib.hid (read_any f hf1 hf2 d hd ((((w.alloc (.cells #[.int .i64 f, .string ⟨d.toArray⟩] 52)).alloc (.cells #[.int .i64 g, .string ⟨e.toArray⟩] 52)).alloc (.cells #[.int .i64 0, .string ⟨#[]⟩] 52)).alloc (.map opEs 4)))
  have HR2 := Lib.hid (read_any g hg1 hg2 e he)
  unfold readV contV at HR1 HR2
  have HY : Hid (decide (RightC f d) = true → decide (RightC g e) = true → opCV 3 f d g e = .tuple #[.agg #[.int .i64 (bestF (opS 3 (readS f d) (readS g e)) : Nat), .string ⟨(bestD (opS 3 (readS f d) (readS g e))).toArray⟩], .int .i64 0]) := Lib.hid (fun h1 h2 => opCV_yes (op := 3) rfl (of_decide_eq_true h1) (of_decide_eq_true h2))
  have HN : Hid (decide (RightC f d) = false ∨ decide (RightC g e) = false → opCV 3 f d g e = .tuple #[.agg #[.int .i64 0, .string ⟨#[]⟩], .int .i64 60]) := Lib.hid (fun h => opCV_no (fun k => by
    rcases h with h | h
    · exact of_decide_eq_false h k.2.1
    · exact of_decide_eq_false h k.2.2))
  rw [show opV 3 = .func (.func 75) #[] #[] from rfl, show okOp 3 = true from rfl] at hlook
  generalize opCV 3 f d g e = av at *
  have HS0 := Lib.hid hS0
  unfold contV
  clear hmb hS0
  generalize readS f d = s at *
  generalize readS g e = t at *
  generalize decide (RightC f d) = b1 at *
  generalize decide (RightC g e) = b2 at *
  go_enter Try.func42, Try.ntmps42
  go_wp2_with fail
  refine HO.out.mono ?_
  rintro en w0 ⟨rfl, rfl⟩
  go_wp2_with fail
  refine HR1.out.mono ?_
  rintro en w1 ⟨rfl, hb1⟩
  have hS1 := HS0.out.under hb1
  have hS2 := hS1.under ((Below.refl _ w1).alloc (Nat.le_refl _) (.cells (scl s) 92))
  have hs1 := Blk.new w1 92 (scl s)
  have c0 := hS2.1.cell 0; have c1 := hS2.1.cell 1
  dsimp at c0 c1
  have hl1 := hS1.size
  have HR2' := Lib.hid (HR2.out (w1.alloc (.cells (scl s) 92)))
  have HS2 := Lib.hid hS2
  clear hS1 hS2 hb1 hlook
  go_wp2_with fail
  refine HR2'.out.mono ?_
  rintro en w2 ⟨rfl, hb2⟩
  have hS3 := HS2.out.under hb2
  have hs2 := hs1.under hb2
  have hs3 := hs2.alloc (.cells (scl t) 92)
  have hl2 : w1.heap.size < w2.heap.size := hs2.lt
  have ht3 := Blk.new w2 92 (scl t)
  have hS4 := hS3.under ((Below.refl _ w2).alloc (Nat.le_refl _) (.cells (scl t) 92))
  have HS4 := Lib.hid hS4
  have Hs3 := Lib.hid hs3; have Ht3 := Lib.hid ht3
  have c0 := hS3.2.1.cell 0; have c1 := hS3.2.1.cell 1; have f0 := hS3.2.1.frozen 0; have f1 := hS3.2.1.frozen 1
  dsimp at c0 c1
  have hE := hS3.done (.int .i64 0) (.string ⟨#[]⟩)
  have hE1 := hE.1.alloc (.cells (scl t) 92)
  have hE2 := hE.2.alloc hE.2.size (.cells (scl t) 92)
  have hlr : w.heap.size + 1 + 1 < w2.heap.size := by omega
  clear hS3 hs2 hS4 hs3 ht3 hb2 hs1 hE
  cases b1
  · have HV := Lib.hid (HN.out (.inl rfl))
    clear HY HN
    go_wp2
    exact ret_cont2 rfl rfl hE1 rfl ⟨by rw [HV.out]; rfl, hE2⟩
  cases b2
  · have HV := Lib.hid (HN.out (.inr rfl))
    clear HY HN
    go_wp2
    exact ret_cont2 rfl rfl hE1 rfl ⟨by rw [HV.out]; rfl, hE2⟩
  have HV := Lib.hid (HY.out rfl rfl)
  clear HY HN hE1 hE2 c0 c1 f0 f1
  go_wp2
  have HM0 : Hid (MixSt w w1.heap.size w2.heap.size 3 s t 0 (w2.alloc (.cells (scl t) 92))) := Lib.hid ⟨by rw [mix_zero]; exact Hs3.out, Ht3.out, HS4.out.2.1, HS4.out.2.2⟩
  have hg12 : w1.heap.size ≠ w2.heap.size := by omega
  generalize w1.heap.size = g1 at *
  generalize w2.heap.size = g2 at *
  go_loopw [42] (fun i wr => ∃ k : Nat, k ≤ 32 ∧ i = .int .i64 k ∧ MixSt w g1 g2 3 s t k wr) (fun i _ => 32 - (intOf i).toNat)
  case atStart => exact ⟨0, Nat.zero_le _, rfl, HM0.out⟩
  case round =>
    obtain ⟨k, hk, rfl, hM⟩ := hrel
    by_cases hlt : k < 32
    · have hlt' : (k : Int) < 32 := by omega
      have c0 := hM.1.cell k; have f0 := hM.1.frozen k
      rw [scl_get hlt, byteS_mix hlt, if_neg (by omega)] at c0
      have c1 := hM.2.1.cell k
      rw [scl_get hlt] at c1
      have HP := Lib.hid (hM.drew.put hg12 (by omega) hlt)
      have hb1 := byteS_lt s 256 k
      have hb2 := byteS_lt t 256 k
      generalize byteS s 256 k = x1 at *
      generalize byteS t 256 k = x2 at *
      have HF := Lib.hid (fun W => opf3 x1 x2 hb1 hb2 W)
      have hol := opN_lt 3 x1 x2 hb1 hb2
      generalize opN 3 x1 x2 = x3 at *
      clear hM
      go_wp2
      go_region_with (go_at_call 75; refine (HF.out _).mono ?_; rintro en w' ⟨rfl, rfl⟩)
      all_goals
        go_wp2
        go_roundw
        case rel => exact ⟨k + 1, by omega, by simp, HP.out⟩
        case measure => simp [intOf]; omega
    · obtain rfl : k = 32 := by omega
      have hge : ¬ ((32 : Nat) : Int) < 32 := by omega
      obtain ⟨m1, _, m3, m4⟩ := hM
      rw [mix_all] at m1
      have HA := Lib.hid (best_any g1 (opS 3 s t) wr m1)
      unfold contV at HA
      clear m1
      generalize bestF (opS 3 s t) = q at *
      generalize bestD (opS 3 s t) = dq at *
      go_wp2_with fail
      refine HA.out.mono ?_
      rintro en w5 ⟨rfl, hb5⟩
      have m5 := m3.under hb5
      have m6 := m4.trans (hb5.mono m4.size)
      have c0 := m5.cell 0; have c1 := m5.cell 1; have f0 := m5.frozen 0; have f1 := m5.frozen 1
      dsimp at c0 c1
      have hE := m5.set2 (.int .i64 q) (.string ⟨dq.toArray⟩)
      have hE2 := (m6.setCell (p := ⟨w.heap.size + 1 + 1, 0, none⟩) (by simp; omega) (.int .i64 q)).setCell (p := ⟨w.heap.size + 1 + 1, 1, none⟩) (by simp; omega) (.string ⟨dq.toArray⟩)
      clear m3 m4 m5 m6 hb5
      go_wp2
      exact ret_cont2 rfl rfl hE rfl ⟨by rw [HV.out]; rfl, hE2⟩

set_option maxRecDepth 100000 in
set_option maxHeartbeats 4000000 in
theorem opC_4 : Calls Try.prog 42 #[.int .i64 4, contV f d, contV g e] w fun en w' => en = .returned (opCV 4 f d g e) ∧ Below w.heap.size w w' := by
  have hz := zero_set
  have hss := scl_size
  have hst := st_new
  have hS0 := OpSt.start w f d g e
  have hmb : ((((w.alloc (.cells #[.int .i64 f, .string ⟨d.toArray⟩] 52)).alloc (.cells #[.int .i64 g, .string ⟨e.toArray⟩] 52)).alloc (.cells #[.int .i64 0, .string ⟨#[]⟩] 52)).alloc (.map opEs 4)).heap[w.heap.size + 1 + 1 + 1]? = some (.map opEs 4) := by
    have := World.alloc_heap_new (((w.alloc (.cells #[.int .i64 f, .string ⟨d.toArray⟩] 52)).alloc (.cells #[.int .i64 g, .string ⟨e.toArray⟩] 52)).alloc (.cells #[.int .i64 0, .string ⟨#[]⟩] 52)) (.map opEs 4)
    rwa [World.size_alloc, World.size_alloc, World.size_alloc] at this
  have hlook := run_look ((((w.alloc (.cells #[.int .i64 f, .string ⟨d.toArray⟩] 52)).alloc (.cells #[.int .i64 g, .string ⟨e.toArray⟩] 52)).alloc (.cells #[.int .i64 0, .string ⟨#[]⟩] 52)).alloc (.map opEs 4)) (w.heap.size + 1 + 1 + 1) 4 hmb
  have HO := Lib.hid (operations_any (((w.alloc (.cells #[.int .i64 f, .string ⟨d.toArray⟩] 52)).alloc (.cells #[.int .i64 g, .string ⟨e.toArray⟩] 52)).alloc (.cells #[.int .i64 0, .string ⟨#[]⟩] 52)))
  rw [show (((w.alloc (.cells #[.int .i64 f, .string ⟨d.toArray⟩] 52)).alloc (.cells #[.int .i64 g, .string ⟨e.toArray⟩] 52)).alloc (.cells #[.int .i64 0, .string ⟨#[]⟩] 52)).heap.size = w.heap.size + 1 + 1 + 1 by simp] at HO
  have HR1 := Lib.hid (read_any f hf1 hf2 d hd ((((w.alloc (.cells #[.int .i64 f, .string ⟨d.toArray⟩] 52)).alloc (.cells #[.int .i64 g, .string ⟨e.toArray⟩] 52)).alloc (.cells #[.int .i64 0, .string ⟨#[]⟩] 52)).alloc (.map opEs 4)))
  have HR2 := Lib.hid (read_any g hg1 hg2 e he)
  unfold readV contV at HR1 HR2
  have HY : Hid (decide (RightC f d) = true → decide (RightC g e) = true → opCV 4 f d g e = .tuple #[.agg #[.int .i64 (bestF (opS 4 (readS f d) (readS g e)) : Nat), .string ⟨(bestD (opS 4 (readS f d) (readS g e))).toArray⟩], .int .i64 0]) := Lib.hid (fun h1 h2 => opCV_yes (op := 4) rfl (of_decide_eq_true h1) (of_decide_eq_true h2))
  have HN : Hid (decide (RightC f d) = false ∨ decide (RightC g e) = false → opCV 4 f d g e = .tuple #[.agg #[.int .i64 0, .string ⟨#[]⟩], .int .i64 60]) := Lib.hid (fun h => opCV_no (fun k => by
    rcases h with h | h
    · exact of_decide_eq_false h k.2.1
    · exact of_decide_eq_false h k.2.2))
  rw [show opV 4 = .func (.func 76) #[] #[] from rfl, show okOp 4 = true from rfl] at hlook
  generalize opCV 4 f d g e = av at *
  have HS0 := Lib.hid hS0
  unfold contV
  clear hmb hS0
  generalize readS f d = s at *
  generalize readS g e = t at *
  generalize decide (RightC f d) = b1 at *
  generalize decide (RightC g e) = b2 at *
  go_enter Try.func42, Try.ntmps42
  go_wp2_with fail
  refine HO.out.mono ?_
  rintro en w0 ⟨rfl, rfl⟩
  go_wp2_with fail
  refine HR1.out.mono ?_
  rintro en w1 ⟨rfl, hb1⟩
  have hS1 := HS0.out.under hb1
  have hS2 := hS1.under ((Below.refl _ w1).alloc (Nat.le_refl _) (.cells (scl s) 92))
  have hs1 := Blk.new w1 92 (scl s)
  have c0 := hS2.1.cell 0; have c1 := hS2.1.cell 1
  dsimp at c0 c1
  have hl1 := hS1.size
  have HR2' := Lib.hid (HR2.out (w1.alloc (.cells (scl s) 92)))
  have HS2 := Lib.hid hS2
  clear hS1 hS2 hb1 hlook
  go_wp2_with fail
  refine HR2'.out.mono ?_
  rintro en w2 ⟨rfl, hb2⟩
  have hS3 := HS2.out.under hb2
  have hs2 := hs1.under hb2
  have hs3 := hs2.alloc (.cells (scl t) 92)
  have hl2 : w1.heap.size < w2.heap.size := hs2.lt
  have ht3 := Blk.new w2 92 (scl t)
  have hS4 := hS3.under ((Below.refl _ w2).alloc (Nat.le_refl _) (.cells (scl t) 92))
  have HS4 := Lib.hid hS4
  have Hs3 := Lib.hid hs3; have Ht3 := Lib.hid ht3
  have c0 := hS3.2.1.cell 0; have c1 := hS3.2.1.cell 1; have f0 := hS3.2.1.frozen 0; have f1 := hS3.2.1.frozen 1
  dsimp at c0 c1
  have hE := hS3.done (.int .i64 0) (.string ⟨#[]⟩)
  have hE1 := hE.1.alloc (.cells (scl t) 92)
  have hE2 := hE.2.alloc hE.2.size (.cells (scl t) 92)
  have hlr : w.heap.size + 1 + 1 < w2.heap.size := by omega
  clear hS3 hs2 hS4 hs3 ht3 hb2 hs1 hE
  cases b1
  · have HV := Lib.hid (HN.out (.inl rfl))
    clear HY HN
    go_wp2
    exact ret_cont2 rfl rfl hE1 rfl ⟨by rw [HV.out]; rfl, hE2⟩
  cases b2
  · have HV := Lib.hid (HN.out (.inr rfl))
    clear HY HN
    go_wp2
    exact ret_cont2 rfl rfl hE1 rfl ⟨by rw [HV.out]; rfl, hE2⟩
  have HV := Lib.hid (HY.out rfl rfl)
  clear HY HN hE1 hE2 c0 c1 f0 f1
  go_wp2
  have HM0 : Hid (MixSt w w1.heap.size w2.heap.size 4 s t 0 (w2.alloc (.cells (scl t) 92))) := Lib.hid ⟨by rw [mix_zero]; exact Hs3.out, Ht3.out, HS4.out.2.1, HS4.out.2.2⟩
  have hg12 : w1.heap.size ≠ w2.heap.size := by omega
  generalize w1.heap.size = g1 at *
  generalize w2.heap.size = g2 at *
  go_loopw [42] (fun i wr => ∃ k : Nat, k ≤ 32 ∧ i = .int .i64 k ∧ MixSt w g1 g2 4 s t k wr) (fun i _ => 32 - (intOf i).toNat)
  case atStart => exact ⟨0, Nat.zero_le _, rfl, HM0.out⟩
  case round =>
    obtain ⟨k, hk, rfl, hM⟩ := hrel
    by_cases hlt : k < 32
    · have hlt' : (k : Int) < 32 := by omega
      have c0 := hM.1.cell k; have f0 := hM.1.frozen k
      rw [scl_get hlt, byteS_mix hlt, if_neg (by omega)] at c0
      have c1 := hM.2.1.cell k
      rw [scl_get hlt] at c1
      have HP := Lib.hid (hM.drew.put hg12 (by omega) hlt)
      have hb1 := byteS_lt s 256 k
      have hb2 := byteS_lt t 256 k
      generalize byteS s 256 k = x1 at *
      generalize byteS t 256 k = x2 at *
      have HF := Lib.hid (fun W => opf4 x1 x2 hb1 hb2 W)
      have hol := opN_lt 4 x1 x2 hb1 hb2
      generalize opN 4 x1 x2 = x3 at *
      clear hM
      go_wp2
      go_region_with (go_at_call 76; refine (HF.out _).mono ?_; rintro en w' ⟨rfl, rfl⟩)
      all_goals
        go_wp2
        go_roundw
        case rel => exact ⟨k + 1, by omega, by simp, HP.out⟩
        case measure => simp [intOf]; omega
    · obtain rfl : k = 32 := by omega
      have hge : ¬ ((32 : Nat) : Int) < 32 := by omega
      obtain ⟨m1, _, m3, m4⟩ := hM
      rw [mix_all] at m1
      have HA := Lib.hid (best_any g1 (opS 4 s t) wr m1)
      unfold contV at HA
      clear m1
      generalize bestF (opS 4 s t) = q at *
      generalize bestD (opS 4 s t) = dq at *
      go_wp2_with fail
      refine HA.out.mono ?_
      rintro en w5 ⟨rfl, hb5⟩
      have m5 := m3.under hb5
      have m6 := m4.trans (hb5.mono m4.size)
      have c0 := m5.cell 0; have c1 := m5.cell 1; have f0 := m5.frozen 0; have f1 := m5.frozen 1
      dsimp at c0 c1
      have hE := m5.set2 (.int .i64 q) (.string ⟨dq.toArray⟩)
      have hE2 := (m6.setCell (p := ⟨w.heap.size + 1 + 1, 0, none⟩) (by simp; omega) (.int .i64 q)).setCell (p := ⟨w.heap.size + 1 + 1, 1, none⟩) (by simp; omega) (.string ⟨dq.toArray⟩)
      clear m3 m4 m5 m6 hb5
      go_wp2
      exact ret_cont2 rfl rfl hE rfl ⟨by rw [HV.out]; rfl, hE2⟩

theorem opC_any (op : Int) : Calls Try.prog 42 #[.int .i64 op, contV f d, contV g e] w fun en w' => en = .returned (opCV op f d g e) ∧ Below w.heap.size w w' := by
  by_cases h : okOp op = true
  · have : op = 1 ∨ op = 2 ∨ op = 3 ∨ op = 4 := by unfold okOp at h; simp at h; omega
    rcases this with rfl | rfl | rfl | rfl
    · exact opC_1 f hf1 hf2 d hd g hg1 hg2 e he w
    · exact opC_2 f hf1 hf2 d hd g hg1 hg2 e he w
    · exact opC_3 f hf1 hf2 d hd g hg1 hg2 e he w
    · exact opC_4 f hf1 hf2 d hd g hg1 hg2 e he w
  · exact opC_none f hf1 hf2 d hd g hg1 hg2 e he w op (Bool.eq_false_iff.2 h)
end
end Go.Proofs.Ytbfchlfagdhglaa
