/- The program's set: its cells, put, putSpan. -/
import Derived.Test.YtpjcndfamhehlaaCLeaf
import Derived.Test.YtpjcndfamhehlaaVInts
namespace Go.Proofs.Ytpjcndfamhehlaa
open Go.RowKit

/-- The cells of a set, a byte for eight numbers. -/
def scl (s : Bs) : Array Value := ((List.range 32).map fun k => Value.int .u8 (byteS s 256 k : Nat)).toArray
theorem scl_size (s : Bs) : (scl s).size = 32 := by simp [scl]
theorem scl_get {s : Bs} {k : Nat} (h : k < 32) : (scl s)[k]? = some (.int .u8 (byteS s 256 k : Nat)) := by
  unfold scl
  rw [List.getElem?_toArray, List.getElem?_map, List.getElem?_range h]; rfl
theorem scl_congr {s t : Bs} (h : Same s t) : scl s = scl t := by
  unfold scl
  exact congrArg List.toArray (List.map_congr_left fun k _ => congrArg (fun n : Nat => Value.int .u8 (n : Int)) (byteS_same h k))
theorem scl_ext {s : Bs} {a : Array Value} (hs : a.size = 32) (h : ∀ k, k < 32 → a[k]? = some (.int .u8 (byteS s 256 k : Nat))) : a = scl s := by
  apply Array.ext_getElem?
  intro k
  by_cases hk : k < 32
  · rw [h k hk, scl_get hk]
  · rw [Array.getElem?_eq_none (by omega), Array.getElem?_eq_none (by rw [scl_size]; omega)]
theorem scl_put (s : Bs) (n : Nat) (hn : n < 256) : (scl s).setIfInBounds (n / 8) (.int .u8 (byteS s 256 (n / 8) ||| 2 ^ (n % 8) : Nat)) = scl (put1 s n true) := by
  refine scl_ext (by rw [Array.size_setIfInBounds, scl_size]) fun k hk => ?_
  rw [Array.getElem?_setIfInBounds]
  by_cases e : n / 8 = k
  · subst e; rw [if_pos rfl, if_pos (by rw [scl_size]; omega), byteS_put s n hn]
  · rw [if_neg e, scl_get hk, byteS_put_far s n k (fun h => e h.symm) true hk]
theorem byteS_zero (k : Nat) (hk : k < 32) : byteS (fun _ => false) 256 k = 0 := (byteS_ext hk (by decide) (fun i _ => by simp)).symm
theorem scl_zero : (Array.replicate 32 (Value.int .u8 0)) = scl (fun _ => false) := scl_ext (by simp) fun k hk => by rw [Array.getElem?_replicate, if_pos hk, byteS_zero k hk]; rfl
theorem scl_one (s : Bs) : (scl s).all (·.oneCell') = true := by
  rw [Array.all_eq_true]
  intro i hi
  have h2 : i < 32 := by rw [scl_size] at hi; exact hi
  have := scl_get (s := s) h2
  rw [Array.getElem?_eq_getElem hi] at this
  injection this with this
  rw [this]; rfl
theorem info_set : (Try.prog.info? 48).map (fun i => (i.zero, i.size)) = some (some (.agg (Array.replicate 32 (.int .u8 0))), 32) := by kernel_rfl
theorem zero_set (w : World) : (zeroValue 48).run Try.prog w = .ok (.agg (scl fun _ => false)) w := by rw [← scl_zero]; exact (zero_of_info info_set).1 w
theorem size_set : (Try.prog.info? 48).map (·.size) = some 32 := (zero_of_info info_set).2
/-- A whole set out of its block, and into it. -/
theorem ld_set {w : World} {g : Nat} {s : Bs} (h : Blk w g 48 (scl s)) : (Instr.loadAt 48 (.pointer (some ⟨g, 0, none⟩))).run Try.prog w = .ok (.agg (scl s)) w := by
  have := run_loadAt_mid (P := Try.prog) w g 0 48 (scl s).toList _ (fun j v hv => by rw [Nat.zero_add, h.cell j]; simpa using hv) Try.underlying48 rfl (by rw [size_set]; simp [scl_size])
  simpa using this
theorem ldv_set {w : World} {g : Nat} {s : Bs} (h : Blk w g 48 (scl s)) : (loadVar 48 ⟨g, 0, none⟩).run Try.prog w = .ok (.agg (scl s)) w := by
  have := run_loadVar_mid (P := Try.prog) w g 0 48 (scl s).toList _ (fun j v hv => by rw [Nat.zero_add, h.cell j]; simpa using hv) Try.underlying48 rfl (by rw [size_set]; simp [scl_size])
  simpa using this
theorem st_set {w : World} {g : Nat} {s : Bs} (h : Blk w g 48 (scl s)) (t : Bs) : (Instr.storeAt 48 (.pointer (some ⟨g, 0, none⟩)) (.agg (scl t))).run Try.prog w = .ok () (w.setRow g (scl t)) := by
  simp only [Instr.storeAt, Instr.sureAddr, Sem.run_bind, Sem.run_pure, Result.andThen]
  exact run_storeVar_row w g _ 48 (scl s) (scl t) h (by rw [scl_size]; exact size_set) (by rw [scl_size, scl_size]) (scl_one t)
theorem st_cells {w : World} {g : Nat} {s : Bs} (h : Blk w g 48 (scl s)) (t : Bs) : (storeCells ⟨g, 0, none⟩ (scl t).toList).run Try.prog w = .ok () (w.setRow g (scl t)) := by
  have := run_storeCells_from (P := Try.prog) g 48 (scl t).toList 0 (scl s) w h (by simp [scl_size]) (fun v hv => (Array.all_eq_true_iff_forall_mem.1 (scl_one t)) v (by simpa using hv))
  simpa using this
theorem wp_ld_set {op : Oper} {a : Act} {w : World} {K : Act → World → Prop} {Q : Exit → Act → World → Prop} (x : Operand) (ho : op.op = .load 48 x) (g : Nat) (hx : a.eval x = .pointer (some ⟨g, 0, none⟩)) (s : Bs)
    (hb : Blk w g 48 (scl s)) (h : K (a.put op.dst (.agg (scl s))) w) : op.wp Try.prog a w K Q := by
  unfold Oper.wp execOp
  simp only [ho, hx, Sem.run_bind, Sem.run_pure, Result.andThen_ok, ld_set hb]
  exact h
theorem wp_st_set {op : Oper} {a : Act} {w : World} {K : Act → World → Prop} {Q : Exit → Act → World → Prop} (x y : Operand) (ho : op.op = .store 48 x y) (g : Nat) (hx : a.eval x = .pointer (some ⟨g, 0, none⟩)) (s t : Bs) (hy : a.eval y = .agg (scl t))
    (hb : Blk w g 48 (scl s)) (h : K (a.put op.dst undef) (w.setRow g (scl t))) : op.wp Try.prog a w K Q := by
  unfold Oper.wp execOp
  simp only [ho, hx, hy, Sem.run_bind, Sem.run_pure, Result.andThen_ok, st_set hb t]
  exact h

theorem wpList_ld_set {ops : Array Oper} {rest : List Oper} {op : Oper} {a : Act} {w : World} {Q : Exit → Act → World → Prop} (hgd : op.guard = none) (x : Operand) (ho : op.op = .load 48 x) (g : Nat) (hx : a.eval x = .pointer (some ⟨g, 0, none⟩)) (s : Bs)
    (hb : Blk w g 48 (scl s)) (h : wpList Try.prog ops Q rest (a.put op.dst (.agg (scl s))) w) : wpList Try.prog ops Q (op :: rest) a w :=
  wpList_plain hgd fun _ hK => wp_ld_set x ho g hx s hb (hK _ _ h)

theorem wpList_st_set {ops : Array Oper} {rest : List Oper} {op : Oper} {a : Act} {w : World} {Q : Exit → Act → World → Prop} (hgd : op.guard = none) (x y : Operand) (ho : op.op = .store 48 x y) (g : Nat) (hx : a.eval x = .pointer (some ⟨g, 0, none⟩)) (s t : Bs) (hy : a.eval y = .agg (scl t))
    (hb : Blk w g 48 (scl s)) (h : wpList Try.prog ops Q rest (a.put op.dst undef) (w.setRow g (scl t))) : wpList Try.prog ops Q (op :: rest) a w :=
  wpList_plain hgd fun _ hK => wp_st_set x y ho g hx s t hy hb (hK _ _ h)

/-! ### One block is turned, and nothing else -/
theorem grown_refl (w : World) (r : Option Nat) : w.grownBy w r := ⟨rfl, rfl, rfl, Nat.le_refl _, fun _ _ _ => rfl⟩
theorem grown_trans {a b c : World} {r : Option Nat} (h : a.grownBy b r) (k : b.grownBy c r) : a.grownBy c r :=
  ⟨k.os.trans h.os, k.tape.trans h.tape, k.output.trans h.output, Nat.le_trans h.size k.size, fun i hi hne => (k.block i (Nat.lt_of_lt_of_le hi h.size) hne).trans (h.block i hi hne)⟩
theorem grown_under {a b : World} (h : Below a.heap.size a b) (r : Option Nat) : a.grownBy b r := ⟨h.os, h.tape, h.output, h.size, fun i hi _ => h.block i hi⟩
theorem grown_set {a b : World} {g : Nat} (h : a.grownBy b (some g)) (p : Addr) (hp : p.block = g) (u : Value) : a.grownBy (b.setCell p u) (some g) :=
  grown_trans h ⟨rfl, rfl, rfl, by simp [World.setCell], fun i _ hne => Below.heap_setCell b p u i (fun e => hne (by rw [hp] at e; rw [e]))⟩
theorem grown_drew {a b : World} {r : Option Nat} (h : a.grownBy b r) : a.grownBy b.drew r := ⟨h.os, h.tape, h.output, h.size, h.block⟩
theorem grown_alloc {a b : World} {r : Option Nat} (h : a.grownBy b r) (o : Obj) : a.grownBy (b.alloc o) r := grown_trans h (grown_under ((Below.refl _ b).alloc (Nat.le_refl _) o) r)
theorem grown_below {a b : World} {g B : Nat} (h : a.grownBy b (some g)) (hg : B ≤ g) (hB : B ≤ a.heap.size) : Below B a b := ⟨h.os, h.tape, h.output, h.size, fun k hk => h.block k (by omega) (fun e => by cases e; omega)⟩
theorem Blk.grown {a b : World} {g k : Nat} {t : TypeId} {cs : Array Value} (h : Blk a k t cs) (hg : a.grownBy b (some g)) (hne : k ≠ g) : Blk b k t cs := (hg.block k h.lt (fun e => hne (by cases e; rfl))).trans h

/-- What a call of put leaves. -/
def PutPost (B : Nat) (s : Bs) (zs : List Int) (w : World) (e : Ending) (w' : World) : Prop :=
  w.grownBy w' (some B) ∧ ((∀ z ∈ zs, goodZ z = true) ∧ e = .returned (.bool true) ∧ Blk w' B 48 (scl fun n => s n || ofL zs n) ∨ ¬ (∀ z ∈ zs, goodZ z = true) ∧ e = .returned (.bool false) ∧ ∃ t, Blk w' B 48 (scl fun n => s n || ofL t n) ∧ t <+: zs ∧ ∀ z ∈ t, goodZ z = true)
theorem or8 (a b : Nat) (ha : a < 256) (hb : b < 256) : bits .or .u8 (a : Int) (b : Int) = ((a ||| b : Nat) : Int) := by
  show IntKind.u8.wrap ((BitVec.ofInt 8 a ||| BitVec.ofInt 8 b).toNat : Int) = _
  rw [BitVec.toNat_or, BitVec.toNat_ofInt, BitVec.toNat_ofInt]
  rw [show ((a : Int) % ((2 ^ 8 : Nat) : Int)).toNat = a by omega, show ((b : Int) % ((2 ^ 8 : Nat) : Int)).toNat = b by omega]
  have := Nat.or_lt_two_pow (n := 8) ha hb
  simp [IntKind.wrap, IntKind.bits, IntKind.signed]
  omega
theorem ofL_take (zs : List Int) (k : Nat) (h : k < zs.length) (z : Nat) (hz : zs[k]?.getD 0 = z) (s : Bs) : put1 (fun n => s n || ofL (zs.take k) n) z true = fun n => s n || ofL (zs.take (k + 1)) n := by
  funext n
  unfold put1 ofL
  have e : zs[k]? = some (z : Int) := by
    rw [List.getElem?_eq_getElem h] at hz ⊢
    simpa using hz
  rw [List.take_add_one, e, List.any_append]
  by_cases h : n = z
  · subst h; simp
  · rw [if_neg h]
    have : ((z : Int) == (n : Int)) = false := by rw [beq_eq_false_iff_ne]; omega
    simp [this]
/-- The state of put's walk. -/
def PutSt (B : Nat) (s : Bs) (zs : List Int) (w : World) (k : Nat) (wr : World) : Prop := w.grownBy wr (some B) ∧ Blk wr B 48 (scl fun n => s n || ofL (zs.take k) n) ∧ ∀ j, j < k → goodZ (zs[j]?.getD 0) = true
theorem PutSt.step {B : Nat} {s : Bs} {zs : List Int} {w wr : World} {k z : Nat} (h : PutSt B s zs w k wr) (hk : k < zs.length) (hz : zs[k]?.getD 0 = z) (hz2 : z < 256) :
    PutSt B s zs w (k + 1) (wr.setCell ⟨B, z / 8, none⟩ (.int .u8 (byteS (fun n => s n || ofL (zs.take k) n) 256 (z / 8) ||| 2 ^ (z % 8) : Nat))) := by
  obtain ⟨h1, h2, h3⟩ := h
  refine ⟨grown_set h1 _ rfl _, ?_, fun j hj => ?_⟩
  · have := h2.set_ (z / 8) (.int .u8 (byteS (fun n => s n || ofL (zs.take k) n) 256 (z / 8) ||| 2 ^ (z % 8) : Nat))
    rwa [scl_put _ z hz2, ofL_take zs k hk z hz] at this
  · by_cases e : j = k
    · subst e
      rw [hz]
      unfold goodZ
      simp; omega
    · exact h3 j (by omega)
theorem PutSt.drew {B : Nat} {s : Bs} {zs : List Int} {w wr : World} {k : Nat} (h : PutSt B s zs w k wr) : PutSt B s zs w k wr.drew := ⟨grown_drew h.1, h.2.1, h.2.2⟩
theorem PutSt.good {B : Nat} {s : Bs} {zs : List Int} {w wr : World} (h : PutSt B s zs w zs.length wr) : PutPost B s zs w (.returned (.bool true)) wr := by
  obtain ⟨h1, h2, h3⟩ := h
  rw [List.take_length] at h2
  refine ⟨h1, .inl ⟨fun z hz => ?_, rfl, h2⟩⟩
  obtain ⟨j, hj, rfl⟩ := List.getElem_of_mem hz
  have := h3 j hj
  rwa [List.getElem?_eq_getElem hj] at this
theorem PutSt.bad {B : Nat} {s : Bs} {zs : List Int} {w wr : World} {k : Nat} (h : PutSt B s zs w k wr) (hk : k < zs.length) (hz : zs[k]?.getD 0 < 0 ∨ 256 ≤ zs[k]?.getD 0) : PutPost B s zs w (.returned (.bool false)) wr := by
  obtain ⟨h1, h2, h3⟩ := h
  refine ⟨h1, .inr ⟨fun hg => ?_, rfl, _, h2, List.take_prefix _ _, fun z hz2 => ?_⟩⟩
  · have := hg _ (List.getElem_mem hk)
    rw [List.getElem?_eq_getElem hk] at hz
    unfold goodZ at this
    simp at this hz
    omega
  · obtain ⟨j, hj, rfl⟩ := List.getElem_of_mem hz2
    rw [List.length_take] at hj
    have := h3 j (by omega)
    rw [List.getElem?_eq_getElem (by omega)] at this
    simpa using this

set_option maxRecDepth 100000 in
set_option maxHeartbeats 4000000 in
theorem put_any (B : Nat) (s : Bs) (x : Option Addr) (len cap : Nat) (zs : List Int) (hlen : zs.length = len) (hcm : len ≤ 9223372036854775807) (hz64 : In64 zs) (w : World) (hI : Ints w.heap.size w (.slice x len cap) zs) (hne : ∀ a, x = some a → 0 < len → a.block ≠ B) (bB : Blk w B 48 (scl s)) :
    Calls Try.prog 32 #[.pointer (some ⟨B, 0, none⟩), .slice x len cap] w (PutPost B s zs w) := by
  have HS0 : Hid (PutSt B s zs w 0 w) := Lib.hid ⟨grown_refl w _, by simpa [ofL] using bB, fun j hj => by omega⟩
  have hBlt := bB.lt
  have HI := Lib.hid hI
  have HNE := Lib.hid hne
  have HL := Lib.hid hlen
  have HZ := Lib.hid hz64
  clear bB hI hne hlen hz64
  go_enter Try.func32, Try.ntmps32
  go_wp2
  go_loopw [9] (fun i wr => ∃ k : Nat, k ≤ len ∧ i = .int .i64 k ∧ PutSt B s zs w k wr) (fun i _ => len - (intOf i).toNat)
  case atStart => exact ⟨0, Nat.zero_le _, rfl, HS0.out⟩
  case round =>
    obtain ⟨k, hk, rfl, hS⟩ := hrel
    by_cases hlt : k < len
    · obtain ⟨b1, o1, rfl, hb1, hc1⟩ := HI.out.at_ hlt
      have hneB : b1 ≠ B := HNE.out _ rfl (by omega)
      have hkz : k < zs.length := by rw [HL.out]; exact hlt
      have hd1 : wr.cell? ⟨b1, o1 + k, none⟩ = some (.int .i64 (zs[k]?.getD 0)) := (World.cell?_of_block (hS.1.block b1 hb1 (fun e => hneB (by cases e; rfl)))).trans hc1
      have hlt' : (k : Int) < len := by omega
      have hz1 := HZ.out k
      by_cases hzg : 0 ≤ zs[k]?.getD 0 ∧ zs[k]?.getD 0 < 256
      · obtain ⟨z, hz⟩ : ∃ z : Nat, zs[k]?.getD 0 = z := ⟨(zs[k]?.getD 0).toNat, by omega⟩
        have hz2 : z < 256 := by omega
        have HP := Lib.hid (hS.step hkz hz hz2).drew
        have c0 := hS.2.1.cell (z / 8)
        rw [scl_get (by omega)] at c0
        have f0 := hS.2.1.frozen (z / 8)
        have hbl := byteS_lt (fun n => s n || ofL (zs.take k) n) 256 (z / 8)
        generalize byteS (fun n => s n || ofL (zs.take k) n) 256 (z / 8) = b at *
        rw [hz] at hd1
        clear hc1 hz1 hzg hS hz
        have h1 : ¬ (z : Int) < 0 := by omega
        have h2 : ¬ (256 : Int) ≤ z := by omega
        have e8 : (z : Int).tmod 8 = ((z % 8 : Nat) : Int) := by rw [Int.tmod_eq_emod_of_nonneg (by omega)]; rfl
        have e9 : (z : Int).tdiv 8 = ((z / 8 : Nat) : Int) := by rw [Int.tdiv_eq_ediv_of_nonneg (by omega)]; rfl
        have hq : z / 8 < 32 := by omega
        have hr : z % 8 < 8 := by omega
        generalize z / 8 = q at *
        generalize z % 8 = r at *
        have hp : 2 ^ r < 256 := Nat.lt_of_lt_of_le (Nat.pow_lt_pow_right (by decide) hr) (by decide)
        have hor : bits .or .u8 (b : Int) ((2 : Int) ^ r % 256) = ((b ||| 2 ^ r : Nat) : Int) := by
          have h2 : (2 : Int) ^ r % 256 = ((2 ^ r : Nat) : Int) := by rw [Int.natCast_pow]; exact Int.emod_eq_of_lt (Int.le_of_lt (Int.pow_pos (by decide))) (by exact_mod_cast hp)
          rw [h2]; exact or8 b (2 ^ r) hbl hp
        go_wp2
        go_region
        all_goals
          go_wp2
          go_roundw
          case rel => exact ⟨k + 1, by omega, by simp, HP.out⟩
          case measure => simp [intOf]; omega
      · have HP := Lib.hid (hS.bad hkz (by omega))
        generalize zs[k]?.getD 0 = z at *
        by_cases h1 : z < 0
        · clear hc1 hS
          go_wp2
          go_ret
          exact HP.out
        · have h2 : (256 : Int) ≤ z := by omega
          clear hc1 hS
          go_wp2
          go_ret
          exact HP.out
    · obtain rfl : k = len := by omega
      have hge : ¬ (k : Int) < k := by omega
      have HP := Lib.hid (show PutPost B s zs w (.returned (.bool true)) wr from PutSt.good (by rw [HL.out]; exact hS))
      clear hS
      go_wp2
      go_ret
      exact HP.out
end Go.Proofs.Ytpjcndfamhehlaa
