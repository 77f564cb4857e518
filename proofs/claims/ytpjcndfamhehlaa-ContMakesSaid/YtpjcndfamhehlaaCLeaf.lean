/- Containers: values, whole arrays of 256 truths. -/
import Derived.Test.YtpjcndfamhehlaaVLeaf
import Derived.Test.YtpjcndfamhehlaaCSetM
import Derived.Deep.MidRow
import Derived.Deep.WholeRow
import Derived.Deep.RegionWith
import Derived.Laws.OwnMore
import Derived.Laws.IdiomStrings
import Derived.RegionTactic
namespace Go.Proofs.Ytpjcndfamhehlaa
open Go.RowKit

/-- The cells of a set. -/
def bcl (s : Bs) : Array Value := ((List.range 256).map fun n => Value.bool (s n)).toArray
theorem bcl_size (s : Bs) : (bcl s).size = 256 := by simp [bcl]
theorem bcl_get {s : Bs} {n : Nat} (h : n < 256) : (bcl s)[n]? = some (.bool (s n)) := by
  unfold bcl
  rw [List.getElem?_toArray, List.getElem?_map, List.getElem?_range h]; rfl
theorem bcl_congr {s t : Bs} (h : Same s t) : bcl s = bcl t := by
  unfold bcl
  congr 1
  exact List.map_congr_left fun n hn => by rw [h n (List.mem_range.1 hn)]
theorem bcl_set (s : Bs) (n : Nat) (b : Bool) : (bcl s).setIfInBounds n (.bool b) = bcl (put1 s n b) := by
  apply Array.ext_getElem?
  intro k
  rw [Array.getElem?_setIfInBounds]
  by_cases hk : k < 256
  · rw [bcl_get hk, bcl_get hk]
    unfold put1
    by_cases e : n = k
    · subst e; rw [if_pos rfl, if_pos (by rw [bcl_size]; exact hk), if_pos rfl]
    · rw [if_neg e, if_neg (fun h => e h.symm)]
  · rw [Array.getElem?_eq_none (by rw [bcl_size]; omega), Array.getElem?_eq_none (by rw [bcl_size]; omega)]
    split
    · rw [if_neg (by rw [bcl_size]; omega)]
    · rfl
theorem bcl_zero : (Array.replicate 256 (Value.bool false)) = bcl (fun _ => false) := by
  apply Array.ext_getElem?
  intro k
  by_cases hk : k < 256
  · rw [bcl_get hk, Array.getElem?_replicate, if_pos hk]
  · rw [Array.getElem?_eq_none (by simp; omega), Array.getElem?_eq_none (by rw [bcl_size]; omega)]
theorem bcl_one (s : Bs) : (bcl s).all (·.oneCell') = true := by
  rw [Array.all_eq_true]
  intro i hi
  have h2 : i < 256 := by rw [bcl_size] at hi; exact hi
  have := bcl_get (s := s) h2
  rw [Array.getElem?_eq_getElem hi] at this
  injection this with this
  rw [this]; rfl
/-- Byte k of a text. -/
def byteC (d : List UInt8) (k : Nat) : Nat := (d[k]?.getD 0).toNat
theorem byteC_lt (d : List UInt8) (k : Nat) : byteC d k < 256 := UInt8.toNat_lt _
theorem byteC_get (s : List UInt8) (k : Nat) (h : k < s.length) : ((⟨s.toArray⟩ : ByteArray)[k]'(show k < s.toArray.size by simpa using h)).toNat = byteC s k := by
  unfold byteC
  rw [List.getElem?_eq_getElem h]; rfl
/-- A container's value. -/
def contV (f : Int) (d : List UInt8) : Value := .agg #[.int .i64 f, .string ⟨d.toArray⟩]
theorem info_b256 : (Try.prog.info? 51).map (fun i => (i.zero, i.size)) = some (some (.agg (Array.replicate 256 (.bool false))), 256) := by kernel_rfl
theorem zero_b256 (w : World) : (zeroValue 51).run Try.prog w = .ok (.agg (bcl fun _ => false)) w := by rw [← bcl_zero]; exact (zero_of_info info_b256).1 w
theorem size_b256 : (Try.prog.info? 51).map (·.size) = some 256 := (zero_of_info info_b256).2
/-- A whole set out of its block. -/
theorem load_set {w : World} {g : Nat} {s : Bs} (h : Blk w g 51 (bcl s)) : (Instr.loadAt 51 (.pointer (some ⟨g, 0, none⟩))).run Try.prog w = .ok (.agg (bcl s)) w := by
  have := run_loadAt_mid (P := Try.prog) w g 0 51 (bcl s).toList _ (fun j v hv => by rw [Nat.zero_add, h.cell j]; simpa using hv) Try.underlying51 rfl (by rw [size_b256]; simp [bcl_size])
  simpa using this
theorem load_var {w : World} {g : Nat} {s : Bs} (h : Blk w g 51 (bcl s)) : (loadVar 51 ⟨g, 0, none⟩).run Try.prog w = .ok (.agg (bcl s)) w := by
  have := run_loadVar_mid (P := Try.prog) w g 0 51 (bcl s).toList _ (fun j v hv => by rw [Nat.zero_add, h.cell j]; simpa using hv) Try.underlying51 rfl (by rw [size_b256]; simp [bcl_size])
  simpa using this
/-- A whole set into its block. -/
theorem store_set {w : World} {g : Nat} {s : Bs} (h : Blk w g 51 (bcl s)) (t : Bs) : (Instr.storeAt 51 (.pointer (some ⟨g, 0, none⟩)) (.agg (bcl t))).run Try.prog w = .ok () (w.setRow g (bcl t)) := by
  simp only [Instr.storeAt, Instr.sureAddr, Sem.run_bind, Sem.run_pure, Result.andThen]
  exact run_storeVar_row w g _ 51 (bcl s) (bcl t) h (by rw [bcl_size]; exact size_b256) (by rw [bcl_size, bcl_size]) (bcl_one t)
theorem store_cells {w : World} {g : Nat} {s : Bs} (h : Blk w g 51 (bcl s)) (t : Bs) : (storeCells ⟨g, 0, none⟩ (bcl t).toList).run Try.prog w = .ok () (w.setRow g (bcl t)) := by
  have := run_storeCells_from (P := Try.prog) g 51 (bcl t).toList 0 (bcl s) w h (by simp [bcl_size]) (fun v hv => (Array.all_eq_true_iff_forall_mem.1 (bcl_one t)) v (by simpa using hv))
  simpa using this
theorem Blk.setRow {w : World} {g : Nat} {t : TypeId} {cs : Array Value} (h : Blk w g t cs) (cs' : Array Value) : Blk (w.setRow g cs') g t cs' := by
  unfold Blk at h ⊢
  simp [World.setRow, Array.getElem?_modify, h]
theorem Blk.farRow {w : World} {g g' : Nat} {t : TypeId} {cs : Array Value} (h : Blk w g t cs) (cs' : Array Value) (hne : g ≠ g') : Blk (w.setRow g' cs') g t cs := by
  unfold Blk at h ⊢
  simp [World.setRow, Array.getElem?_modify, h, Ne.symm hne]
theorem below_setRow {B : Nat} {a w : World} (h : Below B a w) {g : Nat} (hg : B ≤ g) (cs : Array Value) : Below B a (w.setRow g cs) :=
  ⟨h.os, h.tape, h.output, by simpa [World.setRow] using h.size, fun k hk => by
    have := h.block k hk
    simp [World.setRow, Array.getElem?_modify, show ¬ g = k by omega, this]⟩
theorem wp_load_set {op : Oper} {a : Act} {w : World} {K : Act → World → Prop} {Q : Exit → Act → World → Prop} (x : Operand) (ho : op.op = .load 51 x) (g : Nat) (hx : a.eval x = .pointer (some ⟨g, 0, none⟩)) (s : Bs)
    (hb : Blk w g 51 (bcl s)) (h : K (a.put op.dst (.agg (bcl s))) w) : op.wp Try.prog a w K Q := by
  unfold Oper.wp execOp
  simp only [ho, hx, Sem.run_bind, Sem.run_pure, Result.andThen_ok, load_set hb]
  exact h
theorem wp_store_set {op : Oper} {a : Act} {w : World} {K : Act → World → Prop} {Q : Exit → Act → World → Prop} (x y : Operand) (ho : op.op = .store 51 x y) (g : Nat) (hx : a.eval x = .pointer (some ⟨g, 0, none⟩)) (s t : Bs) (hy : a.eval y = .agg (bcl t))
    (hb : Blk w g 51 (bcl s)) (h : K (a.put op.dst undef) (w.setRow g (bcl t))) : op.wp Try.prog a w K Q := by
  unfold Oper.wp execOp
  simp only [ho, hx, hy, Sem.run_bind, Sem.run_pure, Result.andThen_ok, store_set hb t]
  exact h
end Go.Proofs.Ytpjcndfamhehlaa
