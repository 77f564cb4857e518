/- cont.operations: the map of what each operation makes of two bytes. -/
import Derived.Test.YtpjcndfamhehlaaCHas
import Derived.Carry
import Derived.ChangeMaps4
namespace Go.Proofs.Ytpjcndfamhehlaa
open Go.RowKit

/-- The entries. -/
def opEs : Array MapEntry := #[⟨.int .i64 1, .func (.func 48) #[] #[], 0⟩, ⟨.int .i64 2, .func (.func 49) #[] #[], 1⟩, ⟨.int .i64 3, .func (.func 50) #[] #[], 2⟩, ⟨.int .i64 4, .func (.func 51) #[] #[], 3⟩]
theorem set_new (w : World) (o o' : Obj) : ({ heap := (w.alloc o).heap.setIfInBounds w.heap.size o', tape := w.tape, drawn := w.drawn, os := (w.alloc o).os, output := (w.alloc o).output } : World) = w.alloc o' := by
  cases w with
  | mk heap tape drawn os output =>
    simp only [World.alloc, World.mk.injEq, and_true]
    apply Array.ext_getElem?
    intro k
    rw [Array.getElem?_setIfInBounds, Array.getElem?_push, Array.getElem?_push]
    by_cases e : heap.size = k
    · subst e; simp
    · rw [if_neg e, if_neg (fun h => e h.symm), if_neg (fun h => e h.symm)]
theorem chk_int (b : Bool) (k : Int) (w : World) : (Instr.checkKey b 10000 3 (.int .i64 k)).run Try.prog w = .ok () w :=
  MapKept.run_checkKey Try.underlying3 (by trivial) b 9999
theorem run_ins (w : World) (es : Array MapEntry) (c : Nat) (k : Int) (v : Value) (hf : Instr.findNow (.int .i64) (.int .i64 k) es.toList 0 = some none) :
    (Instr.mapUpdate 63 (.map (some w.heap.size)) (.int .i64 k) v).run Try.prog (w.alloc (.map es c)) = .ok () (w.alloc (.map (es.push ⟨.int .i64 k, v, c⟩) (c + 1))) := by
  have hb : (w.alloc (.map es c)).heap[w.heap.size]? = some (.map es c) := World.alloc_heap_new w _
  simp [Instr.mapUpdate, run_underlying Try.underlying63, MapKept.run_getObj_map hb, chk_int, Instr.findKey, run_underlying Try.underlying3, hf, MapKept.run_setObj_map _ hb, Result.andThen]
  exact set_new w _ _
/-- What the map has at an operation's number. -/
def opV (op : Int) : Value := if op = 1 then .func (.func 48) #[] #[] else if op = 2 then .func (.func 49) #[] #[] else if op = 3 then .func (.func 50) #[] #[] else if op = 4 then .func (.func 51) #[] #[] else .nilFunc
def okOp (op : Int) : Bool := decide (1 ≤ op) && decide (op ≤ 4)
theorem run_look (w : World) (r : Nat) (op : Int) (hb : w.heap[r]? = some (.map opEs 4)) :
    (Instr.lookup 63 (.map (some r)) (.int .i64 op) true).run Try.prog w = .ok (.tuple #[opV op, .bool (okOp op)]) w := by
  have key : ∀ a : Option (Nat × Value), Instr.findNow (.int .i64) (.int .i64 op) opEs.toList 0 = some a → ∀ v ok, (match a with | some (_, v) => (v, true) | none => (Value.nilFunc, false)) = (v, ok) →
      (Instr.lookup 63 (.map (some r)) (.int .i64 op) true).run Try.prog w = .ok (.tuple #[v, .bool ok]) w := fun a h v ok e => by
    cases a with
    | none =>
      cases e
      simp [Instr.lookup, run_underlying Try.underlying63, MapKept.run_getObj_map hb, chk_int, MapKept.run_findKey Try.underlying3 h, Try.zeroValue61, Result.andThen]
    | some p =>
      cases e
      simp [Instr.lookup, run_underlying Try.underlying63, MapKept.run_getObj_map hb, chk_int, MapKept.run_findKey Try.underlying3 h, Result.andThen]
  by_cases h1 : op = 1
  · subst h1; exact key _ rfl _ _ rfl
  by_cases h2 : op = 2
  · subst h2; exact key _ rfl _ _ rfl
  by_cases h3 : op = 3
  · subst h3; exact key _ rfl _ _ rfl
  by_cases h4 : op = 4
  · subst h4; exact key _ rfl _ _ rfl
  have e1 : (op == 1) = false := by simpa using h1
  have e2 : (op == 2) = false := by simpa using h2
  have e3 : (op == 3) = false := by simpa using h3
  have e4 : (op == 4) = false := by simpa using h4
  have e : opV op = .nilFunc ∧ okOp op = false := by
    unfold opV okOp
    refine ⟨by rw [if_neg h1, if_neg h2, if_neg h3, if_neg h4], ?_⟩
    rw [Bool.and_eq_false_iff, decide_eq_false_iff_not, decide_eq_false_iff_not]; omega
  rw [e.1, e.2]
  refine key none ?_ _ _ rfl
  simp [Instr.findNow, opEs, Instr.sameNow, e1, e2, e3, e4]

set_option maxRecDepth 100000 in
set_option maxHeartbeats 1000000 in
theorem operations_any (w : World) : Calls Try.prog 40 #[] w fun e w' => e = .returned (.map (some w.heap.size)) ∧ w' = w.alloc (.map opEs 4) := by
  have hmm := @run_makeMap Try.prog
  have h1 := run_ins w #[] 0 1 (.func (.func 48) #[] #[]) rfl
  have h2 := run_ins w #[⟨.int .i64 1, .func (.func 48) #[] #[], 0⟩] 1 2 (.func (.func 49) #[] #[]) rfl
  have h3 := run_ins w #[⟨.int .i64 1, .func (.func 48) #[] #[], 0⟩, ⟨.int .i64 2, .func (.func 49) #[] #[], 1⟩] 2 3 (.func (.func 50) #[] #[]) rfl
  have h4 := run_ins w #[⟨.int .i64 1, .func (.func 48) #[] #[], 0⟩, ⟨.int .i64 2, .func (.func 49) #[] #[], 1⟩, ⟨.int .i64 3, .func (.func 50) #[] #[], 2⟩] 3 4 (.func (.func 51) #[] #[]) rfl
  simp only [List.push_toArray, List.nil_append, List.cons_append, Nat.zero_add, Nat.reduceAdd] at h1 h2 h3 h4
  go_enter Try.func40, Try.ntmps40
  go_wp2
  go_ret
  exact ⟨rfl, rfl⟩
end Go.Proofs.Ytpjcndfamhehlaa
