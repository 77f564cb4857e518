/- errors.Is where the target is one of the two sentinels; errno. -/
import Derived.Test.YthoegicchjadaaaDoorVLeaf
import Derived.Test.YthoegicchjadaaaDoorChecked
import Derived.LaidEql
import Derived.Stop.Asserts
import Derived.RowKitTokens
namespace Go.Proofs.YthoegicchjadaaaDoor
open Go.RowKit Go.Extern.Stop Go.Stop Go.Extern

theorem isTypeOf (v : Value) (w : World) : (Extern.ReflectliteType.typeOf #[.iface 164 v]).run Tryd.prog w = .ok (.iface 115 (.agg #[.pointer (some ⟨3, 164, none⟩)])) w := by kernel_rfl
theorem callTypeOf (v : Value) (w : World) : (callFunc 76 #[.iface 164 v]).run Tryd.prog w = .ok (.value (.iface 115 (.agg #[.pointer (some ⟨3, 164, none⟩)]))) w := by
  rw [run_callFunc_extern Tryd.func76 (by kernel_rfl) (by kernel_rfl) (by kernel_rfl) (e := Extern.ReflectliteType.typeOf) (by kernel_rfl), isTypeOf]
  rfl
theorem isComparable (w : World) : ((Extern.ReflectliteType.method fun t => do Extern.Rtype.noPackHeld "Comparable" t; pure (.bool (← typeInfo t).comparable)) #[.agg #[.pointer (some ⟨3, 164, none⟩)]]).run Tryd.prog w = .ok (.bool true) w := by kernel_rfl
theorem callComparable (w : World) : (callFunc 124 #[.agg #[.pointer (some ⟨3, 164, none⟩)]]).run Tryd.prog w = .ok (.value (.bool true)) w := by
  rw [run_callFunc_extern Tryd.func124 (by kernel_rfl) (by kernel_rfl) (by kernel_rfl) (e := Extern.ReflectliteType.method fun t => do Extern.Rtype.noPackHeld "Comparable" t; pure (.bool (← typeInfo t).comparable)) (by kernel_rfl), isComparable]
  rfl
theorem isMethodComparable (v : Value) (w : World) : (Go.method 295 115 v "Comparable").run Tryd.prog w = .ok (124, v) w := by kernel_rfl
theorem isComp : (Tryd.prog.info? 164).map (·.comparable) = some true := by kernel_rfl
theorem isSize : (Tryd.prog.info? 183).map (·.size) = some 1 := by kernel_rfl
theorem noIsE (v : Value) (xT : TypeId) (w : World) : (Instr.typeAssert (.iface 164 v) xT 161 true).run Tryd.prog w = .ok (.tuple #[.nilIface, .bool false]) w := run_typeAssert_lacksB Tryd.underlying161 (by kernel_rfl) (by kernel_rfl) v xT w
theorem noUnwrapE (v : Value) (xT : TypeId) (w : World) : (Instr.typeAssert (.iface 164 v) xT 123 true).run Tryd.prog w = .ok (.tuple #[.nilIface, .bool false]) w := run_typeAssert_lacksB Tryd.underlying123 (by kernel_rfl) (by kernel_rfl) v xT w
theorem noUnwrapsE (v : Value) (xT : TypeId) (w : World) : (Instr.typeAssert (.iface 164 v) xT 125 true).run Tryd.prog w = .ok (.tuple #[.nilIface, .bool false]) w := run_typeAssert_lacksB Tryd.underlying125 (by kernel_rfl) (by kernel_rfl) v xT w

set_option maxRecDepth 100000 in
theorem is_same (a : Addr) (w : World) :
    Calls Tryd.prog 97 #[.iface 164 (.pointer (some a)), .iface 164 (.pointer (some a))] w fun e w' => e = .returned (.bool true) ∧ w = w' := by
  obtain ⟨i, hi, hcmp⟩ := Option.map_eq_some_iff.1 isComp
  obtain ⟨j, hj, hjs⟩ := Option.map_eq_some_iff.1 isSize
  have tT := callTypeOf
  have cT := callComparable
  have mR := isMethodComparable
  have heq := run_eql_iface_ptr_same (P := Tryd.prog) w a Tryd.underlying62 Tryd.underlying164 hi hcmp hj
  go_enter Tryd.func97, Tryd.ntmps97
  go_wp2
  refine wp_loop_rounds 1 ?_
  rw [rounds_succ]
  go_wp2
  go_ret
  exact ⟨rfl, rfl⟩

set_option maxRecDepth 100000 in
theorem is_other (a b : Addr) (ca cb : Array Value) (ta tb : TypeId) (w : World) (hne : a ≠ b) (ha : w.heap[a.block]? = some (.cells ca ta (0, 0))) (hb : w.heap[b.block]? = some (.cells cb tb (0, 0))) :
    Calls Tryd.prog 97 #[.iface 164 (.pointer (some a)), .iface 164 (.pointer (some b))] w fun e w' => e = .returned (.bool false) ∧ w = w' := by
  obtain ⟨i, hi, hcmp⟩ := Option.map_eq_some_iff.1 isComp
  obtain ⟨j, hj, hjs⟩ := Option.map_eq_some_iff.1 isSize
  have tT := callTypeOf
  have cT := callComparable
  have mR := isMethodComparable
  have nE := noIsE
  have uE := noUnwrapE
  have vE := noUnwrapsE
  have heq := run_eql_iface_ptr_other (P := Tryd.prog) w Tryd.underlying62 Tryd.underlying164 hi hcmp hj (by rw [hjs]; decide) hne ha hb
  go_enter Tryd.func97, Tryd.ntmps97
  go_wp2
  refine wp_loop_rounds 1 ?_
  rw [rounds_succ]
  go_wp2
  go_ret
  exact ⟨rfl, rfl⟩

/-- The two sentinels: the package's variables lie as start-up laid them, in blocks below n₀. -/
structure Sent (n₀ : Nat) (w : World) (a b : Addr) : Prop where
  two : 1 < n₀
  two' : 2 < n₀
  ne : a ≠ b
  la : a.block < n₀
  lb : b.block < n₀
  va : w.cell? ⟨1, 0, none⟩ = some (.iface 164 (.pointer (some a)))
  vb : w.cell? ⟨2, 0, none⟩ = some (.iface 164 (.pointer (some b)))
  ha : ∃ c t, w.heap[a.block]? = some (.cells c t (0, 0))
  hb : ∃ c t, w.heap[b.block]? = some (.cells c t (0, 0))
theorem Sent.below {n₀ : Nat} {w w' : World} {a b : Addr} (h : Sent n₀ w a b) (hb : Below n₀ w w') : Sent n₀ w' a b where
  two := h.two
  two' := h.two'
  ne := h.ne
  la := h.la
  lb := h.lb
  va := (hb.cell (p := ⟨1, 0, none⟩) h.two).trans h.va
  vb := (hb.cell (p := ⟨2, 0, none⟩) h.two').trans h.vb
  ha := by obtain ⟨c, t, e⟩ := h.ha; exact ⟨c, t, (hb.block _ h.la).trans e⟩
  hb := by obtain ⟨c, t, e⟩ := h.hb; exact ⟨c, t, (hb.block _ h.lb).trans e⟩
/-- The value of error code c: none, errMore, errNone. -/
def er (a b : Addr) (c : Int) : Value := if c = 0 then .nilIface else if c = 21 then .iface 164 (.pointer (some a)) else .iface 164 (.pointer (some b))

theorem errno_more {n₀ : Nat} (a b : Addr) (w : World) (h : Sent n₀ w a b) :
    Calls Tryd.prog 93 #[.iface 164 (.pointer (some a))] w fun e w' => e = .returned (.int .i64 21) ∧ w = w' := by
  have va := h.va
  go_enter Tryd.func93, Tryd.ntmps93
  go_wp2_with (go_at_call 97; refine (is_same _ _).mono ?_; rintro e w' ⟨rfl, rfl⟩)
  go_ret
  exact ⟨rfl, rfl⟩
theorem errno_none {n₀ : Nat} (a b : Addr) (w : World) (h : Sent n₀ w a b) :
    Calls Tryd.prog 93 #[.iface 164 (.pointer (some b))] w fun e w' => e = .returned (.int .i64 20) ∧ w = w' := by
  have va := h.va
  obtain ⟨ca, ta, ha⟩ := h.ha
  obtain ⟨cb, tb, hb⟩ := h.hb
  have H := Lib.hid ha; have H2 := Lib.hid hb
  clear ha hb
  go_enter Tryd.func93, Tryd.ntmps93
  go_wp2_with (go_at_call 97; refine (is_other b a cb ca tb ta _ (Ne.symm h.ne) H2.out H.out).mono ?_; rintro e w' ⟨rfl, rfl⟩)
  go_ret
  exact ⟨rfl, rfl⟩
/-- errno of an error: its code. -/
theorem errno_any {n₀ : Nat} (a b : Addr) (c : Int) (hc : c = 20 ∨ c = 21) (w : World) (h : Sent n₀ w a b) :
    Calls Tryd.prog 93 #[er a b c] w fun e w' => e = .returned (.int .i64 c) ∧ w = w' := by
  rcases hc with rfl | rfl
  · exact errno_none a b w h
  · exact errno_more a b w h
end Go.Proofs.YthoegicchjadaaaDoor
