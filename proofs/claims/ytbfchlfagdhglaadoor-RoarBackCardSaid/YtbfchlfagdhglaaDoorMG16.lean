import Derived.Test.YtbfchlfagdhglaaDoorMG2
import Derived.Test.YtbfchlfagdhglaaDoorChecked
import Derived.LaidEql
import Derived.Stop.Asserts
import Derived.RowKitTokens
import Derived.Test.YtbfchlfagdhglaaDoorMG13
import Derived.BigQuiet
import Derived.Test.YtbfchlfagdhglaaDoorTie
import Derived.Test.YtbfchlfagdhglaaDoorCards
import Derived.Test.YtbfchlfagdhglaaDoorMG15
import Derived.LaidMore
import Derived.LaidSub
import Derived.Stop.Joined
import Derived.Stop.LaidTwo
import Derived.SevenTiedAt
import Derived.Test.YtbfchlfagdhglaaDoorMG11
import Derived.Test.YtbfchlfagdhglaaDoorMG10
/- errors.Is where the target is one of the two sentinels; errno. -/
namespace Go.Proofs.YtbfchlfagdhglaaDoor
open Go.RowKit Go.Extern.Stop Go.Stop Go.Extern

theorem isTypeOf (v : Value) (w : World) : (Extern.ReflectliteType.typeOf #[.iface 139 v]).run Tryd.prog w = .ok (.iface 118 (.agg #[.pointer (some ⟨5, 139, none⟩)])) w := by kernel_rfl
theorem callTypeOf (v : Value) (w : World) : (callFunc 45 #[.iface 139 v]).run Tryd.prog w = .ok (.value (.iface 118 (.agg #[.pointer (some ⟨5, 139, none⟩)]))) w := by
  rw [run_callFunc_extern Tryd.func45 (by kernel_rfl) (by kernel_rfl) (by kernel_rfl) (e := Extern.ReflectliteType.typeOf) (by kernel_rfl), isTypeOf]
  rfl
theorem isComparable (w : World) : ((Extern.ReflectliteType.method fun t => do Extern.Rtype.noPackHeld "Comparable" t; pure (.bool (← typeInfo t).comparable)) #[.agg #[.pointer (some ⟨5, 139, none⟩)]]).run Tryd.prog w = .ok (.bool true) w := by kernel_rfl
theorem callComparable (w : World) : (callFunc 84 #[.agg #[.pointer (some ⟨5, 139, none⟩)]]).run Tryd.prog w = .ok (.value (.bool true)) w := by
  rw [run_callFunc_extern Tryd.func84 (by kernel_rfl) (by kernel_rfl) (by kernel_rfl) (e := Extern.ReflectliteType.method fun t => do Extern.Rtype.noPackHeld "Comparable" t; pure (.bool (← typeInfo t).comparable)) (by kernel_rfl), isComparable]
  rfl
theorem isMethodComparable (v : Value) (w : World) : (Go.method 276 118 v "Comparable").run Tryd.prog w = .ok (84, v) w := by kernel_rfl
theorem isComp : (Tryd.prog.info? 139).map (·.comparable) = some true := by kernel_rfl
theorem isSize : (Tryd.prog.info? 164).map (·.size) = some 1 := by kernel_rfl
theorem noIsE (v : Value) (xT : TypeId) (w : World) : (Instr.typeAssert (.iface 139 v) xT 120 true).run Tryd.prog w = .ok (.tuple #[.nilIface, .bool false]) w := run_typeAssert_lacksB Tryd.underlying120 (by kernel_rfl) (by kernel_rfl) v xT w
theorem noUnwrapE (v : Value) (xT : TypeId) (w : World) : (Instr.typeAssert (.iface 139 v) xT 123 true).run Tryd.prog w = .ok (.tuple #[.nilIface, .bool false]) w := run_typeAssert_lacksB Tryd.underlying123 (by kernel_rfl) (by kernel_rfl) v xT w
theorem noUnwrapsE (v : Value) (xT : TypeId) (w : World) : (Instr.typeAssert (.iface 139 v) xT 125 true).run Tryd.prog w = .ok (.tuple #[.nilIface, .bool false]) w := run_typeAssert_lacksB Tryd.underlying125 (by kernel_rfl) (by kernel_rfl) v xT w

set_option maxRecDepth 100000 in
theorem is_same (a : Addr) (w : World) :
    Calls Tryd.prog 34 #[.iface 139 (.pointer (some a)), .iface 139 (.pointer (some a))] w fun e w' => e = .returned (.bool true) ∧ w = w' := by
  obtain ⟨i, hi, hcmp⟩ := Option.map_eq_some_iff.1 isComp
  obtain ⟨j, hj, hjs⟩ := Option.map_eq_some_iff.1 isSize
  have tT := callTypeOf
  have cT := callComparable
  have mR := isMethodComparable
  have heq := run_eql_iface_ptr_same (P := Tryd.prog) w a Tryd.underlying54 Tryd.underlying139 hi hcmp hj
  go_enter Tryd.func34, Tryd.ntmps34
  go_wp2
  refine wp_loop_rounds 1 ?_
  rw [rounds_succ]
  go_wp2
  go_ret
  exact ⟨rfl, rfl⟩

set_option maxRecDepth 100000 in
theorem is_other (a b : Addr) (ca cb : Array Value) (ta tb : TypeId) (w : World) (hne : a ≠ b) (ha : w.heap[a.block]? = some (.cells ca ta (0, 0))) (hb : w.heap[b.block]? = some (.cells cb tb (0, 0))) :
    Calls Tryd.prog 34 #[.iface 139 (.pointer (some a)), .iface 139 (.pointer (some b))] w fun e w' => e = .returned (.bool false) ∧ w = w' := by
  obtain ⟨i, hi, hcmp⟩ := Option.map_eq_some_iff.1 isComp
  obtain ⟨j, hj, hjs⟩ := Option.map_eq_some_iff.1 isSize
  have tT := callTypeOf
  have cT := callComparable
  have mR := isMethodComparable
  have nE := noIsE
  have uE := noUnwrapE
  have vE := noUnwrapsE
  have heq := run_eql_iface_ptr_other (P := Tryd.prog) w Tryd.underlying54 Tryd.underlying139 hi hcmp hj (by rw [hjs]; decide) hne ha hb
  go_enter Tryd.func34, Tryd.ntmps34
  go_wp2
  refine wp_loop_rounds 1 ?_
  rw [rounds_succ]
  go_wp2
  go_ret
  exact ⟨rfl, rfl⟩

/-- The two sentinels: the package's variables lie as start-up laid them, in blocks below n₀. -/
structure Sent (n₀ : Nat) (w : World) (a b : Addr) : Prop where
  two : 3 < n₀
  two' : 4 < n₀
  ne : a ≠ b
  la : a.block < n₀
  lb : b.block < n₀
  va : w.cell? ⟨3, 0, none⟩ = some (.iface 139 (.pointer (some a)))
  vb : w.cell? ⟨4, 0, none⟩ = some (.iface 139 (.pointer (some b)))
  ha : ∃ c t, w.heap[a.block]? = some (.cells c t (0, 0))
  hb : ∃ c t, w.heap[b.block]? = some (.cells c t (0, 0))
theorem Sent.below {n₀ : Nat} {w w' : World} {a b : Addr} (h : Sent n₀ w a b) (hb : Below n₀ w w') : Sent n₀ w' a b where
  two := h.two
  two' := h.two'
  ne := h.ne
  la := h.la
  lb := h.lb
  va := (hb.cell (p := ⟨3, 0, none⟩) h.two).trans h.va
  vb := (hb.cell (p := ⟨4, 0, none⟩) h.two').trans h.vb
  ha := by obtain ⟨c, t, e⟩ := h.ha; exact ⟨c, t, (hb.block _ h.la).trans e⟩
  hb := by obtain ⟨c, t, e⟩ := h.hb; exact ⟨c, t, (hb.block _ h.lb).trans e⟩
/-- The value of error code c: none, errMore, errNone. -/
def er (a b : Addr) (c : Int) : Value := if c = 0 then .nilIface else if c = 21 then .iface 139 (.pointer (some a)) else .iface 139 (.pointer (some b))

theorem errno_more {n₀ : Nat} (a b : Addr) (w : World) (h : Sent n₀ w a b) :
    Calls Tryd.prog 58 #[.iface 139 (.pointer (some a))] w fun e w' => e = .returned (.int .i64 21) ∧ w = w' := by
  have va := h.va
  go_enter Tryd.func58, Tryd.ntmps58
  go_wp2_with (go_at_call 34; refine (is_same _ _).mono ?_; rintro e w' ⟨rfl, rfl⟩)
  go_ret
  exact ⟨rfl, rfl⟩
theorem errno_none {n₀ : Nat} (a b : Addr) (w : World) (h : Sent n₀ w a b) :
    Calls Tryd.prog 58 #[.iface 139 (.pointer (some b))] w fun e w' => e = .returned (.int .i64 20) ∧ w = w' := by
  have va := h.va
  obtain ⟨ca, ta, ha⟩ := h.ha
  obtain ⟨cb, tb, hb⟩ := h.hb
  have H := Lib.hid ha; have H2 := Lib.hid hb
  clear ha hb
  go_enter Tryd.func58, Tryd.ntmps58
  go_wp2_with (go_at_call 34; refine (is_other b a cb ca tb ta _ (Ne.symm h.ne) H2.out H.out).mono ?_; rintro e w' ⟨rfl, rfl⟩)
  go_ret
  exact ⟨rfl, rfl⟩
/-- errno of an error: its code. -/
theorem errno_any {n₀ : Nat} (a b : Addr) (c : Int) (hc : c = 20 ∨ c = 21) (w : World) (h : Sent n₀ w a b) :
    Calls Tryd.prog 58 #[er a b c] w fun e w' => e = .returned (.int .i64 c) ∧ w = w' := by
  rcases hc with rfl | rfl
  · exact errno_none a b w h
  · exact errno_more a b w h
end Go.Proofs.YtbfchlfagdhglaaDoor
/- Bitmaps of bytes: pure mathematics. -/
namespace Go.Proofs.YtbfchlfagdhglaaDoor
open Go.RowKit

/-- How many bytes the chunk has that bytes begin with. -/
def chSize (s : List UInt8) : Nat := 4 + byteC s 2
def chOk (s : List UInt8) : Prop := 3 ≤ s.length ∧ chSize s ≤ s.length
instance (s : List UInt8) : Decidable (chOk s) := by unfold chOk; infer_instance
def chGet (s : List UInt8) : Ch := ((byteC s 0 : Nat), (byteC s 1 : Nat), (s.take (chSize s)).drop 3)
theorem chGet_ok (s : List UInt8) : (chGet s).2.2.length ≤ 300 := by
  show ((s.take (chSize s)).drop 3).length ≤ 300
  rw [List.length_drop, List.length_take]
  have := byteC_lt s 2
  unfold chSize; omega
/-- The chunks that bytes begin with, and what is behind them. -/
def chunksB : Nat → List UInt8 → Option (List Ch × List UInt8)
  | 0, s => some ([], s)
  | n + 1, s => if chOk s then (chunksB n (s.drop (chSize s))).map fun p => (chGet s :: p.1, p.2) else none
def decTail (s0 : List UInt8) (o : Option (List Ch × List UInt8)) : List Ch × List UInt8 × Int :=
  match o with
  | none => ([], s0, 21)
  | some p => if RightZ p.1 then (p.1, p.2, 0) else ([], s0, 70)
/-- What bytes are decoded to. -/
def decZ (s : List UInt8) : List Ch × List UInt8 × Int :=
  if vcode s ≠ 0 then ([], s, vcode s) else if 256 < vnum s then ([], s, 70) else decTail s (chunksB (vnum s) (s.drop (vsize s)))
theorem decZ_err {s : List UInt8} (h : vcode s ≠ 0) : decZ s = ([], s, vcode s) := if_pos h
theorem decZ_big {s : List UInt8} (h : vcode s = 0) (k : 256 < vnum s) : decZ s = ([], s, 70) := by unfold decZ; rw [if_neg (fun c => c h), if_pos k]
theorem decZ_go {s : List UInt8} (h : vcode s = 0) (k : ¬ 256 < vnum s) : decZ s = decTail s (chunksB (vnum s) (s.drop (vsize s))) := by unfold decZ; rw [if_neg (fun c => c h), if_neg k]
/-- k of n chunks have come: r; what is behind them: q. -/
def Come (n : Nat) (s : List UInt8) (k : Nat) (r : List Ch) (q : List UInt8) : Prop := k ≤ n ∧ chunksB n s = (chunksB (n - k) q).map (fun p => (r ++ p.1, p.2)) ∧ r.length = k ∧ Ok3 r
theorem Come.start (n : Nat) (s : List UInt8) : Come n s 0 [] s := ⟨Nat.zero_le _, by rw [Nat.sub_zero]; cases chunksB n s <;> simp, rfl, fun c h => by cases h⟩
theorem Come.step {n k : Nat} {s q : List UInt8} {r : List Ch} (h : Come n s k r q) (hk : k < n) (ho : chOk q) : Come n s (k + 1) (r ++ [chGet q]) (q.drop (chSize q)) := by
  obtain ⟨_, h2, h3, h4⟩ := h
  refine ⟨hk, ?_, by rw [List.length_append, h3]; rfl, fun c hc => ?_⟩
  · rw [h2, show n - k = (n - (k + 1)) + 1 by omega]
    show Option.map _ (if chOk q then _ else _) = _
    rw [if_pos ho]
    cases chunksB (n - (k + 1)) (q.drop (chSize q)) <;> simp
  · rcases List.mem_append.1 hc with hc | hc
    · exact h4 c hc
    · rw [List.mem_singleton.1 hc]; exact chGet_ok q
theorem Come.none {n k : Nat} {s q : List UInt8} {r : List Ch} (h : Come n s k r q) (hk : k < n) (ho : ¬ chOk q) : chunksB n s = none := by
  rw [h.2.1, show n - k = (n - (k + 1)) + 1 by omega]
  show Option.map _ (if chOk q then _ else _) = _
  rw [if_neg ho]; rfl
theorem Come.done {n : Nat} {s q : List UInt8} {r : List Ch} (h : Come n s n r q) : chunksB n s = some (r, q) := by
  rw [h.2.1, Nat.sub_self]; simp [chunksB]
end Go.Proofs.YtbfchlfagdhglaaDoor
/- The sentinels of roar; errno; what is taken off a text. -/
namespace Go.Proofs.YtbfchlfagdhglaaDoor
open Go.RowKit

/-- An error. -/
def eV (a : Addr) : Value := .iface 139 (.pointer (some a))
/-- The three sentinels: the package's variables lie as start-up laid them, in blocks below n₀. -/
structure Sen3 (n₀ : Nat) (w : World) (m v r : Addr) : Prop where
  gm : 1 < n₀
  gv : 2 < n₀
  gr : 0 < n₀
  lm : m.block < n₀
  lv : v.block < n₀
  lr : r.block < n₀
  vm : w.cell? ⟨1, 0, none⟩ = some (eV m)
  vv : w.cell? ⟨2, 0, none⟩ = some (eV v)
  vr : w.cell? ⟨0, 0, none⟩ = some (eV r)
  hm : ∃ c t, w.heap[m.block]? = some (.cells c t (0, 0))
  hv : ∃ c t, w.heap[v.block]? = some (.cells c t (0, 0))
  hr : ∃ c t, w.heap[r.block]? = some (.cells c t (0, 0))
  mv : m ≠ v
  mr : m ≠ r
  vr' : v ≠ r
theorem Sen3.below {n₀ : Nat} {w w' : World} {m v r : Addr} (h : Sen3 n₀ w m v r) (hb : Below n₀ w w') : Sen3 n₀ w' m v r where
  gm := h.gm
  gv := h.gv
  gr := h.gr
  lm := h.lm
  lv := h.lv
  lr := h.lr
  vm := (hb.cell (p := ⟨1, 0, none⟩) h.gm).trans h.vm
  vv := (hb.cell (p := ⟨2, 0, none⟩) h.gv).trans h.vv
  vr := (hb.cell (p := ⟨0, 0, none⟩) h.gr).trans h.vr
  hm := by obtain ⟨c, t, e⟩ := h.hm; exact ⟨c, t, (hb.block _ h.lm).trans e⟩
  hv := by obtain ⟨c, t, e⟩ := h.hv; exact ⟨c, t, (hb.block _ h.lv).trans e⟩
  hr := by obtain ⟨c, t, e⟩ := h.hr; exact ⟨c, t, (hb.block _ h.lr).trans e⟩
  mv := h.mv
  mr := h.mr
  vr' := h.vr'
theorem errnoR_more {n₀ : Nat} (m v r : Addr) (w : World) (h : Sen3 n₀ w m v r) : Calls Tryd.prog 21 #[eV m] w fun e w' => e = .returned (.int .i64 21) ∧ w = w' := by
  have vm := h.vm
  unfold eV at *
  go_enter Tryd.func21, Tryd.ntmps21
  go_wp2_with (go_at_call 34; refine (is_same _ _).mono ?_; rintro e w' ⟨rfl, rfl⟩)
  go_ret
  exact ⟨rfl, rfl⟩
theorem errnoR_varint {n₀ : Nat} (m v r : Addr) (w : World) (h : Sen3 n₀ w m v r) : Calls Tryd.prog 21 #[eV v] w fun e w' => e = .returned (.int .i64 20) ∧ w = w' := by
  have vm := h.vm; have vv := h.vv
  obtain ⟨ca, ta, ha⟩ := h.hm
  obtain ⟨cb, tb, hb⟩ := h.hv
  have H := Lib.hid ha; have H2 := Lib.hid hb
  have hne := Ne.symm h.mv
  clear ha hb h
  unfold eV at *
  go_enter Tryd.func21, Tryd.ntmps21
  go_wp2_with fail
  refine (is_other v m cb ca tb ta _ hne H2.out H.out).mono ?_
  rintro e w' ⟨rfl, rfl⟩
  go_wp2_with fail
  refine (is_same _ _).mono ?_
  rintro e w' ⟨rfl, rfl⟩
  go_wp2
  go_ret
  exact ⟨rfl, rfl⟩
theorem errnoR_roar {n₀ : Nat} (m v r : Addr) (w : World) (h : Sen3 n₀ w m v r) : Calls Tryd.prog 21 #[eV r] w fun e w' => e = .returned (.int .i64 70) ∧ w = w' := by
  have vm := h.vm; have vv := h.vv
  obtain ⟨ca, ta, ha⟩ := h.hm
  obtain ⟨cb, tb, hb⟩ := h.hv
  obtain ⟨cc, tc, hc⟩ := h.hr
  have H := Lib.hid ha; have H2 := Lib.hid hb; have H3 := Lib.hid hc
  have hne := Ne.symm h.mr
  have hne2 := Ne.symm h.vr'
  clear ha hb hc h
  unfold eV at *
  go_enter Tryd.func21, Tryd.ntmps21
  go_wp2_with fail
  refine (is_other r m cc ca tc ta _ hne H3.out H.out).mono ?_
  rintro e w' ⟨rfl, rfl⟩
  go_wp2_with fail
  refine (is_other r v cc cb tc tb _ hne2 H3.out H2.out).mono ?_
  rintro e w' ⟨rfl, rfl⟩
  go_wp2
  go_ret
  exact ⟨rfl, rfl⟩

/-! ### take -/
/-- What take answers. -/
def TakeR (s : List UInt8) (k : Nat) (m : Addr) (B : Nat) (W : World) (e : Ending) (w' : World) : Prop :=
  (k ≤ s.length ∧ e = .returned (.tuple #[.string ⟨(s.take k).toArray⟩, .nilIface]) ∧ w' = W.setCell ⟨B, 0, none⟩ (.string ⟨(s.drop k).toArray⟩)) ∨
  (¬ k ≤ s.length ∧ e = .returned (.tuple #[.string ⟨#[]⟩, eV m]) ∧ Below W.heap.size W w')
set_option maxRecDepth 100000 in
theorem take_any {n₀ : Nat} (m v r : Addr) (s : List UInt8) (_hs : s.length ≤ 9223372036854775807) (k : Nat) (_hk : k ≤ 1000) (B : Nat) (W : World) (h : Sen3 n₀ W m v r) (hB : Blk W B 52 #[.string ⟨s.toArray⟩]) :
    Calls Tryd.prog 44 #[.pointer (some ⟨B, 0, none⟩), .int .i64 (k : Nat)] W (TakeR s k m B W) := by
  have c0 := hB.cell 0; have f0 := hB.frozen 0
  dsimp at c0
  have vm := h.vm
  by_cases hle : k ≤ s.length
  · have hgt : ¬ (k : Int) > (s.length : Nat) := by omega
    have hle2 : (k : Int) ≤ (s.length : Nat) := by omega
    go_enter Tryd.func44, Tryd.ntmps44
    go_wp2
    go_ret2
    exact .inl ⟨hle, by first | rfl | simp [ext_mk], by simp [ext_mk]⟩
  · have hgt : (k : Int) > (s.length : Nat) := by omega
    unfold eV at *
    go_enter Tryd.func44, Tryd.ntmps44
    go_wp2
    go_region
    all_goals
      go_wp2
      go_ret2
      exact .inr ⟨hle, rfl, (Below.refl _ W).drew⟩
end Go.Proofs.YtbfchlfagdhglaaDoor
/- The rows of RoarCodes and RoarBack: five listed sentinels. -/
namespace Go.Proofs.YtbfchlfagdhglaaDoor
set_option maxRecDepth 100000
open Go.ChangeShapes Go.WideShapes Go.ChangeAt Go.RowKit Go.Joins
open Go.ChangeMaps (open_string shut_string)

theorem gMore : Tryd.prog.globalNamed "tesserae/varint.errMore" = some 3 := by kernel_rfl
theorem gNone : Tryd.prog.globalNamed "tesserae/varint.errNone" = some 4 := by kernel_rfl
theorem tMore : (Tryd.prog.globals[3]?).map (·.type) = some 54 := by kernel_rfl
theorem tNone : (Tryd.prog.globals[4]?).map (·.type) = some 54 := by kernel_rfl
theorem cellsE : Tryd.prog.cellsOf 164 = 1 := by kernel_rfl
theorem cellsS : Tryd.prog.cellsOf 9 = 1 := by kernel_rfl
theorem starE : "*" ++ "errors.errorString" = "*errors.errorString" := by decide
theorem rowE (u : TypeId) (h : Tryd.prog.typeName? 3 u = some "*errors.errorString") : u = 139 :=
  typeName_ptr_named (nm := "errors.errorString") (by rw [starE]; kernel_rfl) (by kernel_rfl) (by decide) u (by rw [starE]; exact h)

theorem gRMore : Tryd.prog.globalNamed "tesserae/roar.errMore" = some 1 := by kernel_rfl
theorem tRMore : (Tryd.prog.globals[1]?).map (·.type) = some 54 := by kernel_rfl
theorem gRVarint : Tryd.prog.globalNamed "tesserae/roar.errVarint" = some 2 := by kernel_rfl
theorem tRVarint : (Tryd.prog.globals[2]?).map (·.type) = some 54 := by kernel_rfl
theorem gRRoar : Tryd.prog.globalNamed "tesserae/roar.errRoar" = some 0 := by kernel_rfl
theorem tRRoar : (Tryd.prog.globals[0]?).map (·.type) = some 54 := by kernel_rfl

/-- The listed variables. -/
def laid5 : List (String × DataW Unit) := [("tesserae/varint.errMore", Rows.laid_tesserae_varint_errMore), ("tesserae/varint.errNone", Rows.laid_tesserae_varint_errNone), ("tesserae/roar.errMore", Rows.laid_tesserae_roar_errMore), ("tesserae/roar.errVarint", Rows.laid_tesserae_roar_errVarint), ("tesserae/roar.errRoar", Rows.laid_tesserae_roar_errRoar)]
theorem pairV {W : World} (h : laidMet Tryd.prog laid5 W) : ∃ a0 a1 : Addr, W.var? Tryd.prog "tesserae/varint.errMore" = some #[.iface 139 (.pointer (some a0))] ∧ W.var? Tryd.prog "tesserae/varint.errNone" = some #[.iface 139 (.pointer (some a1))] ∧ a0 ≠ a1 ∧ (∃ c t, W.heap[a0.block]? = some (.cells c t (0, 0))) ∧ ∃ c t, W.heap[a1.block]? = some (.cells c t (0, 0)) := by
  have h2 : laidMet Tryd.prog [("tesserae/varint.errMore", Rows.laid_tesserae_varint_errMore), ("tesserae/varint.errNone", Rows.laid_tesserae_varint_errNone)] W := h.filter fun p => p.1 == "tesserae/varint.errMore" || p.1 == "tesserae/varint.errNone"
  obtain ⟨a0, a1, s0, s1, c0, c1, t0, t1, hv0, hv1, hc0, hs0, hz0, hc1, hs1, hz1, hne, hb0, hb1⟩ := laid_sentinels2 h2 gMore tMore gNone tNone Tryd.underlying54 rowE Tryd.underlying139 Tryd.underlying164 rfl rfl Tryd.underlying9 cellsE cellsS
  exact ⟨a0, a1, hv0, hv1, hne, ⟨_, _, hb0⟩, ⟨_, _, hb1⟩⟩
theorem pairMV {W : World} (h : laidMet Tryd.prog laid5 W) : ∃ a0 a1 : Addr, W.var? Tryd.prog "tesserae/roar.errMore" = some #[.iface 139 (.pointer (some a0))] ∧ W.var? Tryd.prog "tesserae/roar.errVarint" = some #[.iface 139 (.pointer (some a1))] ∧ a0 ≠ a1 ∧ (∃ c t, W.heap[a0.block]? = some (.cells c t (0, 0))) ∧ ∃ c t, W.heap[a1.block]? = some (.cells c t (0, 0)) := by
  have h2 : laidMet Tryd.prog [("tesserae/roar.errMore", Rows.laid_tesserae_roar_errMore), ("tesserae/roar.errVarint", Rows.laid_tesserae_roar_errVarint)] W := h.filter fun p => p.1 == "tesserae/roar.errMore" || p.1 == "tesserae/roar.errVarint"
  obtain ⟨a0, a1, s0, s1, c0, c1, t0, t1, hv0, hv1, hc0, hs0, hz0, hc1, hs1, hz1, hne, hb0, hb1⟩ := laid_sentinels2 h2 gRMore tRMore gRVarint tRVarint Tryd.underlying54 rowE Tryd.underlying139 Tryd.underlying164 rfl rfl Tryd.underlying9 cellsE cellsS
  exact ⟨a0, a1, hv0, hv1, hne, ⟨_, _, hb0⟩, ⟨_, _, hb1⟩⟩
theorem pairMR {W : World} (h : laidMet Tryd.prog laid5 W) : ∃ a0 a1 : Addr, W.var? Tryd.prog "tesserae/roar.errMore" = some #[.iface 139 (.pointer (some a0))] ∧ W.var? Tryd.prog "tesserae/roar.errRoar" = some #[.iface 139 (.pointer (some a1))] ∧ a0 ≠ a1 ∧ (∃ c t, W.heap[a0.block]? = some (.cells c t (0, 0))) ∧ ∃ c t, W.heap[a1.block]? = some (.cells c t (0, 0)) := by
  have h2 : laidMet Tryd.prog [("tesserae/roar.errMore", Rows.laid_tesserae_roar_errMore), ("tesserae/roar.errRoar", Rows.laid_tesserae_roar_errRoar)] W := h.filter fun p => p.1 == "tesserae/roar.errMore" || p.1 == "tesserae/roar.errRoar"
  obtain ⟨a0, a1, s0, s1, c0, c1, t0, t1, hv0, hv1, hc0, hs0, hz0, hc1, hs1, hz1, hne, hb0, hb1⟩ := laid_sentinels2 h2 gRMore tRMore gRRoar tRRoar Tryd.underlying54 rowE Tryd.underlying139 Tryd.underlying164 rfl rfl Tryd.underlying9 cellsE cellsS
  exact ⟨a0, a1, hv0, hv1, hne, ⟨_, _, hb0⟩, ⟨_, _, hb1⟩⟩
theorem pairVR {W : World} (h : laidMet Tryd.prog laid5 W) : ∃ a0 a1 : Addr, W.var? Tryd.prog "tesserae/roar.errVarint" = some #[.iface 139 (.pointer (some a0))] ∧ W.var? Tryd.prog "tesserae/roar.errRoar" = some #[.iface 139 (.pointer (some a1))] ∧ a0 ≠ a1 ∧ (∃ c t, W.heap[a0.block]? = some (.cells c t (0, 0))) ∧ ∃ c t, W.heap[a1.block]? = some (.cells c t (0, 0)) := by
  have h2 : laidMet Tryd.prog [("tesserae/roar.errVarint", Rows.laid_tesserae_roar_errVarint), ("tesserae/roar.errRoar", Rows.laid_tesserae_roar_errRoar)] W := h.filter fun p => p.1 == "tesserae/roar.errVarint" || p.1 == "tesserae/roar.errRoar"
  obtain ⟨a0, a1, s0, s1, c0, c1, t0, t1, hv0, hv1, hc0, hs0, hz0, hc1, hs1, hz1, hne, hb0, hb1⟩ := laid_sentinels2 h2 gRVarint tRVarint gRRoar tRRoar Tryd.underlying54 rowE Tryd.underlying139 Tryd.underlying164 rfl rfl Tryd.underlying9 cellsE cellsS
  exact ⟨a0, a1, hv0, hv1, hne, ⟨_, _, hb0⟩, ⟨_, _, hb1⟩⟩

theorem ptr_same {W : World} {n : String} {a b : Addr} (h : W.var? Tryd.prog n = some #[.iface 139 (.pointer (some a))]) (k : W.var? Tryd.prog n = some #[.iface 139 (.pointer (some b))]) : a = b := by
  rw [h] at k
  simpa using k
theorem five_of_laid {W : World} (h : laidMet Tryd.prog laid5 W) : ∃ a b m v r, Sent W.heap.size W a b ∧ Sen3 W.heap.size W m v r := by
  obtain ⟨a, b, ha, hb, hab, ⟨ca, ta, xa⟩, ⟨cb, tb, xb⟩⟩ := pairV h
  obtain ⟨m, v, hm, hv, hmv, ⟨cm, tm, xm⟩, ⟨cv, tv, xv⟩⟩ := pairMV h
  obtain ⟨m2, r, hm2, hr, hmr, _, ⟨cr, tr, xr⟩⟩ := pairMR h
  obtain ⟨v2, r2, hv2, hr2, hvr, _, _⟩ := pairVR h
  obtain rfl := ptr_same hm hm2
  obtain rfl := ptr_same hv hv2
  obtain rfl := ptr_same hr hr2
  have ea := World.var?_cell gMore ha 0
  have eb := World.var?_cell gNone hb 0
  have em := World.var?_cell gRMore hm 0
  have ev := World.var?_cell gRVarint hv 0
  have er := World.var?_cell gRRoar hr 0
  exact ⟨a, b, m, v, r, ⟨World.block_lt_of_cell? W _ ea, World.block_lt_of_cell? W _ eb, hab, (Array.getElem?_eq_some_iff.1 xa).1, (Array.getElem?_eq_some_iff.1 xb).1, by simpa using ea, by simpa using eb, ⟨_, _, xa⟩, ⟨_, _, xb⟩⟩,
    ⟨World.block_lt_of_cell? W _ em, World.block_lt_of_cell? W _ ev, World.block_lt_of_cell? W _ er, (Array.getElem?_eq_some_iff.1 xm).1, (Array.getElem?_eq_some_iff.1 xv).1, (Array.getElem?_eq_some_iff.1 xr).1, by simpa [eV] using em, by simpa [eV] using ev, by simpa [eV] using er, ⟨_, _, xm⟩, ⟨_, _, xv⟩, ⟨_, _, xr⟩, hmv, hmr, hvr⟩⟩

theorem laid_plain (w : World) : laidMetH Tryd.prog laid5 w = laidMet Tryd.prog laid5 w := MakeChecks.laidMetH_plain _ _ _ (by kernel_rfl)
theorem door_met (os : Os) (args : Array Value) : laidMetH Tryd.prog laid5 ((World.doorLaid Tryd.prog 104 os).forCall (fun _ _ => 0) ⟨#[], args, []⟩).memory :=
  laidMetH_of_parts3 (fuel := 8) (laidMet_of_run' 8 (by kernel_rfl) (by kernel_rfl)) (by kernel_rfl) (by kernel_rfl)

section
variable {H : Type} {enc : TypeId × Value → H} {w : World} {base : Nat} {spare : Nat → Bool} {held : Bool}
/-- A text: its bytes; it reads so wherever it is read. -/
theorem open_text {r : Reach} {b0 : Nat} {v : Value} {d : DataW H} {p : List MemPlace} (hv : Value.okWide Tryd.prog w r b0 9 v) (h : DataW.Trod enc Tryd.prog w base spare held 9 v d p) :
    ∃ l : List UInt8, v = .string ⟨l.toArray⟩ ∧ l.length ≤ 9223372036854775807 ∧ p = [] ∧
      ∀ (w' : World) (base' : Nat) (sp : Nat → Bool) (hd : Bool), DataW.Trod enc Tryd.prog w' base' sp hd 9 (.string ⟨l.toArray⟩) d [] := by
  obtain ⟨s, rfl, rfl, rfl, hs⟩ := open_string Tryd.underlying9 hv h
  have e : (⟨s.data.toList.toArray⟩ : ByteArray) = s := by cases s; simp
  have hl : s.data.toList.length ≤ 9223372036854775807 := by
    unfold maxLen at hs
    rw [Array.length_toList]
    exact hs
  refine ⟨s.data.toList, by rw [e], hl, rfl, fun w' base' sp hd => ?_⟩
  rw [e]
  exact shut_string Tryd.underlying9 hs
end
end Go.Proofs.YtbfchlfagdhglaaDoor
/- A chunk read off a text's bytes. -/
namespace Go.Proofs.YtbfchlfagdhglaaDoor
open Go.RowKit
attribute [local go_sem] Oper.semAt_some

theorem below_grownR {A C : World} (h : Below A.heap.size A C) (row : Option Nat) : A.grownBy C row := ⟨h.os, h.tape, h.output, h.size, fun k hk _ => h.block k hk⟩
/-- The reader's text; all else is as it was. -/
def ChW (W : World) (B : Nat) (s : List UInt8) (W' : World) : Prop := Blk W' B 52 #[.string ⟨s.toArray⟩] ∧ W.grownBy W' (some B)
theorem ChW.under {W A C : World} {B : Nat} {s : List UInt8} (h : ChW W B s A) (hb : Below A.heap.size A C) : ChW W B s C := ⟨h.1.under hb, h.2.trans (below_grownR hb _)⟩
theorem ChW.set {W A : World} {B : Nat} {s : List UInt8} (h : ChW W B s A) (q : List UInt8) : ChW W B q (A.setCell ⟨B, 0, none⟩ (.string ⟨q.toArray⟩)) := ⟨h.1.set_ 0 _, h.2.trans (grownBy_setCell' A B _)⟩
theorem ChW.far {W A : World} {B : Nat} {s : List UInt8} (h : ChW W B s A) {p : Addr} (hp : W.heap.size ≤ p.block) (hne : B ≠ p.block) (v : Value) : ChW W B s (A.setCell p v) := by
  refine ⟨h.1.far hne v, ⟨h.2.os, h.2.tape, h.2.output, Nat.le_trans h.2.size (by simp), fun k hk hr => ?_⟩⟩
  rw [Below.heap_setCell _ _ _ _ (by omega)]
  exact h.2.block k hk hr
theorem ret_chunk2 {fn : Func} {t u : Tmp} {Q : Ending → World → Prop} {a : Act} {w : World} {g : Nat} {x y z : Value} (h : fn.results = #[.cell t 48, .tmp u]) (hp : a.tmps.getD t undef = .pointer (some ⟨g, 0, none⟩)) (hb : Blk w g 48 #[x, y, z]) (hd : a.defers = []) (hQ : Q (.returned (.tuple #[.agg #[x, y, z], a.tmps.getD u undef])) w) : bodyPost Tryd.prog fn Q .ret a w :=
  bodyPost_ret (results_cell2 h hp (load_chunk hb)) hd hQ
theorem TakeR.form {s : List UInt8} {k : Nat} {m : Addr} {B : Nat} {W : World} {e : Ending} {w' : World} (h : TakeR s k m B W e w') : ∃ (x : List UInt8) (y : Value), e = .returned (.tuple #[.string ⟨x.toArray⟩, y]) ∧
    ((k ≤ s.length ∧ x = s.take k ∧ y = .nilIface ∧ w' = W.setCell ⟨B, 0, none⟩ (.string ⟨(s.drop k).toArray⟩)) ∨ (¬ k ≤ s.length ∧ x = [] ∧ y = eV m ∧ Below W.heap.size W w')) := by
  rcases h with ⟨h1, h2, h3⟩ | ⟨h1, h2, h3⟩
  · exact ⟨_, _, h2, .inl ⟨h1, rfl, rfl, h3⟩⟩
  · exact ⟨[], _, h2, .inr ⟨h1, rfl, rfl, h3⟩⟩
/-- What chunk answers. -/
def ChunkR (s : List UInt8) (m : Addr) (B : Nat) (W : World) (e : Ending) (w' : World) : Prop :=
  (chOk s ∧ e = .returned (.tuple #[.agg #[.int .i64 (chGet s).1, .int .i64 (chGet s).2.1, .string ⟨(chGet s).2.2.toArray⟩], .nilIface]) ∧ ChW W B (s.drop (chSize s)) w') ∨
  (¬ chOk s ∧ e = .returned (.tuple #[.agg #[.int .i64 0, .int .i64 0, .string ⟨#[]⟩], eV m]) ∧ ∃ q, ChW W B q w')

set_option maxRecDepth 100000 in
set_option maxHeartbeats 2000000 in
theorem chunk_any {n₀ : Nat} (m v r : Addr) (s : List UInt8) (hs : s.length ≤ 9223372036854775807) (B : Nat) (W : World) (h : Sen3 n₀ W m v r) (hn₀ : n₀ ≤ B) (hB : Blk W B 52 #[.string ⟨s.toArray⟩]) :
    Calls Tryd.prog 33 #[.pointer (some ⟨B, 0, none⟩)] W (ChunkR s m B W) := by
  have hBl := hB.lt
  have hA : Below W.heap.size W (W.alloc (.cells #[.int .i64 0, .int .i64 0, .string ⟨#[]⟩] 48)) := (Below.refl _ W).alloc (Nat.le_refl _) _
  have bX := Blk.new W 48 #[.int .i64 0, .int .i64 0, .string ⟨#[]⟩]
  have hC0 : ChW W B s (W.alloc (.cells #[.int .i64 0, .int .i64 0, .string ⟨#[]⟩] 48)) := ChW.under ⟨hB, World.grownBy.refl W _⟩ hA
  have hS0 := h.below (hA.mono (by omega))
  have HT := Lib.hid (take_any m v r s hs 3 (by decide) B _ hS0 hC0.1)
  have HC0 := Lib.hid hC0; have HX := Lib.hid bX
  clear hA hC0 bX hB
  go_enter Tryd.func33, Tryd.ntmps33
  go_wp2_with fail
  generalize W.alloc (.cells #[.int .i64 0, .int .i64 0, .string ⟨#[]⟩] 48) = W0 at *
  refine HT.out.mono ?_
  rintro e w1 (⟨hle, rfl, rfl⟩ | ⟨hle, rfl, hb⟩)
  · have HC1 := Lib.hid (HC0.out.set (s.drop 3))
    have HX1 := Lib.hid (HX.out.far (p := ⟨B, 0, none⟩) (by show W.heap.size ≠ B; omega) (.string ⟨(s.drop 3).toArray⟩))
    have hS1 := hS0.below (w' := W0.setCell ⟨B, 0, none⟩ (.string ⟨(s.drop 3).toArray⟩)) ((Below.refl n₀ W0).setCell (p := ⟨B, 0, none⟩) hn₀ _)
    have hhl : (s.take 3).length = 3 := by rw [List.length_take]; omega
    generalize hhd : s.take 3 = hd at *
    have b0 := byteC_get hd 0 (by omega)
    have b1 := byteC_get hd 1 (by omega)
    have b2 := byteC_get hd 2 (by omega)
    obtain ⟨q0, hq0⟩ : ∃ q, byteC hd 0 = q := ⟨_, rfl⟩
    obtain ⟨q1, hq1⟩ : ∃ q, byteC hd 1 = q := ⟨_, rfl⟩
    obtain ⟨q2, hq2⟩ : ∃ q, byteC hd 2 = q := ⟨_, rfl⟩
    have HQ : Hid (byteC s 0 = q0 ∧ byteC s 1 = q1 ∧ byteC s 2 = q2) := Lib.hid (by
      rw [← hq0, ← hq1, ← hq2, ← hhd]
      unfold byteC
      refine ⟨?_, ?_, ?_⟩ <;> rw [List.getElem?_take, if_pos (by decide)])
    have l0 := byteC_lt hd 0; have l1 := byteC_lt hd 1; have l2 := byteC_lt hd 2
    rw [hq0] at b0 l0; rw [hq1] at b1 l1; rw [hq2] at b2 l2
    have e2 : IntKind.i64.wrap ((q2 : Int) + 1) = ((q2 + 1 : Nat) : Int) := by rw [IntKind.wrap_i64]; omega
    have e0 : IntKind.i64.wrap (q0 : Int) = (q0 : Int) := by rw [IntKind.wrap_i64]; omega
    have e1 : IntKind.i64.wrap (q1 : Int) = (q1 : Int) := by rw [IntKind.wrap_i64]; omega
    have e3 : IntKind.i64.wrap (q2 : Int) = (q2 : Int) := by rw [IntKind.wrap_i64]; omega
    have hSn := hS1.below (w' := (W0.setCell ⟨B, 0, none⟩ (.string ⟨(s.drop 3).toArray⟩)).drew) ((Below.refl n₀ _).drew)
    have hBn : Blk (W0.setCell ⟨B, 0, none⟩ (.string ⟨(s.drop 3).toArray⟩)).drew B 52 #[.string ⟨(s.drop 3).toArray⟩] := HC1.out.1.drew
    have HC2 := Lib.hid (HC1.out.under ((Below.refl _ _).drew))
    have HX2 := Lib.hid (show Blk (W0.setCell ⟨B, 0, none⟩ (.string ⟨(s.drop 3).toArray⟩)).drew W.heap.size _ _ from HX1.out.drew)
    clear hq0 hq1 hq2 HT HC0 HX hS0 HC1 HX1 hS1 h
    go_wp2
    generalize (W0.setCell ⟨B, 0, none⟩ (.string ⟨(s.drop 3).toArray⟩)) = w2 at *
    refine wp_region_held_drew (S := fun _ => True) (by kernel_rfl) (trivial) (fun hH => ?_)
    refine wpAnyH_take (i := 0) (oi := { dst := some 19, op := Go.Op.move (Go.Operand.tmp 0), type := 73, pos := "roar.go:314", after := #[], guard := none }) (v := ?_) rfl (by kernel_rfl) (by kernel_rfl) (by kernel_rfl) (fun _ _ _ h => h) (Or.inl ⟨by rfl, ?_⟩) hH ?_
    rotate_left
    · intro w hSw; (try dsimp only at hSw); go_simp; try with_reducible rfl
    try simp only [Act.put, List.setIfInBounds_toArray, List.set_cons_zero, List.set_cons_succ]
    refine wpAnyH_take (i := 1) (oi := { dst := some 20, op := Go.Op.nilCheck (Go.Operand.tmp 19), type := 0, pos := "roar.go:314", after := #[{ on := 0, ground := Go.Ground.data }], guard := none }) (v := ?_) rfl (by kernel_rfl) (by kernel_rfl) (by kernel_rfl) (fun _ _ _ h => h) (Or.inl ⟨by rfl, ?_⟩) hH ?_
    rotate_left
    · intro w hSw; (try dsimp only at hSw); go_simp; try with_reducible rfl
    try simp only [Act.put, List.setIfInBounds_toArray, List.set_cons_zero, List.set_cons_succ]
    refine wpAnyH_take (i := 2) (oi := { dst := some 21, op := Go.Op.fieldAddr 52 (Go.Operand.tmp 20) 0, type := 0, pos := "roar.go:314", after := #[{ on := 1, ground := Go.Ground.data }], guard := none }) (v := ?_) rfl (by kernel_rfl) (by kernel_rfl) (by kernel_rfl) (fun _ _ _ h => h) (Or.inl ⟨by rfl, ?_⟩) hH ?_
    rotate_left
    · intro w hSw; (try dsimp only at hSw); go_simp; try with_reducible rfl
    try simp only [Act.put, List.setIfInBounds_toArray, List.set_cons_zero, List.set_cons_succ]
    refine wpAnyH_take (i := 3) (oi := { dst := some 22, op := Go.Op.move (Go.Operand.tmp 4), type := 9, pos := "roar.go:314", after := #[], guard := none }) (v := ?_) rfl (by kernel_rfl) (by kernel_rfl) (by kernel_rfl) (fun _ _ _ h => h) (Or.inl ⟨by rfl, ?_⟩) hH ?_
    rotate_left
    · intro w hSw; (try dsimp only at hSw); go_simp; try with_reducible rfl
    try simp only [Act.put, List.setIfInBounds_toArray, List.set_cons_zero, List.set_cons_succ]
    refine wpAnyH_take (i := 4) (oi := { dst := some 23, op := Go.Op.index 9 (Go.Operand.tmp 22) (Go.Operand.const (Go.Value.int Go.IntKind.i64 2)), type := 5, pos := "roar.go:314", after := #[{ on := 3, ground := Go.Ground.data }], guard := none }) (v := ?_) rfl (by kernel_rfl) (by kernel_rfl) (by kernel_rfl) (fun _ _ _ h => h) (Or.inl ⟨by rfl, ?_⟩) hH ?_
    rotate_left
    · intro w hSw; (try dsimp only at hSw); go_simp; try with_reducible rfl
    try simp only [Act.put, List.setIfInBounds_toArray, List.set_cons_zero, List.set_cons_succ]
    refine wpAnyH_take (i := 5) (oi := { dst := some 24, op := Go.Op.convert 5 3 (Go.Operand.tmp 23), type := 3, pos := "roar.go:314", after := #[{ on := 4, ground := Go.Ground.data }], guard := none }) (v := ?_) rfl (by kernel_rfl) (by kernel_rfl) (by kernel_rfl) (fun _ _ _ h => h) (Or.inl ⟨by rfl, ?_⟩) hH ?_
    rotate_left
    · intro w hSw; (try dsimp only at hSw); go_simp; try with_reducible rfl
    try simp only [Act.put, List.setIfInBounds_toArray, List.set_cons_zero, List.set_cons_succ]
    refine wpAnyH_take (i := 6) (oi := { dst := some 25, op := Go.Op.binOp Go.BinOp.add 3 (Go.Operand.tmp 24) (Go.Operand.const (Go.Value.int Go.IntKind.i64 1)) 3, type := 3, pos := "roar.go:314", after := #[{ on := 5, ground := Go.Ground.data }], guard := none }) (v := ?_) rfl (by kernel_rfl) (by kernel_rfl) (by kernel_rfl) (fun _ _ _ h => h) (Or.inl ⟨by rfl, ?_⟩) hH ?_
    rotate_left
    · intro w hSw; (try dsimp only at hSw); go_simp; try with_reducible rfl
    try simp only [Act.put, List.setIfInBounds_toArray, List.set_cons_zero, List.set_cons_succ]
    refine wpAnyH_ready (rs := [7]) (by kernel_rfl) (by simp) ?_
    refine AllReadyH.cons (o := { dst := some 26, op := Go.Op.call { callee := Go.Callee.value (Go.Operand.func 44), args := #[Go.Operand.tmp 21, Go.Operand.tmp 25], argTypes := #[50, 3] }, type := 96, pos := "roar.go:314", after := #[{ on := 2, ground := Go.Ground.data }, { on := 6, ground := Go.Ground.data }], guard := none }) rfl (fun K hK => ?_) AllReadyH.nil
    go_simp
    go_at_call 44
    refine (take_any m v r (s.drop 3) (by rw [List.length_drop]; omega) (q2 + 1) (by omega) B _ hSn hBn).mono ?_
    intro e w5 hT
    obtain ⟨tx, ty, rfl, hU⟩ := hT.form
    clear hT
    first | refine hK.out _ _ (trivial) (fun hH7 => ?_) | (go_wp2_with fail; refine hK.out _ _ (trivial) (fun hH7 => ?_))
    clear hK K hH
    try simp only [Act.put, List.setIfInBounds_toArray, List.set_cons_zero, List.set_cons_succ]
    refine wpAnyH_take (i := 8) (oi := { dst := some 18, op := Go.Op.move (Go.Operand.tmp 26), type := 96, pos := "roar.go:314", after := #[{ on := 7, ground := Go.Ground.data }], guard := none }) (v := ?_) rfl (by kernel_rfl) (by kernel_rfl) (by kernel_rfl) (fun _ _ _ h => h) (Or.inl ⟨by rfl, ?_⟩) hH7 ?_
    rotate_left
    · intro w hSw; (try dsimp only at hSw); go_simp; try with_reducible rfl
    try simp only [Act.put, List.setIfInBounds_toArray, List.set_cons_zero, List.set_cons_succ]
    refine wpAnyH_take (i := 9) (oi := { dst := some 27, op := Go.Op.extract (Go.Operand.tmp 18) 0, type := 9, pos := "roar.go:314", after := #[{ on := 8, ground := Go.Ground.data }], guard := none }) (v := ?_) rfl (by kernel_rfl) (by kernel_rfl) (by kernel_rfl) (fun _ _ _ h => h) (Or.inl ⟨by rfl, ?_⟩) hH7 ?_
    rotate_left
    · intro w hSw; (try dsimp only at hSw); go_simp; try with_reducible rfl
    try simp only [Act.put, List.setIfInBounds_toArray, List.set_cons_zero, List.set_cons_succ]
    refine wpAnyH_take (i := 10) (oi := { dst := some 28, op := Go.Op.extract (Go.Operand.tmp 18) 1, type := 54, pos := "roar.go:314", after := #[{ on := 8, ground := Go.Ground.data }, { on := 11, ground := Go.Ground.gcOnly Go.Departure.lateStores }], guard := none }) (v := ?_) rfl (by kernel_rfl) (by kernel_rfl) (by kernel_rfl) (fun _ _ _ h => h) (Or.inl ⟨by rfl, ?_⟩) hH7 ?_
    rotate_left
    · intro w hSw; (try dsimp only at hSw); go_simp; try with_reducible rfl
    try simp only [Act.put, List.setIfInBounds_toArray, List.set_cons_zero, List.set_cons_succ]
    refine wpAnyH_take (i := 11) (oi := { dst := some 6, op := Go.Op.assign (Go.Operand.tmp 27), type := 9, pos := "roar.go:314", after := #[{ on := 9, ground := Go.Ground.data }, { on := 7, ground := Go.Ground.chain }, { on := 0, ground := Go.Ground.phase }, { on := 1, ground := Go.Ground.phase }, { on := 2, ground := Go.Ground.phase }, { on := 3, ground := Go.Ground.phase }, { on := 4, ground := Go.Ground.phase }, { on := 5, ground := Go.Ground.phase }, { on := 6, ground := Go.Ground.phase }, { on := 7, ground := Go.Ground.phase }, { on := 8, ground := Go.Ground.phase }, { on := 9, ground := Go.Ground.phase }, { on := 10, ground := Go.Ground.textOnly Go.Departure.lateStores }], guard := none }) (v := ?_) rfl (by kernel_rfl) (by kernel_rfl) (by kernel_rfl) (fun _ _ _ h => h) (Or.inl ⟨by rfl, ?_⟩) hH7 ?_
    rotate_left
    · intro w hSw; (try dsimp only at hSw); go_simp; try with_reducible rfl
    try simp only [Act.put, List.setIfInBounds_toArray, List.set_cons_zero, List.set_cons_succ]
    refine wpAnyH_take (i := 12) (oi := { dst := some 5, op := Go.Op.assign (Go.Operand.tmp 28), type := 54, pos := "roar.go:314", after := #[{ on := 10, ground := Go.Ground.data }, { on := 11, ground := Go.Ground.chain }, { on := 0, ground := Go.Ground.phase }, { on := 1, ground := Go.Ground.phase }, { on := 2, ground := Go.Ground.phase }, { on := 3, ground := Go.Ground.phase }, { on := 4, ground := Go.Ground.phase }, { on := 5, ground := Go.Ground.phase }, { on := 6, ground := Go.Ground.phase }, { on := 7, ground := Go.Ground.phase }, { on := 8, ground := Go.Ground.phase }, { on := 9, ground := Go.Ground.phase }, { on := 10, ground := Go.Ground.phase }, { on := 11, ground := Go.Ground.phase }], guard := none }) (v := ?_) rfl (by kernel_rfl) (by kernel_rfl) (by kernel_rfl) (fun _ _ _ h => h) (Or.inl ⟨by rfl, ?_⟩) hH7 ?_
    rotate_left
    · intro w hSw; (try dsimp only at hSw); go_simp; try with_reducible rfl
    try simp only [Act.put, List.setIfInBounds_toArray, List.set_cons_zero, List.set_cons_succ]
    refine wpAnyH_done (by kernel_rfl) ?_ _
    rcases hU with ⟨hle5, rfl, rfl, rfl⟩ | ⟨hle5, rfl, rfl, hb5⟩
    · rw [List.length_drop] at hle5
      have hok : chOk s := by
        unfold chOk chSize
        rw [HQ.out.2.2]; omega
      have hsz : (s.drop 3).drop (q2 + 1) = s.drop (chSize s) := by
        rw [List.drop_drop]
        unfold chSize
        rw [HQ.out.2.2]; congr 1; omega
      have hge : chGet s = (((q0 : Nat) : Int), ((q1 : Nat) : Int), (s.drop 3).take (q2 + 1)) := by
        unfold chGet chSize
        rw [HQ.out.1, HQ.out.2.1, HQ.out.2.2, List.drop_take, show 4 + q2 - 3 = q2 + 1 by omega]
      have HC5 := Lib.hid (HC2.out.set ((s.drop 3).drop (q2 + 1)))
      have hx := HX2.out.far (p := ⟨B, 0, none⟩) (by show W.heap.size ≠ B; omega) (.string ⟨((s.drop 3).drop (q2 + 1)).toArray⟩)
      have HP := Lib.hid (fun w' (hw : ChW W B ((s.drop 3).drop (q2 + 1)) w') => show ChunkR s m B W (.returned (.tuple #[.agg #[.int .i64 (q0 : Nat), .int .i64 (q1 : Nat), .string ⟨((s.drop 3).take (q2 + 1)).toArray⟩], .nilIface])) w' from .inl ⟨hok, by rw [hge], by rw [← hsz]; exact hw⟩)
      clear hsz hge HC2 HX2 hle5 hok HQ hSn hBn
      generalize (s.drop 3).take (q2 + 1) = tx at *
      generalize (s.drop 3).drop (q2 + 1) = tz at *
      generalize w2.drew.setCell ⟨B, 0, none⟩ (.string ⟨tz.toArray⟩) = w6 at *
      have c0 := hx.cell 0; have c1 := hx.cell 1; have c2 := hx.cell 2
      have f0 := hx.frozen 0; have f1 := hx.frozen 1; have f2 := hx.frozen 2
      dsimp at c0 c1 c2
      have HE := Lib.hid (show Blk (((w6.setCell ⟨W.heap.size, 0, none⟩ (.int .i64 q0)).setCell ⟨W.heap.size, 1, none⟩ (.int .i64 q1)).setCell ⟨W.heap.size, 2, none⟩ (.string ⟨tx.toArray⟩)).drew W.heap.size _ _ from (hx.set3 (.int .i64 q0) (.int .i64 q1) (.string ⟨tx.toArray⟩)).drew)
      have HW := Lib.hid ((((HC5.out.far (p := ⟨W.heap.size, 0, none⟩) (Nat.le_refl _) (by show B ≠ W.heap.size; omega) (.int .i64 q0)).far (p := ⟨W.heap.size, 1, none⟩) (Nat.le_refl _) (by show B ≠ W.heap.size; omega) (.int .i64 q1)).far (p := ⟨W.heap.size, 2, none⟩) (Nat.le_refl _) (by show B ≠ W.heap.size; omega) (.string ⟨tx.toArray⟩)).under ((Below.refl _ _).drew))
      clear hx HC5
      go_wp2
      go_region
      all_goals
        go_wp2
        exact ret_chunk2 rfl rfl HE.out rfl (HP.out _ HW.out)
    · have hno : ¬ chOk s := by
        unfold chOk chSize
        rw [HQ.out.2.2]
        rw [List.length_drop] at hle5
        omega
      have HCe := Lib.hid (HC2.out.under hb5)
      have hx := HX2.out.under hb5
      have c0 := hx.cell 0; have c1 := hx.cell 1; have c2 := hx.cell 2
      have f0 := hx.frozen 0; have f1 := hx.frozen 1; have f2 := hx.frozen 2
      dsimp at c0 c1 c2
      have hE := hx.set3 (.int .i64 0) (.int .i64 0) (.string ⟨#[]⟩)
      have hW := ((HCe.out.far (p := ⟨W.heap.size, 0, none⟩) (Nat.le_refl _) (by show B ≠ W.heap.size; omega) (.int .i64 0)).far (p := ⟨W.heap.size, 1, none⟩) (Nat.le_refl _) (by show B ≠ W.heap.size; omega) (.int .i64 0)).far (p := ⟨W.heap.size, 2, none⟩) (Nat.le_refl _) (by show B ≠ W.heap.size; omega) (.string ⟨#[]⟩)
      have HE := Lib.hid hE; have HW := Lib.hid hW
      clear hb5 hx hE hW HCe HC2 HX2 HQ hSn hBn hle5
      unfold eV
      go_wp2
      exact ret_chunk2 rfl rfl HE.out rfl (.inr ⟨hno, rfl, _, HW.out⟩)
  · have HCe := Lib.hid (HC0.out.under hb)
    have hx := HX.out.under hb
    have c0 := hx.cell 0; have c1 := hx.cell 1; have c2 := hx.cell 2
    have f0 := hx.frozen 0; have f1 := hx.frozen 1; have f2 := hx.frozen 2
    dsimp at c0 c1 c2
    have hno : ¬ chOk s := fun hc => hle (by have := hc.1; omega)
    have hE := hx.set3 (.int .i64 0) (.int .i64 0) (.string ⟨#[]⟩)
    have hW := ((HCe.out.far (p := ⟨W.heap.size, 0, none⟩) (Nat.le_refl _) (by show B ≠ W.heap.size; omega) (.int .i64 0)).far (p := ⟨W.heap.size, 1, none⟩) (Nat.le_refl _) (by show B ≠ W.heap.size; omega) (.int .i64 0)).far (p := ⟨W.heap.size, 2, none⟩) (Nat.le_refl _) (by show B ≠ W.heap.size; omega) (.string ⟨#[]⟩)
    have HE := Lib.hid hE; have HW := Lib.hid hW
    clear HT HC0 HX hS0 h hb hx hE hW HCe
    unfold eV
    go_wp2
    exact ret_chunk2 rfl rfl HE.out rfl (.inr ⟨hno, rfl, _, HW.out⟩)
end Go.Proofs.YtbfchlfagdhglaaDoor
