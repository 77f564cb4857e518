/- Results that lie in a cell: containers, sets. -/
import Derived.Test.YtpjcndfamhehlaaCSet
namespace Go.Proofs.Ytpjcndfamhehlaa
open Go.RowKit

theorem results_cell {fn : Func} {t : Tmp} {ty : TypeId} (h : fn.results = #[.cell t ty]) {tmps : Array Value} {w : World} {g : Nat} {v : Value} (hp : tmps.getD t undef = .pointer (some ⟨g, 0, none⟩)) (hv : (loadVar ty ⟨g, 0, none⟩).run Try.prog w = .ok v w) :
    (results fn tmps).run Try.prog w = .ok v w := by
  rw [Array.getD_eq_getD_getElem?] at hp
  simp [results, h, hp, asAddr, hv]
theorem results_cell2 {fn : Func} {t u : Tmp} {ty : TypeId} (h : fn.results = #[.cell t ty, .tmp u]) {tmps : Array Value} {w : World} {g : Nat} {v : Value} (hp : tmps.getD t undef = .pointer (some ⟨g, 0, none⟩)) (hv : (loadVar ty ⟨g, 0, none⟩).run Try.prog w = .ok v w) :
    (results fn tmps).run Try.prog w = .ok (.tuple #[v, tmps.getD u undef]) w := by
  rw [Array.getD_eq_getD_getElem?] at hp
  simp [results, h, hp, asAddr, hv, Result.andThen]
theorem info_cont : (Try.prog.info? 23).map (fun i => (i.zero, i.size)) = some (some (.agg #[.int .i64 0, .string ⟨#[]⟩]), 2) := by kernel_rfl
theorem size_cont : (Try.prog.info? 23).map (·.size) = some 2 := (zero_of_info info_cont).2
theorem load_cont {w : World} {g : Nat} {x y : Value} (h : Blk w g 23 #[x, y]) : (loadVar 23 ⟨g, 0, none⟩).run Try.prog w = .ok (.agg #[x, y]) w := by
  have := run_loadVar_mid (P := Try.prog) w g 0 23 [x, y] _ (fun j v hv => by rw [Nat.zero_add, h.cell j]; simpa using hv) Try.underlying23 rfl (by rw [size_cont]; simp)
  simpa using this
section
variable {fn : Func} {t u : Tmp} {Q : Ending → World → Prop} {a : Act} {w : World} {g : Nat}
/-- The return of a container. -/
theorem ret_cont {x y : Value} (h : fn.results = #[.cell t 23]) (hp : a.tmps.getD t undef = .pointer (some ⟨g, 0, none⟩)) (hb : Blk w g 23 #[x, y]) (hd : a.defers = []) (hQ : Q (.returned (.agg #[x, y])) w) : bodyPost Try.prog fn Q .ret a w :=
  bodyPost_ret (results_cell h hp (load_cont hb)) hd hQ
theorem ret_cont2 {x y : Value} (h : fn.results = #[.cell t 23, .tmp u]) (hp : a.tmps.getD t undef = .pointer (some ⟨g, 0, none⟩)) (hb : Blk w g 23 #[x, y]) (hd : a.defers = []) (hQ : Q (.returned (.tuple #[.agg #[x, y], a.tmps.getD u undef])) w) : bodyPost Try.prog fn Q .ret a w :=
  bodyPost_ret (results_cell2 h hp (load_cont hb)) hd hQ
/-- The return of a set, and whether it is one. -/
theorem ret_set2 {s : Bs} (h : fn.results = #[.cell t 48, .tmp u]) (hp : a.tmps.getD t undef = .pointer (some ⟨g, 0, none⟩)) (hb : Blk w g 48 (scl s)) (hd : a.defers = []) (hQ : Q (.returned (.tuple #[.agg (scl s), a.tmps.getD u undef])) w) : bodyPost Try.prog fn Q .ret a w :=
  bodyPost_ret (results_cell2 h hp (ldv_set hb)) hd hQ
theorem ret_256 {s : Bs} (h : fn.results = #[.cell t 51]) (hp : a.tmps.getD t undef = .pointer (some ⟨g, 0, none⟩)) (hb : Blk w g 51 (bcl s)) (hd : a.defers = []) (hQ : Q (.returned (.agg (bcl s))) w) : bodyPost Try.prog fn Q .ret a w :=
  bodyPost_ret (results_cell h hp (load_var hb)) hd hQ
end
/-- Two cells stored one by one. -/
theorem Blk.set2 {w : World} {g : Nat} {ty : TypeId} {a b : Value} (h : Blk w g ty #[a, b]) (x y : Value) : Blk ((w.setCell ⟨g, 0, none⟩ x).setCell ⟨g, 1, none⟩ y) g ty #[x, y] := (h.set_ 0 x).set_ 1 y
end Go.Proofs.Ytpjcndfamhehlaa
