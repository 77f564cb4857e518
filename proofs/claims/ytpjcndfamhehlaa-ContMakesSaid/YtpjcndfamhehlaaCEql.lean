/- Two of the program's sets held against each other. -/
import Derived.Test.YtpjcndfamhehlaaCSet
import Derived.DeepKeys
namespace Go.Proofs.Ytpjcndfamhehlaa
open Go.RowKit

theorem scl_inj {s t : Bs} (h : scl s = scl t) : Same s t := by
  intro n hn
  have hk : n / 8 < 32 := by omega
  have h1 := scl_get (s := s) hk
  have h2 := scl_get (s := t) hk
  rw [h] at h1
  rw [h1] at h2
  have h5 : Value.int .u8 (byteS s 256 (n / 8) : Nat) = Value.int .u8 (byteS t 256 (n / 8) : Nat) := Option.some.inj h2
  have e : ((byteS s 256 (n / 8) : Nat) : Int) = (byteS t 256 (n / 8) : Nat) := by injection h5
  have e2 : byteS s 256 (n / 8) = byteS t 256 (n / 8) := Int.ofNat.inj e
  have h3 := byteS_bit s (n / 8) (n % 8) hk
  have h4 := byteS_bit t (n / 8) (n % 8) hk
  rw [e2, h4, show 8 * (n / 8) + n % 8 = n by omega] at h3
  have h8 : n % 8 < 8 := by omega
  rw [decide_eq_true h8, Bool.true_and, Bool.true_and] at h3
  exact h3.symm
theorem mapM_some {α β : Type} {l : List α} {f : α → Option β} {g : α → β} (h : ∀ x ∈ l, f x = some (g x)) : l.mapM f = some (l.map g) := by
  induction l with
  | nil => rfl
  | cons x r ih =>
    rw [List.mapM_cons, h x (List.mem_cons_self ..), ih fun y hy => h y (List.mem_cons_of_mem _ hy)]; rfl
def litS (s : Bs) : List Lit := (List.range 32).map fun k => Lit.int .u8 (byteS s 256 k : Nat)
theorem cells_set : Try.prog.cellsOf 48 = 32 := by kernel_rfl
theorem cells_u8 : Try.prog.cellsOf 5 = 1 := by kernel_rfl
theorem litS_inj {s t : Bs} : litS s = litS t ↔ scl s = scl t := by
  have key : ∀ u : Bs, (scl u).toList = (litS u).map fun l => match l with | .int q n => Value.int q n | _ => undef := fun u => by
    unfold scl litS
    rw [List.map_map]; rfl
  constructor
  · intro h
    apply Array.ext'
    rw [key, key, h]
  · intro h
    have hs := scl_inj h
    unfold litS
    exact List.map_congr_left fun k _ => congrArg (fun n : Nat => Lit.int .u8 (n : Int)) (byteS_same hs k)
theorem flat_one (l : List Lit) : (l.map fun x => [x]).flatten = l := by
  induction l with
  | nil => rfl
  | cons x r ih => simp [ih]
theorem lits_set (s : Bs) : Try.prog.keyLits 2 48 (scl s).toList = some (litS s) := by
  have hm : (List.range 32).mapM (fun i => Try.prog.keyLits 1 5 (((scl s).toList.drop (i * 1)).take 1)) = some ((List.range 32).map fun k => [Lit.int .u8 (byteS s 256 k : Nat)]) := mapM_some fun k hk => by
    have hk' := List.mem_range.1 hk
    have e : ((scl s).toList.drop (k * 1)).take 1 = [Value.int .u8 (byteS s 256 k : Nat)] := by
      have h1 : (scl s).toList[k]? = some (Value.int .u8 (byteS s 256 k : Nat)) := by rw [Array.getElem?_toList]; exact scl_get hk'
      have hl : k < (scl s).toList.length := by rw [Array.length_toList, scl_size]; exact hk'
      rw [Nat.mul_one, List.drop_eq_getElem_cons hl]
      rw [List.getElem?_eq_getElem hl] at h1
      rw [Option.some.inj h1]; rfl
    rw [e]
    have hlt := byteS_lt s 256 k
    have hw : (Lit.int .u8 (byteS s 256 k : Nat)).wf = true := by
      simp [Lit.wf, IntKind.min, IntKind.max, IntKind.bits, IntKind.signed]; omega
    simp [Program.keyLits, Try.underlying5, hw]
  have hl : (scl s).toList.length = 32 := by rw [Array.length_toList, scl_size]
  unfold Program.keyLits
  simp only [Try.underlying48]
  rw [if_pos (by rw [cells_set, hl]), cells_u8, hm]
  show some _ = _
  rw [← flat_one (litS s)]
  unfold litS
  rw [List.map_map]; rfl
def sameB (s t : Bs) : Bool := (List.range 256).all fun n => s n == t n
theorem sameB_iff {s t : Bs} : sameB s t = true ↔ Same s t := by
  unfold sameB
  rw [List.all_eq_true]
  exact ⟨fun h n hn => eq_of_beq (h n (List.mem_range.2 hn)), fun h n hn => by rw [h n (List.mem_range.1 hn)]; exact beq_self_eq_true _⟩
/-- Whether they are the same. -/
theorem eql_set (s t : Bs) (w : World) : (binOp .eql 48 (.agg (scl s)) (.agg (scl t))).run Try.prog w = .ok (.bool (sameB s t)) w := by
  obtain ⟨r, hr, hiff⟩ := run_equalIn_deep (P := Try.prog) 9990 10 48 (by kernel_rfl) w 2 2 (.agg (scl s)) (.agg (scl t)) (litS s) (litS t)
    (by simp [Value.formed, Try.underlying48, cells_set, scl_size]) (by simp [Value.formed, Try.underlying48, cells_set, scl_size]) (lits_set s) (lits_set t)
  have e : r = sameB s t := by
    rw [Bool.eq_iff_iff, hiff, litS_inj, sameB_iff]
    exact ⟨scl_inj, scl_congr⟩
  rw [run_eql_struct, hr, e]; rfl
theorem wpList_eq_set {ops : Array Oper} {rest : List Oper} {op : Oper} {a : Act} {w : World} {Q : Exit → Act → World → Prop} (hw : Region.wanted op (yielded ops a.tmps) = true) (x y : Operand) (t' : TypeId) (ho : op.op = .binOp .eql 48 x y t') (s t : Bs)
    (hx : a.eval x = .agg (scl s)) (hy : a.eval y = .agg (scl t)) (h : wpList Try.prog ops Q rest (a.put op.dst (.bool (sameB s t))) w) : wpList Try.prog ops Q (op :: rest) a w :=
  wpList_step fun K hK => by
    rw [if_pos hw]
    unfold Oper.wp execOp
    simp only [ho, hx, hy, Sem.run_bind, Sem.run_pure, eql_set]
    exact hK _ _ h
theorem wpList_ld_setG {ops : Array Oper} {rest : List Oper} {op : Oper} {a : Act} {w : World} {Q : Exit → Act → World → Prop} (hw : Region.wanted op (yielded ops a.tmps) = true) (x : Operand) (ho : op.op = .load 48 x) (g : Nat) (hx : a.eval x = .pointer (some ⟨g, 0, none⟩)) (s : Bs)
    (hb : Blk w g 48 (scl s)) (h : wpList Try.prog ops Q rest (a.put op.dst (.agg (scl s))) w) : wpList Try.prog ops Q (op :: rest) a w :=
  wpList_step fun K hK => by
    rw [if_pos hw]
    exact wp_ld_set x ho g hx s hb (hK _ _ h)
end Go.Proofs.Ytpjcndfamhehlaa
