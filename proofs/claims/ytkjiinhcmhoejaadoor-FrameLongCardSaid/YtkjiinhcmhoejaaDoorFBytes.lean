/- Rows of bytes that a call makes itself: zeros, stores, and back to a text. -/
import Derived.Test.YtkjiinhcmhoejaaDoorFRead
import Derived.Laws.MakeOwn
import Derived.Laws.OwnMore
namespace Go.Proofs.YtkjiinhcmhoejaaDoor
open Go.RowKit

def zeros (n : Nat) : Array Value := madeCells #[.int .u8 0] n
theorem zeros_size (n : Nat) : (zeros n).size = n := size_madeCells _ _
theorem zeros_at {n j : Nat} (h : j < n) : (zeros n)[j]? = some (.int .u8 0) := by
  have e := toList_madeCells_one (.int .u8 0) n
  have e2 : (zeros n)[j]? = (zeros n).toList[j]? := by simp
  rw [e2]
  unfold zeros
  rw [e, List.getElem?_replicate, if_pos h]
theorem make_u8 (n : Nat) (hn : n ≤ 1000000) (W : World) : (Instr.makeSlice 40 (.int .i64 n) (.int .i64 n)).run Tryd.prog W = .ok (.slice (some ⟨W.heap.size, 0, none⟩) n n) (W.alloc (.cells (zeros n) 5)) := by
  obtain ⟨i0, hi, hz0, hz1, hz2⟩ := info_parts info_u8
  have h := run_make (P := Tryd.prog) W 40 5 i0 (.int .u8 0) Tryd.underlying40 hi hz0 .i64 .i64 n n (by omega) (by omega) (by rw [hz2]; omega) (by omega)
  rw [hz1] at h
  rw [h]
  simp [Value.cells, zeros]
/-- A row of bytes. -/
def Bytes (l : List UInt8) (cs : Array Value) : Prop := ∀ (j : Nat) (hj : j < l.length), cs[j]? = some (.int .u8 (l[j].toNat : Int))
theorem conv_blk {W : World} {g : Nat} {cs : Array Value} {l : List UInt8} {n c : Nat} (hl : l.length = n) (hB : Bytes l cs) (h : Blk W g 5 cs) : (convert 40 9 (.slice (some ⟨g, 0, none⟩) n c)).run Tryd.prog W = .ok (.string ⟨l.toArray⟩) W := by
  subst hl
  exact conv_cells l c W g (fun j hj => (h.cell j).trans (hB j hj))
theorem bytes_zeros (n : Nat) : Bytes (List.replicate n 0) (zeros n) := fun j hj => by
  have hj' : j < n := by simpa using hj
  rw [zeros_at hj']
  simp
theorem Bytes.set {l : List UInt8} {cs : Array Value} (h : Bytes l cs) (hs : l.length ≤ cs.size) (k : Nat) (x : UInt8) : Bytes (l.set k x) (cs.setIfInBounds k (.int .u8 (x.toNat : Int))) := fun j hj => by
  have hj' : j < l.length := by simpa using hj
  rw [Array.getElem?_setIfInBounds]
  by_cases e : k = j
  · subst e
    rw [if_pos rfl, if_pos (by omega)]
    simp
  · rw [if_neg e, h j hj', List.getElem_set_ne e]
end Go.Proofs.YtkjiinhcmhoejaaDoor
