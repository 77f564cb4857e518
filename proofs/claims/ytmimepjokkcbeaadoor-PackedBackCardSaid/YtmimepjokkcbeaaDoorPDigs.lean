/- The document's digits of a number. -/
import Derived.Test.YtmimepjokkcbeaaDoorPBytes
import Derived.LoopTactic
import Derived.OwnWalk
namespace Go.Proofs.YtmimepjokkcbeaaDoor
open Go.RowKit

/-- What f answers at the first k places. -/
def fl (f : Nat → Nat) (k : Nat) : List Nat := (List.range k).map f
theorem fl_succ (f : Nat → Nat) (k : Nat) : fl f (k + 1) = fl f k ++ [f k] := by simp [fl, List.range_succ]
theorem fl_length (f : Nat → Nat) (k : Nat) : (fl f k).length = k := by simp [fl]
theorem fl_get {f : Nat → Nat} {k j : Nat} (h : j < k) : (fl f k)[j]? = some (f j) := by
  unfold fl
  rw [List.getElem?_map, List.getElem?_range h]; rfl
theorem fl_app (f g : Nat → Nat) (a b : Nat) (h : ∀ j, j < b → f (a + j) = g j) : fl f (a + b) = fl f a ++ fl g b := by
  induction b with
  | zero => simp [fl]
  | succ b ih => rw [← Nat.add_assoc, fl_succ, fl_succ, ih (fun j hj => h j (by omega)), h b (by omega), List.append_assoc]
def nvs (l : List Nat) : List Value := l.map fun (n : Nat) => Value.int .i64 (n : Int)
theorem nvs_app (a b : List Nat) : nvs (a ++ b) = nvs a ++ nvs b := by simp [nvs]
theorem nvs_snoc (l : List Nat) (n : Nat) : nvs (l ++ [n]) = nvs l ++ [Value.int .i64 (n : Int)] := by simp [nvs]
theorem nvs_length (l : List Nat) : (nvs l).length = l.length := by simp [nvs]
theorem info_int : (Tryd.prog.info? 3).map (fun i => (i.zero, i.size, i.bytes)) = some (some (.int .i64 0), 1, 8) := by kernel_rfl

set_option maxRecDepth 100000 in
set_option maxHeartbeats 2000000 in
theorem digits_any (n W : Nat) (hn : n < 65536) (hW : W ≤ 16) (w : World) :
    Calls Tryd.prog 25 #[.int .i64 n, .int .i64 W] w fun e w' => ∃ v, e = .returned v ∧ w'.ownsRow w.heap.size 3 1 v W (nvs (fl (fun j => n / 2 ^ (W - 1 - j) % 2) W)) ∧ Below w.heap.size w w' := by
  obtain ⟨i0, hi, hz0, hz1, hz2⟩ := info_parts info_int
  have HInf := Lib.hid hi; have HZ0 := Lib.hid hz0; have HZ1 := Lib.hid hz1; have HZ2 := Lib.hid hz2
  clear hi hz0 hz1 hz2
  go_enter Tryd.func25, Tryd.ntmps25
  go_wp2
  go_loopw [5, 6] (fun v y wr => ∃ j r : Nat, j + r = W ∧ y = .int .i64 ((r : Int) - 1) ∧ wr.ownsRow w.heap.size 3 1 v j (nvs (fl (fun j => n / 2 ^ (W - 1 - j) % 2) j)) ∧ Below w.heap.size w wr)
    (fun _ y _ => ((intOf y) + 1).toNat)
  case atStart => exact ⟨0, W, by omega, rfl, World.ownsRow_nil _ _ _ _, Below.refl _ _⟩
  case round =>
    obtain ⟨j, r, hjr, rfl, hown, hB⟩ := hrel
    by_cases h0 : r = 0
    · subst h0
      obtain rfl : j = W := by omega
      go_wp2
      go_ret
      exact ⟨_, rfl, hown, hB⟩
    · obtain ⟨y, rfl⟩ : ∃ y, r = y + 1 := ⟨r - 1, by omega⟩
      have hf : Hid (fl (fun j => n / 2 ^ (W - 1 - j) % 2) (j + 1) = fl (fun j => n / 2 ^ (W - 1 - j) % 2) j ++ [n / 2 ^ y % 2]) := Lib.hid (by rw [fl_succ, show W - 1 - j = y by omega])
      have hd2 : n / 2 ^ y % 2 < 2 := Nat.mod_lt _ (by decide)
      have hsr := shr_at n y
      have hql := Nat.div_le_self n (2 ^ y)
      generalize n / 2 ^ y = q at *
      have e0 : (q : Int).tmod 2 = (q : Int) % 2 := Int.tmod_eq_emod_of_nonneg (by omega)
      obtain ⟨d, hd⟩ : ∃ d, d = q % 2 := ⟨_, rfl⟩
      have hd' : (q : Int) % 2 = d := by omega
      rw [← hd] at hf hd2
      have hy : (y : Int) ≤ 15 := by omega
      clear hd
      go_wp2_with (at_builtin; refine wpList_append_own _ rfl _ _ 22 rfl w.heap.size 3 i0 (.int .i64 0) 1 8 Tryd.underlying22 HInf.out HZ0.out HZ1.out HZ2.out rfl (by decide) _ _ _ rfl (hown.alloc _) ⟨wr.heap.size, 0, none⟩ 1 1 [.int .i64 d] rfl rfl (cell_one_new _ _ _) (by simp [Value.oneCell']) (by unfold maxLen; omega) (by omega) (by have := hB.size; simp; omega) ?_; intro v2 w2 hown2 hgrow2 _)
      have hB2 : Below w.heap.size w w2 := (hB.alloc hB.size _).grown hgrow2 (by have := hB.size; simp; omega) (fun j e => (hown.lt j e).1)
      rw [← nvs_snoc, ← hf.out] at hown2
      go_roundw
      case rel => exact ⟨j + 1, y, by omega, rfl, hown2, hB2⟩
      case measure => simp [intOf]
end Go.Proofs.YtmimepjokkcbeaaDoor
