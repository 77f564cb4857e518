/- Bytes in slices; cont.alone. -/
import Derived.Test.YtpjcndfamhehlaaCPut
import Derived.Laws.MakeOwn
import Derived.Laws.IdiomStrings
import Derived.Lib.BufferRead
import Derived.Lib.ConvBytes
import Derived.Maps.AppendAt
import Derived.LoopTactic
import Derived.OwnWalk
import Derived.Lib.SmallJoins
namespace Go.Proofs.Ytpjcndfamhehlaa
open Go.RowKit

def byteVs (l : List UInt8) : List Value := l.map fun b => Value.int .u8 (b.toNat : Int)
theorem byteVs_append (a b : List UInt8) : byteVs (a ++ b) = byteVs a ++ byteVs b := by simp [byteVs]
theorem byteVs_length (a : List UInt8) : (byteVs a).length = a.length := by simp [byteVs]
theorem info_u8 : (Try.prog.info? 5).map (fun i => (i.zero, i.size, i.bytes)) = some (some (.int .u8 0), 1, 1) := by kernel_rfl
theorem conv_own {wr : World} {n₀ n : Nat} {v : Value} {l : List UInt8} (h : wr.ownsRow n₀ 5 1 v n (byteVs l)) (hn : l.length = n) : (convert 69 9 v).run Try.prog wr = .ok (.string ⟨l.toArray⟩) wr := by
  subst hn
  rcases h.2 with ⟨rfl, h0⟩ | ⟨g, cap, cur, rfl, _⟩
  · obtain rfl : l = [] := List.eq_nil_of_length_eq_zero h0
    exact Lib.run_convert_nil_bytes wr _ _ _ 0 Try.underlying69 Try.underlying5 Try.underlying9
  · refine run_convert_bytes_back wr _ _ _ _ cap l Try.underlying69 Try.underlying5 Try.underlying9 (fun j hj => ?_)
    exact h.cells (g := g) rfl j _ (by simp [byteVs, List.getElem?_eq_getElem hj])
theorem cell_two_new (w : World) (x y : Value) (t : TypeId) : ∀ j u, [x, y][j]? = some u → (w.alloc (.cells #[x, y] t)).cell? ((⟨w.heap.size, 0, none⟩ : Addr).add j) = some u := by
  intro j u hu
  rw [show (⟨w.heap.size, 0, none⟩ : Addr).add j = ⟨w.heap.size, j, none⟩ by unfold Addr.add; split <;> simp_all, (Blk.new w t #[x, y]).cell j]
  match j, hu with
  | 0, hu => exact hu
  | 1, hu => exact hu
theorem own_form {w : World} {base : Nat} {e : TypeId} {v : Value} {n : Nat} {xs : List Value} (h : w.ownsRow base e 1 v n xs) : ∃ x cap, v = .slice x n cap := by
  rcases h.2 with ⟨rfl, rfl⟩ | ⟨g, cap, cur, rfl, _⟩
  · exact ⟨_, _, rfl⟩
  · exact ⟨_, _, rfl⟩

/-- Each byte as a run of one number. -/
def aloneB (d : List UInt8) : List UInt8 := d.flatMap fun b => [b, 0]
theorem aloneB_length (d : List UInt8) : (aloneB d).length = 2 * d.length := by
  induction d with
  | nil => rfl
  | cons x r ih => simp only [aloneB, List.flatMap_cons, List.length_append, List.length_cons, List.length_nil] at ih ⊢; omega
theorem aloneB_take {d : List UInt8} {k : Nat} (h : k < d.length) : aloneB (d.take (k + 1)) = aloneB (d.take k) ++ [d[k]?.getD 0, 0] := by
  rw [List.take_add_one, byte_at d k h]
  simp [aloneB]
theorem setR_alone (d : List UInt8) : setR (aloneB d) = setA d := by
  funext n
  unfold setA
  induction d with
  | nil => rfl
  | cons x r ih =>
    show ((decide (x.toNat ≤ n) && decide (n ≤ x.toNat + (0 : UInt8).toNat)) || setR (aloneB r) n) = _
    rw [ih, List.any_cons]
    congr 1
    rw [Bool.eq_iff_iff]
    simp
    omega

set_option maxRecDepth 100000 in
set_option maxHeartbeats 2000000 in
theorem alone_any (d : List UInt8) (hd : d.length ≤ 10000) (w : World) :
    Calls Try.prog 43 #[.string ⟨d.toArray⟩] w fun e w' => e = .returned (.string ⟨(aloneB d).toArray⟩) ∧ Below w.heap.size w w' := by
  obtain ⟨i0, hi, hz0, hz1, hz2⟩ := info_parts info_u8
  have HInf := Lib.hid hi; have HZ0 := Lib.hid hz0; have HZ1 := Lib.hid hz1; have HZ2 := Lib.hid hz2
  clear hi hz0 hz1 hz2
  have hcv := Lib.run_convert_string_bytes (P := Try.prog) w 9 69 5 ⟨d.toArray⟩ Try.underlying9 Try.underlying69 Try.underlying5
  have hs2 : (ByteArray.mk d.toArray).size = d.length := by simp [ByteArray.size]
  rw [hs2] at hcv
  have HC : Hid (∀ j, j < d.length → (Lib.bytesWorld w 5 ⟨d.toArray⟩).cell? ⟨w.heap.size, j, none⟩ = some (.int .u8 (byteC d j : Nat))) := Lib.hid (fun j hj => by
    have := Lib.bytesWorld_cell w 5 ⟨d.toArray⟩ j (by rw [hs2]; exact hj)
    rw [this]
    congr 3)
  have hsz := Lib.bytesWorld_size w 5 ⟨d.toArray⟩
  have hB0 : Below w.heap.size w (Lib.bytesWorld w 5 ⟨d.toArray⟩) := Joins.below_bytesWorld _ w _ _ (Nat.le_refl _)
  generalize Lib.bytesWorld w 5 ⟨d.toArray⟩ = w1 at *
  generalize grownCap w d.length 0 5 = gc at *
  go_enter Try.func43, Try.ntmps43
  go_wp2
  go_loopw [3, 9] (fun v i wr => ∃ k : Nat, k ≤ d.length ∧ i = .int .i64 k ∧ wr.ownsRow w1.heap.size 5 1 v (2 * k) (byteVs (aloneB (d.take k))) ∧ Below w1.heap.size w1 wr)
    (fun _ i _ => d.length - (intOf i).toNat)
  case atStart => exact ⟨0, Nat.zero_le _, rfl, by simpa [aloneB, byteVs] using World.ownsRow_nil w1 _ _ _, Below.refl _ _⟩
  case round =>
    obtain ⟨k, hk, rfl, hown, hB⟩ := hrel
    by_cases hlt : k < d.length
    · have hlt' : (k : Int) < d.length := by omega
      have hc1 : wr.cell? ⟨w.heap.size, k, none⟩ = some (.int .u8 (byteC d k : Nat)) := (hB.cell (p := ⟨w.heap.size, k, none⟩) (by simp; omega)).trans (HC.out k hlt)
      have HT : Hid (byteVs (aloneB (d.take (k + 1))) = byteVs (aloneB (d.take k)) ++ [Value.int .u8 (byteC d k : Nat), Value.int .u8 0]) := Lib.hid (by rw [aloneB_take hlt, byteVs_append]; rfl)
      have hbl := byteC_lt d k
      generalize byteC d k = b at *
      go_wp2_with (at_builtin; refine wpList_append_own _ rfl _ _ 69 rfl w1.heap.size 5 i0 (.int .u8 0) 1 1 Try.underlying69 HInf.out HZ0.out HZ1.out HZ2.out rfl (by decide) _ _ _ rfl (hown.alloc _) ⟨wr.heap.size, 0, none⟩ 2 2 [.int .u8 b, .int .u8 0] rfl rfl (cell_two_new _ _ _ _) (by simp [Value.oneCell']) (by unfold maxLen; omega) (by omega) (by have := hB.size; simp; omega) ?_; intro v2 w2 hown2 hgrow2 _)
      have hB2 : Below w1.heap.size w1 w2 := (hB.alloc hB.size _).grown hgrow2 (by have := hB.size; simp; omega) (fun j e => (hown.lt j e).1)
      rw [← HT.out, show 2 * k + 2 = 2 * (k + 1) by omega] at hown2
      go_roundw
      case rel => exact ⟨k + 1, by omega, by simp, hown2, hB2⟩
      case measure => simp [intOf]; omega
    · obtain rfl : k = d.length := by omega
      rw [List.take_length] at hown
      have hcv2 := conv_own hown (aloneB_length d)
      have hge : ¬ (d.length : Int) < d.length := by omega
      clear hown
      go_wp2
      go_ret
      exact ⟨rfl, hB0.trans (hB.mono (by omega))⟩
end Go.Proofs.Ytpjcndfamhehlaa
