/- What the two laws on any container call: cut. -/
import Derived.Test.YtpjcndfamhehlaaCShown
namespace Go.Proofs.Ytpjcndfamhehlaa
open Go.RowKit

theorem take_min (d : List UInt8) (k : Nat) : d.take (min d.length k) = d.take k := by
  rcases Nat.le_total d.length k with h | h
  · rw [Nat.min_eq_left h, List.take_length, List.take_of_length_le h]
  · rw [Nat.min_eq_right h]
set_option maxRecDepth 100000 in
set_option maxHeartbeats 1000000 in
theorem cut_any (f : Int) (d : List UInt8) (w : World) : Calls Try.prog 12 #[contV f d] w fun e w' => e = .returned (contV f (d.take 260)) ∧ Below w.heap.size w w' := by
  unfold contV
  obtain ⟨m, hm, hmin⟩ : ∃ m : Nat, m = min d.length 260 ∧ ∀ (ts : Array TypeId) (t : TypeId) (W : World), (Builtin.min_ ts t #[.int .i64 (d.length : Int), .int .i64 260]).run Try.prog W = .ok (.int .i64 (m : Int)) W := ⟨min d.length 260, rfl, fun ts t W => by
    rw [run_min_int2]
    congr 2
    split <;> omega⟩
  have hext := (ext_mk d 0 m).trans (mk_str (b := d.take 260) (by rw [List.drop_zero, hm, take_min]))
  have hml : (m : Int) ≤ d.length := by omega
  have hE : Blk ((w.alloc (.cells #[.int .i64 f, .string ⟨(d.take 260).toArray⟩] 23)).alloc (.cells #[.int .i64 f, .string ⟨(d.take 260).toArray⟩] 23)) (w.heap.size + 1) 23 #[.int .i64 f, .string ⟨(d.take 260).toArray⟩] := by
    have := Blk.new (w.alloc (.cells #[.int .i64 f, .string ⟨(d.take 260).toArray⟩] 23)) 23 #[.int .i64 f, .string ⟨(d.take 260).toArray⟩]
    rwa [World.size_alloc] at this
  have hb : Below w.heap.size w ((w.alloc (.cells #[.int .i64 f, .string ⟨(d.take 260).toArray⟩] 23)).alloc (.cells #[.int .i64 f, .string ⟨(d.take 260).toArray⟩] 23)) := ((Below.refl _ _).alloc (Nat.le_refl _) _).alloc (by simp) _
  clear hm
  go_enter Try.func12, Try.ntmps12
  go_wp2
  exact ret_cont rfl rfl hE rfl ⟨rfl, hb⟩
end Go.Proofs.Ytpjcndfamhehlaa
