/- putSpan, putRuns; alone: what goes into the program's set. -/
import Derived.Test.YtpjcndfamhehlaaCSet
import Derived.Test.YtpjcndfamhehlaaCRefM
namespace Go.Proofs.Ytpjcndfamhehlaa
open Go.RowKit

theorem ofL_none (s : Bs) : (fun n => s n || ofL [] n) = s := by funext n; simp [ofL]
theorem ofL_one (s : Bs) (z : Nat) : (fun n => s n || ofL [(z : Int)] n) = put1 s z true := by
  funext n
  unfold put1 ofL
  by_cases h : n = z
  · subst h; simp
  · rw [if_neg h]
    have : ((z : Int) == (n : Int)) = false := by rw [beq_eq_false_iff_ne]; omega
    simp [this]
theorem pre_none {z : Int} {t : List Int} (ht : t <+: [z]) (hg : ∀ y ∈ t, goodZ y = true) (hz : ¬ goodZ z = true) : t = [] := by
  cases t with
  | nil => rfl
  | cons a r =>
    have h3 := (List.cons_prefix_cons.1 ht).1
    subst h3
    exact absurd (hg a (List.mem_cons_self ..)) hz
/-- One number put in. -/
theorem put_one {B : Nat} {s : Bs} {z : Int} {w w' : World} {e : Ending} (h : PutPost B s [z] w e w') : e = .returned (.bool (goodZ z)) ∧ w.grownBy w' (some B) ∧ Blk w' B 48 (scl (if goodZ z then put1 s z.toNat true else s)) := by
  obtain ⟨h1, ⟨hg, rfl, hb⟩ | ⟨hg, rfl, t, hb, ht, hgt⟩⟩ := h
  · have hz : goodZ z = true := hg z (List.mem_singleton.2 rfl)
    have h0 : z = (z.toNat : Int) := by unfold goodZ at hz; simp at hz; omega
    refine ⟨by rw [hz], h1, ?_⟩
    rw [if_pos hz, ← ofL_one, ← h0]; exact hb
  · have hz : ¬ goodZ z = true := fun e => hg fun y hy => by rw [List.mem_singleton.1 hy]; exact e
    rw [pre_none ht hgt hz, ofL_none] at hb
    refine ⟨by rw [Bool.eq_false_iff.2 hz], h1, ?_⟩
    rw [if_neg hz]; exact hb
/-- A call of put with one number that has just been laid in a slice. -/
theorem put_new (B : Nat) (s : Bs) (z : Int) (h1 : -9223372036854775808 ≤ z) (h2 : z ≤ 9223372036854775807) (w : World) (bB : Blk w B 48 (scl s)) :
    Calls Try.prog 32 #[.pointer (some ⟨B, 0, none⟩), .slice (some ⟨w.heap.size, 0, none⟩) 1 1] (w.alloc (.cells #[.int .i64 z] 3)) fun e w' => e = .returned (.bool (goodZ z)) ∧ w.grownBy w' (some B) ∧ Blk w' B 48 (scl (if goodZ z then put1 s z.toNat true else s)) := by
  have hb0 := Blk.new w 3 #[.int .i64 z]
  have hI : Ints (w.alloc (.cells #[.int .i64 z] 3)).heap.size (w.alloc (.cells #[.int .i64 z] 3)) (.slice (some ⟨w.heap.size, 0, none⟩) 1 1) [z] := .inr ⟨w.heap.size, 0, 1, rfl, by simp, fun j hj => by
    rw [Nat.zero_add, hb0.cell j]
    match j, hj with
    | 0, _ => rfl⟩
  have h64 : In64 [z] := fun j => by
    match j with
    | 0 => exact ⟨h1, h2⟩
    | j + 1 => simp
  have hlt := bB.lt
  refine (put_any B s _ 1 1 [z] rfl (by decide) h64 _ hI (fun a e _ => by cases e; show w.heap.size ≠ B; omega) (bB.alloc _)).mono ?_
  intro e w' h
  obtain ⟨e1, e2, e3⟩ := put_one h
  exact ⟨e1, grown_trans (grown_alloc (grown_refl w _) _) e2, e3⟩

set_option maxRecDepth 100000 in
set_option maxHeartbeats 2000000 in
theorem putSpan_any (B : Nat) (s : Bs) (a b : Nat) (hb : b ≤ 100000) (ha : a ≤ 100000) (w : World) (bB : Blk w B 48 (scl s)) :
    Calls Try.prog 41 #[.pointer (some ⟨B, 0, none⟩), .int .i64 a, .int .i64 b] w fun e w' => (∃ v, e = .returned v) ∧ w.grownBy w' (some B) ∧ Blk w' B 48 (scl (spanS s a b)) := by
  have HB := Lib.hid bB
  clear bB
  go_enter Try.func41, Try.ntmps41
  go_wp2
  go_loopw [6] (fun i wr => ∃ k : Nat, a ≤ k ∧ k ≤ max a b ∧ i = .int .i64 k ∧ w.grownBy wr (some B) ∧ Blk wr B 48 (scl (spanS s a k))) (fun i _ => b - (intOf i).toNat)
  case atStart => exact ⟨a, Nat.le_refl _, by omega, rfl, grown_refl _ _, by rw [spanS_zero]; exact HB.out⟩
  case round =>
    obtain ⟨k, hk1, hk2, rfl, hG, hS⟩ := hrel
    by_cases hlt : k < b
    · have hlt' : (k : Int) < b := by omega
      have HP := Lib.hid (put_new B (spanS s a k) k (by omega) (by omega) wr hS)
      have HS2 : Hid (∀ w', Blk w' B 48 (scl (if goodZ (k : Int) then put1 (spanS s a k) (k : Int).toNat true else spanS s a k)) → Blk w' B 48 (scl (spanS s a (k + 1)))) := Lib.hid (fun w' h => by
        by_cases h256 : k < 256
        · have : goodZ (k : Int) = true := by unfold goodZ; simp; omega
          rw [if_pos this, Int.toNat_natCast, spanS_put s a k hk1] at h
          exact h
        · have : ¬ goodZ (k : Int) = true := by unfold goodZ; simp; omega
          rw [if_neg this] at h
          rwa [scl_congr (spanS_over s a k (k + 1) (by omega) (by omega))] at h)
      clear hS
      go_wp2_with fail
      refine HP.out.mono ?_
      rintro e w1 ⟨rfl, hG1, hb1⟩
      have hG2 := grown_trans hG hG1
      have hb2 := HS2.out _ hb1
      clear hb1 hG1
      go_wp2
      go_roundw
      case rel => exact ⟨k + 1, by omega, by omega, by simp, hG2, hb2⟩
      case measure => simp [intOf]; omega
    · have hge : ¬ (k : Int) < b := by omega
      have HE : Hid (Blk wr B 48 (scl (spanS s a b))) := Lib.hid (by
        rcases Nat.lt_or_ge a b with h | h
        · obtain rfl : k = b := by omega
          exact hS
        · obtain rfl : k = a := by omega
          have : spanS s k b = spanS s k k := by
            funext n; unfold spanS; congr 1
            have h1 : (decide (k ≤ n) && decide (n < b)) = false := by
              rw [Bool.and_eq_false_iff]; simp; omega
            rw [h1]; simp
          rw [this]; exact hS)
      clear hS
      go_wp2
      go_end0
      exact ⟨⟨_, rfl⟩, hG, HE.out⟩

theorem runs_step (d : List UInt8) (s : Bs) (k : Nat) (hk : k % 2 = 0) (h : k + 1 < d.length) : spanS (fun n => s n || setR (d.take k) n) (byteC d k) (byteC d k + byteC d (k + 1) + 1) = fun n => s n || setR (d.take (k + 2)) n := by
  funext n
  have e : d.take (k + 2) = d.take k ++ [d[k]?.getD 0, d[k + 1]?.getD 0] := by
    rw [show k + 2 = k + 1 + 1 from rfl, List.take_add_one, List.take_add_one, byte_at d k (by omega), byte_at d (k + 1) h]; simp
  unfold spanS
  rw [e, setR_snoc _ (by rw [List.length_take]; omega), Bool.or_assoc]
  congr 2
  show (decide (byteC d k ≤ n) && decide (n < byteC d k + byteC d (k + 1) + 1)) = (decide (byteC d k ≤ n) && decide (n ≤ byteC d k + byteC d (k + 1)))
  congr 1
  rw [decide_eq_decide]; omega
set_option maxRecDepth 100000 in
set_option maxHeartbeats 2000000 in
theorem putRuns_any (B : Nat) (s : Bs) (d : List UInt8) (hd : d.length ≤ 10000) (w : World) (bB : Blk w B 48 (scl s)) :
    Calls Try.prog 44 #[.pointer (some ⟨B, 0, none⟩), .string ⟨d.toArray⟩] w fun e w' => (∃ v, e = .returned v) ∧ w.grownBy w' (some B) ∧ Blk w' B 48 (scl fun n => s n || setR d n) := by
  have HB : Hid (Blk w B 48 (scl fun n => s n || setR (d.take 0) n)) := Lib.hid (by simpa [setR] using bB)
  clear bB
  go_enter Try.func44, Try.ntmps44
  go_wp2
  go_loopw [4] (fun i wr => ∃ k : Nat, 2 * k ≤ d.length + 1 ∧ i = .int .i64 ((2 * k + 1 : Nat) : Int) ∧ w.grownBy wr (some B) ∧ Blk wr B 48 (scl fun n => s n || setR (d.take (2 * k)) n)) (fun i _ => d.length + 2 - (intOf i).toNat)
  case atStart => exact ⟨0, by omega, rfl, grown_refl _ _, HB.out⟩
  case round =>
    obtain ⟨k2, hk, rfl, hG, hS⟩ := hrel
    obtain ⟨k, hkd⟩ : ∃ k, k = 2 * k2 := ⟨_, rfl⟩
    have hkm : k % 2 = 0 := by omega
    have Hk2 : Hid (2 * (k2 + 1) = k + 2) := Lib.hid (by omega)
    rw [← hkd] at hS hk ⊢
    clear hkd
    by_cases hlt : k + 1 < d.length
    · have hlt' : (k : Int) + 1 < d.length := by omega
      have hb := byteC_get d k (by omega)
      have hb1 := byteC_get d (k + 1) hlt
      have hbl := byteC_lt d k
      have hbl1 := byteC_lt d (k + 1)
      have HP := Lib.hid (putSpan_any B (fun n => s n || setR (d.take k) n) (byteC d k) (byteC d k + byteC d (k + 1) + 1) (by omega) (by omega) wr.drew hS.drew)
      rw [runs_step d s k hkm hlt, show ((byteC d k + byteC d (k + 1) + 1 : Nat) : Int) = (byteC d k : Int) + byteC d (k + 1) + 1 by omega] at HP
      clear hS
      generalize byteC d k = b0 at *
      generalize byteC d (k + 1) = b1 at *
      go_wp2
      go_region
      all_goals
        go_wp2_with fail
        refine HP.out.mono ?_
        rintro e w1 ⟨⟨v, rfl⟩, hG1, hb1⟩
        have hG2 := grown_trans (grown_drew hG) hG1
        clear hG1
        go_wp2
        go_roundw
        case rel => exact ⟨k2 + 1, by have := Hk2.out; omega, by have := Hk2.out; simp; omega, hG2, by rw [Hk2.out]; exact hb1⟩
        case measure => simp [intOf]; omega
    · have hge : ¬ (k : Int) + 1 < d.length := by omega
      have HE : Hid (Blk wr B 48 (scl fun n => s n || setR d n)) := Lib.hid (by
        rw [show (fun n => s n || setR d n) = fun n => s n || setR (d.take k) n by funext n; rw [setR_take d k hkm (by omega)]]
        exact hS)
      clear hS
      go_wp2
      go_end0
      exact ⟨⟨_, rfl⟩, hG, HE.out⟩
end Go.Proofs.Ytpjcndfamhehlaa
