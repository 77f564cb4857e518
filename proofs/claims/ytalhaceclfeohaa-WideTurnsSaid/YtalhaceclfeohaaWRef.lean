/- The contracts of the document's own answers (tesseraeref01) that have no loop, over this program. -/
import Derived.Test.YtalhaceclfeohaaWLeaf
import Derived.LoopTactic
namespace Go.Proofs.Ytalhaceclfeohaa
open Go.RowKit

set_option maxHeartbeats 400000 in
theorem ref_of_any (n : Int) (h1 : -9223372036854775808 ≤ n) (h2 : n ≤ 9223372036854775807) (w : World) : Calls Try.prog 25 #[.int .i64 n] w (RetW n w) := by
  have H1 := Lib.hid (of_hi n h1 h2)
  by_cases hn : n < 0
  · have H2 := Lib.hid (show n / 9223372036854775808 = -1 by omega)
    go_enter Try.func25, Try.ntmps25
    go_wp2
    refine bodyPost_ret (v := (.agg #[.int .i64 (wHi (n)), .int .u64 (wLo (n))])) ?_ rfl ⟨rfl, (Below.refl _ _).alloc (Nat.le_refl _) _⟩
    rw [← H1.out, ← of_lo, H2.out]
    simp [results, Try.results25, go_sem, u64_wrap]
  · have H2 := Lib.hid (show n / 9223372036854775808 = 0 by omega)
    have H3 := Lib.hid (show n % 18446744073709551616 = n by omega)
    go_enter Try.func25, Try.ntmps25
    go_wp2
    refine bodyPost_ret (v := (.agg #[.int .i64 (wHi (n)), .int .u64 (wLo (n))])) ?_ rfl ⟨rfl, (Below.refl _ _).alloc (Nat.le_refl _) _⟩
    rw [← H1.out, ← of_lo, H2.out, H3.out]
    simp [results, Try.results25, go_sem]

theorem ret_u64 {a b c d : Int} (h : a = c) (k : b = d) : Ending.returned (.tuple #[.int .u64 a, .int .u64 b]) = .returned (.tuple #[.int .u64 c, .int .u64 d]) := by rw [h, k]

set_option maxHeartbeats 400000 in
theorem half_any (x y : Int) (hx : 0 ≤ x) (hx' : x ≤ 18446744073709551615) (hy : 0 ≤ y) (hy' : y ≤ 18446744073709551615) (w : World) :
    Calls Try.prog 30 #[.int .u64 x, .int .u64 y] w fun e w' => e = .returned (.tuple #[.int .u64 ((x + y) % 18446744073709551616), .int .u64 ((x + y) / 18446744073709551616)]) ∧ w = w' := by
  go_enter Try.func30, Try.ntmps30
  go_wp2
  go_ret2
  exact ⟨ret_u64 (by omega) (by omega), rfl⟩

set_option maxHeartbeats 400000 in
theorem ref_add_any (y z : Int) (w : World) : Calls Try.prog 15 #[(.agg #[.int .i64 (wHi (y)), .int .u64 (wLo (y))]), (.agg #[.int .i64 (wHi (z)), .int .u64 (wLo (z))])] w (RetW (y + z) w) := by
  have a1 := wHi_lo y; have a2 := wHi_up y; have a3 := wLo_lo y; have a4 := wLo_up y
  have b1 := wHi_lo z; have b2 := wHi_up z; have b3 := wLo_lo z; have b4 := wLo_up z
  have H1 := Lib.hid (add_lo y z)
  have H2 := Lib.hid (add_hi y z)
  generalize wHi y = ah at *
  generalize wLo y = al at *
  generalize wHi z = bh at *
  generalize wLo z = bl at *
  have u1 : 0 ≤ IntKind.u64.wrap ah := by rw [u64_wrap]; omega
  have u2 : IntKind.u64.wrap ah ≤ 18446744073709551615 := by rw [u64_wrap]; omega
  have u3 : 0 ≤ IntKind.u64.wrap bh := by rw [u64_wrap]; omega
  have u4 : IntKind.u64.wrap bh ≤ 18446744073709551615 := by rw [u64_wrap]; omega
  go_enter Try.func15, Try.ntmps15
  go_wp2_with (go_at_call 30; refine (half_any _ _ (by first | assumption | omega) (by first | assumption | omega) (by first | assumption | omega) (by first | assumption | omega) _).mono ?_; rintro e w' ⟨rfl, rfl⟩)
  refine bodyPost_ret (v := (.agg #[.int .i64 (wHi (y + z)), .int .u64 (wLo (y + z))])) ?_ rfl ⟨rfl, (((Below.refl _ _).alloc (Nat.le_refl _) _).alloc (by simp) _).alloc (by simp; omega) _⟩
  rw [← H1.out, ← H2.out]
  simp [results, Try.results15, go_sem, u64_wrap, wrap64]
  try omega

set_option maxHeartbeats 400000 in
theorem ref_neg_any (z : Int) (w : World) : Calls Try.prog 17 #[(.agg #[.int .i64 (wHi (z)), .int .u64 (wLo (z))])] w (RetW (-z) w) := by
  have l0 := wLo_lo z; have l1 := wLo_up z
  have g0 := wHi_lo z; have g1 := wHi_up z
  have e1 : -1 - wHi z = wHi (-1 - z) := not_hi z
  have e2 : 18446744073709551615 - wLo z = wLo (-1 - z) := not_lo z
  have e3 := wrap_wHi (-1 - z)
  have e4 := wrap_wLo (-1 - z)
  go_enter Try.func17, Try.ntmps17
  go_wp2
  go_region_held3 (fun w' => w'.cell? ⟨w.heap.size, 0, none⟩ = some (.int .i64 (wHi z)) ∧ w'.cell? ⟨w.heap.size, 1, none⟩ = some (.int .u64 (wLo z)) ∧
      w'.cell? ⟨w.heap.size + 1, 0, none⟩ = some (oldAt w' ⟨w.heap.size + 1, 0, none⟩) ∧ w'.cell? ⟨w.heap.size + 1, 1, none⟩ = some (oldAt w' ⟨w.heap.size + 1, 1, none⟩) ∧
      w'.frozen? ⟨w.heap.size + 1, 0, none⟩ = false ∧ w'.frozen? ⟨w.heap.size + 1, 1, none⟩ = false ∧ Below w.heap.size w w' ∧ w.heap.size + 2 ≤ w'.heap.size)
      (first | exact neg_keep (w := w) (by assumption) (by assumption) | exact neg_start _ _ _ _ _ | exact neg_set (w := w) (by assumption))
      (first | (go_at_call 25; refine (ref_of_any _ (by decide) (by decide) _).mono ?_; rintro e w' ⟨rfl, hb⟩) | (go_at_call 15; refine (ref_add_any _ _ _).mono ?_; rintro e w' ⟨rfl, hb⟩))
  go_wp2
  obtain ⟨c0, c1, hB⟩ := neg_end (w := w) (by assumption)
  refine bodyPost_ret (v := (.agg #[.int .i64 (wHi (-z)), .int .u64 (wLo (-z))])) ?_ rfl ⟨rfl, hB⟩
  rw [show -1 - z + 1 = -z from by omega] at c0 c1 ⊢
  simp [results, Try.results17, go_sem, c0, c1]

theorem pow_snoc (z : Int) (k : Nat) : z * 2 ^ k + z * 2 ^ k = z * 2 ^ (k + 1) := by
  rw [Int.pow_succ]; generalize (2 : Int) ^ k = p; rw [← Int.mul_add]; congr 1; omega

set_option maxHeartbeats 400000 in
theorem ref_shift_in (z : Int) (n : Nat) (hn : n ≤ 127) (w : World) : Calls Try.prog 23 #[(.agg #[.int .i64 (wHi (z)), .int .u64 (wLo (z))]), .int .i64 n] w (RetW (shZ z n) w) := by
  have H3 := Lib.hid (shZ_in z n hn)
  have n0 : (0 : Int) ≤ n := by omega
  have n1 : ¬ (n : Int) < 0 := by omega
  have n2 : ¬ 127 < (n : Int) := by omega
  go_enter Try.func23, Try.ntmps23
  go_wp2
  go_loopw [5] (fun v wr => ∃ k : Nat, k ≤ n ∧ v = .int .i64 k ∧ Blk wr w.heap.size 24 #[.int .i64 (wHi (z * 2 ^ k)), .int .u64 (wLo (z * 2 ^ k))] ∧ Blk wr (w.heap.size + 1) 24 #[.int .i64 0, .int .u64 0] ∧ Below w.heap.size w wr)
    (fun v _ => n - (intOf v).toNat)
  case atStart => exact ⟨0, Nat.zero_le _, rfl, by simpa using (Blk.new w 24 _).alloc _, by have := Blk.new (w.alloc (.cells #[.int .i64 (wHi z), .int .u64 (wLo z)] 24)) 24 #[.int .i64 0, .int .u64 0]; rwa [World.size_alloc] at this, ((Below.refl _ _).alloc (Nat.le_refl _) _).alloc (by simp) _⟩
  case round =>
    obtain ⟨k, hk, rfl, b1, b2, hB⟩ := hrel
    have l1 := b1.lt
    have c0 := b1.cell 0; have c1 := b1.cell 1; have f0 := b1.frozen 0; have f1 := b1.frozen 1
    have d0 := b2.cell 0; have d1 := b2.cell 1; have g0 := b2.frozen 0; have g1 := b2.frozen 1
    dsimp at c0 c1 d0 d1
    by_cases hlt : k < n
    · go_wp2_with fail
      refine (ref_add_any _ _ _).mono ?_
      rintro e w1 ⟨rfl, hb⟩
      have B1 := b1.under hb
      have B2 := b2.under hb
      have c0' := B1.cell 0; have c1' := B1.cell 1; have f0' := B1.frozen 0; have f1' := B1.frozen 1
      dsimp at c0' c1'
      go_wp2
      go_roundw
      case rel => exact ⟨k + 1, by omega, by go_num, by rw [← pow_snoc]; exact (B1.set_ 0 _).set_ 1 _, (B2.far (by simp) _).far (by simp) _,
        ((hB.trans (hb.mono hB.size)).setCell (p := ⟨w.heap.size, 0, none⟩) (Nat.le_refl _) _).setCell (p := ⟨w.heap.size, 1, none⟩) (Nat.le_refl _) _⟩
      case measure => simp [intOf]; omega
    · obtain rfl : n = k := by omega
      go_wp2
      have r0 : ((wr.setCell ⟨w.heap.size + 1, 0, none⟩ (.int .i64 (wHi (z * 2 ^ n)))).setCell ⟨w.heap.size + 1, 1, none⟩ (.int .u64 (wLo (z * 2 ^ n)))).cell? ⟨w.heap.size + 1, 0, none⟩ = some (.int .i64 (wHi (z * 2 ^ n))) := ((b2.set_ 0 _).set_ 1 _).cell 0
      have r1 : ((wr.setCell ⟨w.heap.size + 1, 0, none⟩ (.int .i64 (wHi (z * 2 ^ n)))).setCell ⟨w.heap.size + 1, 1, none⟩ (.int .u64 (wLo (z * 2 ^ n)))).cell? ⟨w.heap.size + 1, 1, none⟩ = some (.int .u64 (wLo (z * 2 ^ n))) := ((b2.set_ 0 _).set_ 1 _).cell 1
      refine bodyPost_ret (v := (.agg #[.int .i64 (wHi (shZ z n)), .int .u64 (wLo (shZ z n))])) ?_ rfl ⟨rfl, (hB.setCell (p := ⟨w.heap.size + 1, 0, none⟩) (by simp) _).setCell (p := ⟨w.heap.size + 1, 1, none⟩) (by simp) _⟩
      rw [H3.out]
      simp [results, Try.results23, go_sem, r0, r1]

set_option maxHeartbeats 1000000 in
theorem ref_shift_out (z b : Int) (h1 : -9223372036854775808 ≤ b) (h2 : b ≤ 9223372036854775807) (h : b < 0 ∨ 127 < b) (w : World) : Calls Try.prog 23 #[(.agg #[.int .i64 (wHi (z)), .int .u64 (wLo (z))]), .int .i64 b] w (RetW (shZ z b) w) := by
  have H3 := Lib.hid (shZ_out z b h)
  rcases h with h | h
  · go_enter Try.func23, Try.ntmps23
    go_wp2
    refine bodyPost_ret (v := (.agg #[.int .i64 (wHi (shZ z b)), .int .u64 (wLo (shZ z b))])) ?_ rfl ⟨rfl, ((Below.refl _ _).alloc (Nat.le_refl _) _).alloc (by simp) _⟩
    rw [H3.out, show wHi 0 = 0 from rfl, show wLo 0 = 0 from rfl]
    simp [results, Try.results23, go_sem]
  · have h' : ¬ b < 0 := by omega
    go_enter Try.func23, Try.ntmps23
    go_wp2
    refine bodyPost_ret (v := (.agg #[.int .i64 (wHi (shZ z b)), .int .u64 (wLo (shZ z b))])) ?_ rfl ⟨rfl, ((Below.refl _ _).alloc (Nat.le_refl _) _).alloc (by simp) _⟩
    rw [H3.out, show wHi 0 = 0 from rfl, show wLo 0 = 0 from rfl]
    simp [results, Try.results23, go_sem]

theorem ref_shift_any (z b : Int) (h1 : -9223372036854775808 ≤ b) (h2 : b ≤ 9223372036854775807) (w : World) : Calls Try.prog 23 #[(.agg #[.int .i64 (wHi (z)), .int .u64 (wLo (z))]), .int .i64 b] w (RetW (shZ z b) w) := by
  by_cases h : b < 0 ∨ 127 < b
  · exact ref_shift_out z b h1 h2 h w
  · obtain ⟨k, rfl⟩ := Int.eq_ofNat_of_zero_le (a := b) (by omega)
    exact ref_shift_in z k (by omega) w
end Go.Proofs.Ytalhaceclfeohaa
