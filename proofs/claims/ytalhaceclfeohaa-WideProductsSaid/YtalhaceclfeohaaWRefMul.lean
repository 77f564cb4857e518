/- The document's own product: bit by bit. -/
import Derived.Test.YtalhaceclfeohaaWRef
namespace Go.Proofs.Ytalhaceclfeohaa
open Go.RowKit

set_option maxHeartbeats 2000000 in
theorem ref_mul_any (n m : Int) (h1 : -9223372036854775808 ≤ n) (h2 : n ≤ 9223372036854775807) (k1 : -9223372036854775808 ≤ m) (k2 : m ≤ 9223372036854775807) (w : World) :
    Calls Try.prog 21 #[.int .i64 n, .int .i64 m] w (RetW (n * m) w) := by
  have u1 : 0 ≤ IntKind.u64.wrap n := by rw [u64_wrap]; omega
  have u2 : IntKind.u64.wrap n ≤ 18446744073709551615 := by rw [u64_wrap]; omega
  have HD : Hid (∀ k : Nat, IntKind.u64.wrap n / 2 ^ k % 2 = dig n k) := Lib.hid (fun k => by rw [u64_wrap]; rfl)
  have H0 := Lib.hid (mulP_end n m)
  go_enter Try.func21, Try.ntmps21
  go_wp2
  go_loopw [6] (fun v wr => ∃ k : Nat, k ≤ 64 ∧ v = .int .i64 k ∧ Blk wr (w.heap.size + 1) 24 #[.int .i64 (wHi (mulP n m k)), .int .u64 (wLo (mulP n m k))] ∧ Blk wr w.heap.size 24 #[.int .i64 0, .int .u64 0] ∧ Below w.heap.size w wr)
    (fun v _ => 64 - (intOf v).toNat)
  case atStart =>
    refine ⟨0, Nat.zero_le _, rfl, ?_, (Blk.new w _ _).alloc _, ((Below.refl _ _).alloc (Nat.le_refl _) _).alloc (by simp) _⟩
    have := Blk.new (w.alloc (.cells #[.int .i64 0, .int .u64 0] 24)) 24 #[.int .i64 0, .int .u64 0]
    rw [World.size_alloc] at this
    rw [mulP_zero]
    exact this
  case round =>
    obtain ⟨k, hk, rfl, b1, b2, hB⟩ := hrel
    have l1 := b1.lt
    have c0 := b1.cell 0; have c1 := b1.cell 1; have f0 := b1.frozen 0; have f1 := b1.frozen 1
    have d0 := b2.cell 0; have d1 := b2.cell 1; have g0 := b2.frozen 0; have g1 := b2.frozen 1
    dsimp at c0 c1 d0 d1
    by_cases hlt : k < 64
    · have hk' : k ≤ 63 := by omega
      have hp : 0 ≤ IntKind.u64.wrap n / 2 ^ k := Int.ediv_nonneg u1 (Int.le_of_lt (Int.pow_pos (by decide)))
      by_cases hd : dig n k = 1
      · have hbit : (IntKind.u64.wrap n / 2 ^ k % 2 == 1) = true := by rw [HD.out, hd]; rfl
        clear hd
        go_wp2_with fail
        refine (ref_of_any m k1 k2 _).mono ?_
        rintro e w1 ⟨rfl, hb1⟩
        go_wp2_with fail
        refine (ref_shift_any m k (by omega) (by omega) _).mono ?_
        rintro e w2 ⟨rfl, hb2⟩
        have B1 := (b1.under hb1).under hb2
        have B2 := (b2.under hb1).under hb2
        have hB2 : Below w.heap.size w w2 := (hB.trans (hb1.mono hB.size)).trans (hb2.mono (Nat.le_trans hB.size hb1.size))
        have hs2 := hB2.size
        have bx := Blk.new w2 24 #[.int .i64 (wHi (shZ m k)), .int .u64 (wLo (shZ m k))]
        have BA := B1.alloc (.cells #[.int .i64 (wHi (shZ m k)), .int .u64 (wLo (shZ m k))] 24)
        have BR := B2.alloc (.cells #[.int .i64 (wHi (shZ m k)), .int .u64 (wLo (shZ m k))] 24)
        have hB3 := hB2.alloc hs2 (.cells #[.int .i64 (wHi (shZ m k)), .int .u64 (wLo (shZ m k))] 24)
        have l2 := B1.lt
        have p0 := BA.cell 0; have p1 := BA.cell 1
        have x0 := bx.cell 0; have x1 := bx.cell 1; have y0 := bx.frozen 0; have y1 := bx.frozen 1
        dsimp at p0 p1 x0 x1
        clear hb1 hb2
        by_cases h63 : k = 63
        · subst h63
          have HS : Hid (mulP n m 63 + -shZ m 63 = mulP n m 64) := Lib.hid (by show mulP n m 63 + -shZ m ((63 : Nat) : Int) = _; rw [shZ_in m 63 (by decide)]; exact mulP_last n m h1 h2 (by rw [← HD.out]; simpa using hbit))
          go_wp2_with fail
          refine (ref_neg_any _ _).mono ?_
          rintro e w3 ⟨rfl, hb3⟩
          have BB := ((BA.under hb3).far (p := ⟨w2.heap.size, 0, none⟩) (by simp; omega) (.int .i64 (wHi (-shZ m 63)))).far (p := ⟨w2.heap.size, 1, none⟩) (by simp; omega) (.int .u64 (wLo (-shZ m 63)))
          have BS := ((BR.under hb3).far (p := ⟨w2.heap.size, 0, none⟩) (by simp; omega) (.int .i64 (wHi (-shZ m 63)))).far (p := ⟨w2.heap.size, 1, none⟩) (by simp; omega) (.int .u64 (wLo (-shZ m 63)))
          have BX := bx.under hb3
          have BY := (BX.set_ 0 (.int .i64 (wHi (-shZ m 63)))).set_ 1 (.int .u64 (wLo (-shZ m 63)))
          have hB4 := ((hB3.trans (hb3.mono hB3.size)).setCell (p := ⟨w2.heap.size, 0, none⟩) hs2 (.int .i64 (wHi (-shZ m 63)))).setCell (p := ⟨w2.heap.size, 1, none⟩) hs2 (.int .u64 (wLo (-shZ m 63)))
          have q0 := BX.cell 0; have q1 := BX.cell 1; have z0 := BX.frozen 0; have z1 := BX.frozen 1
          have m0 := BB.cell 0; have m1 := BB.cell 1
          have n0 := BY.cell 0; have n1 := BY.cell 1
          simp only [List.setIfInBounds_toArray, List.set_cons_zero, List.set_cons_succ] at n0 n1
          dsimp at q0 q1 m0 m1 n0 n1
          clear p0 p1 x0 x1 y0 y1 c0 c1 d0 d1 f0 f1 g0 g1
          go_wp2_with fail
          refine (ref_add_any _ _ _).mono ?_
          rintro e w4 ⟨rfl, hb4⟩
          have CC := BB.under hb4
          have CS := BS.under hb4
          have hB5 := hB4.trans (hb4.mono hB4.size)
          have s0 := CC.cell 0; have s1 := CC.cell 1; have t0 := CC.frozen 0; have t1 := CC.frozen 1
          dsimp at s0 s1
          go_wp2
          go_roundw
          case rel => exact ⟨64, by omega, by go_num, by rw [← HS.out]; exact (CC.set_ 0 _).set_ 1 _, (CS.far (by simp) _).far (by simp) _, (hB5.setCell (p := ⟨w.heap.size + 1, 0, none⟩) (by simp) _).setCell (p := ⟨w.heap.size + 1, 1, none⟩) (by simp) _⟩
          case measure => simp [intOf]
        · have hn : ((k : Int) == 63) = false := by simp; omega
          have HS : Hid (mulP n m k + shZ m k = mulP n m (k + 1)) := Lib.hid (by rw [shZ_in m k (by omega)]; exact mulP_on n m k (by omega) (by rw [← HD.out]; simpa using hbit))
          go_wp2_with fail
          refine (ref_add_any _ _ _).mono ?_
          rintro e w3 ⟨rfl, hb3⟩
          have BB := BA.under hb3
          have BS := BR.under hb3
          have hB4 := hB3.trans (hb3.mono hB3.size)
          have q0 := BB.cell 0; have q1 := BB.cell 1; have z0 := BB.frozen 0; have z1 := BB.frozen 1
          dsimp at q0 q1
          go_wp2
          go_roundw
          case rel => exact ⟨k + 1, by omega, by go_num, by rw [← HS.out]; exact (BB.set_ 0 _).set_ 1 _, (BS.far (by simp) _).far (by simp) _, (hB4.setCell (p := ⟨w.heap.size + 1, 0, none⟩) (by simp) _).setCell (p := ⟨w.heap.size + 1, 1, none⟩) (by simp) _⟩
          case measure => simp [intOf]; omega
      · have hbit : (IntKind.u64.wrap n / 2 ^ k % 2 == 1) = false := by rw [HD.out]; simp [hd]
        have HO := Lib.hid (mulP_off n m h1 h2 k hk' hd)
        clear hd
        go_wp2
        go_roundw
        case rel => exact ⟨k + 1, by omega, by go_num, by rw [HO.out]; exact b1, b2, hB⟩
        case measure => simp [intOf]; omega
    · obtain rfl : k = 64 := by omega
      go_wp2
      have q := (b2.set_ 0 (.int .i64 (wHi (mulP n m 64)))).set_ 1 (.int .u64 (wLo (mulP n m 64)))
      have r0 := q.cell 0
      have r1 := q.cell 1
      simp only [List.setIfInBounds_toArray, List.set_cons_zero, List.set_cons_succ] at r0 r1
      refine bodyPost_ret (v := (.agg #[.int .i64 (wHi (n * m)), .int .u64 (wLo (n * m))])) ?_ rfl ⟨rfl, (hB.setCell (p := ⟨w.heap.size, 0, none⟩) (Nat.le_refl _) _).setCell (p := ⟨w.heap.size, 1, none⟩) (Nat.le_refl _) _⟩
      rw [← H0.out]
      simp [results, Try.results21, go_sem, r0, r1]
end Go.Proofs.Ytalhaceclfeohaa
