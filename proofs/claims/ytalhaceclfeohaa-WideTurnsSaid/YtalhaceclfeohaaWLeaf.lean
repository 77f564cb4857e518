/- The contracts of package wide's functions that have no loop, over this program. -/
import Derived.Test.YtalhaceclfeohaaProg
import Derived.Test.YtalhaceclfeohaaWMath
import Derived.WalkKit
import Derived.WalkSpells
import Derived.Below
import Derived.Lib.Hide
import Derived.Laws.Externs
import Derived.Lib.SmallJoins
import Derived.Test.YtalhaceclfeohaaWKit
import Derived.Deep.RegionHeld3
import Derived.Outline
namespace Go.Proofs.Ytalhaceclfeohaa
open Go.RowKit

theorem u64_wrap (n : Int) : IntKind.u64.wrap n = n % 18446744073709551616 := by
  simp [IntKind.wrap, IntKind.bits, IntKind.signed]
theorem wrap_wHi (z : Int) : IntKind.i64.wrap (wHi z) = wHi z := by
  have := wHi_lo z; have := wHi_up z
  rw [IntKind.wrap_i64]; omega
theorem wrap_wLo (z : Int) : IntKind.u64.wrap (wLo z) = wLo z := by
  have := wLo_lo z; have := wLo_up z
  rw [u64_wrap]; omega

set_option maxHeartbeats 400000 in
theorem add64_any (x y c : Int) (hx : 0 ≤ x) (hx' : x < 18446744073709551616) (hy : 0 ≤ y) (hy' : y < 18446744073709551616) (hc0 : 0 ≤ c) (hc : c ≤ 1) (w : World) : (callFunc 29 #[.int .u64 x, .int .u64 y, .int .u64 c]).run Try.prog w =
    .ok (.value (.tuple #[.int .u64 ((x + y + c) % 18446744073709551616), .int .u64 ((x + y + c) / 18446744073709551616)])) w := by
  obtain ⟨x, rfl⟩ := Int.eq_ofNat_of_zero_le hx
  obtain ⟨y, rfl⟩ := Int.eq_ofNat_of_zero_le hy
  obtain ⟨c, rfl⟩ := Int.eq_ofNat_of_zero_le hc0
  rw [run_callFunc_extern Try.func29 (by kernel_rfl) (by kernel_rfl) (by kernel_rfl) (e := add64Entry) (by kernel_rfl), run_add64 x y c (by omega) (by omega) (by omega) (by omega)]
  simp only [Result.andThen]
theorem add64_0 (x y : Int) (hx : 0 ≤ x) (hx' : x < 18446744073709551616) (hy : 0 ≤ y) (hy' : y < 18446744073709551616) (w : World) : (callFunc 29 #[.int .u64 x, .int .u64 y, .int .u64 0]).run Try.prog w =
    .ok (.value (.tuple #[.int .u64 ((x + y) % 18446744073709551616), .int .u64 ((x + y) / 18446744073709551616)])) w := by
  simpa using add64_any x y 0 hx hx' hy hy' (Int.le_refl 0) (by decide) w

/-- The call answers the wide number z, and makes new blocks alone. -/
def RetW (z : Int) (w : World) (e : Ending) (w' : World) : Prop := e = .returned (.agg #[.int .i64 (wHi (z)), .int .u64 (wLo (z))]) ∧ Below w.heap.size w w'

set_option maxHeartbeats 400000 in
theorem add_any (y z : Int) (w : World) : Calls Try.prog 14 #[(.agg #[.int .i64 (wHi (y)), .int .u64 (wLo (y))]), (.agg #[.int .i64 (wHi (z)), .int .u64 (wLo (z))])] w (RetW (y + z) w) := by
  have a1 := wHi_lo y; have a2 := wHi_up y; have a3 := wLo_lo y; have a4 := wLo_up y
  have b1 := wHi_lo z; have b2 := wHi_up z; have b3 := wLo_lo z; have b4 := wLo_up z
  have H1 := Lib.hid (add_lo y z)
  have H2 := Lib.hid (add_hi y z)
  generalize wHi y = ah at *
  generalize wLo y = al at *
  generalize wHi z = bh at *
  generalize wLo z = bl at *
  have k0 : 0 ≤ (al + bl) / 18446744073709551616 := by omega
  have k1 : (al + bl) / 18446744073709551616 ≤ 1 := by omega
  have u1 : 0 ≤ IntKind.u64.wrap ah := by rw [u64_wrap]; omega
  have u2 : IntKind.u64.wrap ah < 18446744073709551616 := by rw [u64_wrap]; omega
  have u3 : 0 ≤ IntKind.u64.wrap bh := by rw [u64_wrap]; omega
  have u4 : IntKind.u64.wrap bh < 18446744073709551616 := by rw [u64_wrap]; omega
  have a5 : al < 18446744073709551616 := by omega
  have b5 : bl < 18446744073709551616 := by omega
  go_enter Try.func14, Try.ntmps14
  go_wp2_with (first | simp only [add64_0 al bl a3 a5 b3 b5] | simp only [add64_any (IntKind.u64.wrap ah) (IntKind.u64.wrap bh) _ u1 u2 u3 u4 k0 k1])
  refine bodyPost_ret (v := (.agg #[.int .i64 (wHi (y + z)), .int .u64 (wLo (y + z))])) ?_ rfl ⟨rfl, (((Below.refl _ _).alloc (Nat.le_refl _) _).alloc (by simp) _).alloc (by simp; omega) _⟩
  rw [← H1.out, ← H2.out]
  simp [results, Try.results14, go_sem, u64_wrap, wrap64]

set_option maxHeartbeats 400000 in
theorem of_any (n : Int) (h1 : -9223372036854775808 ≤ n) (h2 : n ≤ 9223372036854775807) (w : World) : Calls Try.prog 24 #[.int .i64 n] w (RetW n w) := by
  have H1 := Lib.hid (of_hi n h1 h2)
  go_enter Try.func24, Try.ntmps24
  go_wp2
  refine bodyPost_ret (v := (.agg #[.int .i64 (wHi (n)), .int .u64 (wLo (n))])) ?_ rfl ⟨rfl, (Below.refl _ _).alloc (Nat.le_refl _) _⟩
  rw [← H1.out, ← of_lo]
  simp [results, Try.results24, go_sem, u64_wrap]

theorem to_start (w : World) (h l : Value) : (fun w' : World => w'.cell? ⟨w.heap.size, 0, none⟩ = some h ∧ w'.cell? ⟨w.heap.size, 1, none⟩ = some l ∧ Below (w.heap.size + 1) (w.alloc (.cells #[h, l] 24)) w') (w.alloc (.cells #[h, l] 24)).drew :=
  have b := (Blk.new w 24 #[h, l]).drew
  ⟨b.cell 0, b.cell 1, (Below.refl _ _).drew⟩
theorem to_keep {w a b : World} {h l : Value} (hS : a.cell? ⟨w.heap.size, 0, none⟩ = some h ∧ a.cell? ⟨w.heap.size, 1, none⟩ = some l ∧ Below (w.heap.size + 1) (w.alloc (.cells #[h, l] 24)) a) (hb : Below a.heap.size a b) :
    b.cell? ⟨w.heap.size, 0, none⟩ = some h ∧ b.cell? ⟨w.heap.size, 1, none⟩ = some l ∧ Below (w.heap.size + 1) (w.alloc (.cells #[h, l] 24)) b := by
  have hs : w.heap.size + 1 ≤ a.heap.size := by have := hS.2.2.size; simpa using this
  exact ⟨cell_below _ hb (by omega) hS.1, cell_below _ hb (by omega) hS.2.1, hS.2.2.trans (hb.mono hs)⟩
theorem to_end {w a : World} {h l : Value} (hS : a.cell? ⟨w.heap.size, 0, none⟩ = some h ∧ a.cell? ⟨w.heap.size, 1, none⟩ = some l ∧ Below (w.heap.size + 1) (w.alloc (.cells #[h, l] 24)) a) : Below w.heap.size w a :=
  ((Below.refl _ _).alloc (Nat.le_refl _) _).trans (hS.2.2.mono (by omega))

set_option maxHeartbeats 400000 in
theorem to_any (z : Int) (w : World) : Calls Try.prog 12 #[(.agg #[.int .i64 (wHi (z)), .int .u64 (wLo (z))])] w fun e w' => e = .returned (.tuple #[.int .i64 (toN z), .int .i64 (toE z)]) ∧ Below w.heap.size w w' := by
  have b0 := wSgn_lo z; have b1 := wSgn_up z
  have l0 := wLo_lo z; have l1 := wLo_up z
  have hS : wrap64 (wLo z) = wSgn z := by unfold wrap64 wSgn; rfl
  by_cases h : wHi (wSgn z) = wHi z
  · obtain ⟨h2, h3, h4⟩ := to_in h
    go_enter Try.func12, Try.ntmps12
    go_wp2
    refine wp_scope_over 0 rfl ?_
    go_wp2
    go_region_held3 (fun w' => w'.cell? ⟨w.heap.size, 0, none⟩ = some (.int .i64 (wHi z)) ∧ w'.cell? ⟨w.heap.size, 1, none⟩ = some (.int .u64 (wLo z)) ∧ Below (w.heap.size + 1) (w.alloc (.cells #[.int .i64 (wHi z), .int .u64 (wLo z)] 24)) w')
      (first | exact to_keep (w := w) (by assumption) (by assumption) | exact to_start _ _ _)
      (first | (go_at_call 24; refine (of_any _ b0 b1 _).mono ?_; rintro e w' ⟨rfl, hb⟩))
    all_goals
      go_wp2
      rw [Exit.jump_ret]
      go_ret2
      exact ⟨by rw [h3, h4]; rfl, to_end (by assumption)⟩
  · obtain ⟨h3, h4⟩ := to_out h
    have H3 := Lib.hid h3; have H4 := Lib.hid h4
    clear h3 h4
    go_enter Try.func12, Try.ntmps12
    go_wp2
    refine wp_scope_over 0 rfl ?_
    go_wp2
    go_region_held3 (fun w' => w'.cell? ⟨w.heap.size, 0, none⟩ = some (.int .i64 (wHi z)) ∧ w'.cell? ⟨w.heap.size, 1, none⟩ = some (.int .u64 (wLo z)) ∧ Below (w.heap.size + 1) (w.alloc (.cells #[.int .i64 (wHi z), .int .u64 (wLo z)] 24)) w')
      (first | exact to_keep (w := w) (by assumption) (by assumption) | exact to_start _ _ _)
      (first | (go_at_call 24; refine (of_any _ b0 b1 _).mono ?_; rintro e w' ⟨rfl, hb⟩))
    all_goals
      go_wp2
      go_step3
      refine ⟨rfl, ?_⟩
      go_wp2
      rw [Exit.jump_ret]
      go_ret2
      exact ⟨by rw [H3.out, H4.out]; rfl, to_end (by assumption)⟩

theorem not_i64 (z : Int) (h1 : -9223372036854775808 ≤ z) (h2 : z ≤ 9223372036854775807) : bits .xor .i64 (-1) z = -1 - z := by
  show IntKind.i64.wrap ((BitVec.ofInt 64 (-1) ^^^ BitVec.ofInt 64 z).toNat : Int) = _
  rw [show BitVec.ofInt 64 (-1) = BitVec.allOnes 64 from rfl, BitVec.allOnes_xor, BitVec.toNat_not, BitVec.toNat_ofInt, IntKind.wrap_i64]
  omega
theorem not_u64 (z : Int) (h1 : 0 ≤ z) (h2 : z ≤ 18446744073709551615) : bits .xor .u64 IntKind.u64.max z = 18446744073709551615 - z := by
  show IntKind.u64.wrap ((BitVec.allOnes 64 ^^^ BitVec.ofInt 64 z).toNat : Int) = _
  rw [BitVec.allOnes_xor, BitVec.toNat_not, BitVec.toNat_ofInt, u64_wrap]
  omega

theorem neg_start (w : World) (h l x y : Value) : (fun w' : World => w'.cell? ⟨w.heap.size, 0, none⟩ = some h ∧ w'.cell? ⟨w.heap.size, 1, none⟩ = some l ∧
      w'.cell? ⟨w.heap.size + 1, 0, none⟩ = some (oldAt w' ⟨w.heap.size + 1, 0, none⟩) ∧ w'.cell? ⟨w.heap.size + 1, 1, none⟩ = some (oldAt w' ⟨w.heap.size + 1, 1, none⟩) ∧
      w'.frozen? ⟨w.heap.size + 1, 0, none⟩ = false ∧ w'.frozen? ⟨w.heap.size + 1, 1, none⟩ = false ∧ Below w.heap.size w w' ∧ w.heap.size + 2 ≤ w'.heap.size)
    ((w.alloc (.cells #[h, l] 24)).alloc (.cells #[x, y] 24)).drew := by
  have b1 := ((Blk.new w 24 #[h, l]).alloc (.cells #[x, y] 24)).drew
  have b2 := (Blk.new (w.alloc (.cells #[h, l] 24)) 24 #[x, y]).drew
  rw [World.size_alloc] at b2
  exact ⟨b1.cell 0, b1.cell 1, old_of (b2.cell 0), old_of (b2.cell 1), b2.frozen 0, b2.frozen 1, (((Below.refl _ _).alloc (Nat.le_refl _) _).alloc (by simp) _).drew, by simp⟩
theorem neg_keep {w a b : World} {h l : Value} (hS : a.cell? ⟨w.heap.size, 0, none⟩ = some h ∧ a.cell? ⟨w.heap.size, 1, none⟩ = some l ∧
      a.cell? ⟨w.heap.size + 1, 0, none⟩ = some (oldAt a ⟨w.heap.size + 1, 0, none⟩) ∧ a.cell? ⟨w.heap.size + 1, 1, none⟩ = some (oldAt a ⟨w.heap.size + 1, 1, none⟩) ∧
      a.frozen? ⟨w.heap.size + 1, 0, none⟩ = false ∧ a.frozen? ⟨w.heap.size + 1, 1, none⟩ = false ∧ Below w.heap.size w a ∧ w.heap.size + 2 ≤ a.heap.size) (hb : Below a.heap.size a b) :
    b.cell? ⟨w.heap.size, 0, none⟩ = some h ∧ b.cell? ⟨w.heap.size, 1, none⟩ = some l ∧
      b.cell? ⟨w.heap.size + 1, 0, none⟩ = some (oldAt b ⟨w.heap.size + 1, 0, none⟩) ∧ b.cell? ⟨w.heap.size + 1, 1, none⟩ = some (oldAt b ⟨w.heap.size + 1, 1, none⟩) ∧
      b.frozen? ⟨w.heap.size + 1, 0, none⟩ = false ∧ b.frozen? ⟨w.heap.size + 1, 1, none⟩ = false ∧ Below w.heap.size w b ∧ w.heap.size + 2 ≤ b.heap.size := by
  obtain ⟨h1, h2, h3, h4, h5, h6, h7, h8⟩ := hS
  exact ⟨cell_below _ hb (by omega) h1, cell_below _ hb (by omega) h2, old_below _ hb (by omega) h3, old_below _ hb (by omega) h4, frozen_below _ hb (by omega) h5, frozen_below _ hb (by omega) h6,
    h7.trans (hb.mono h7.size), Nat.le_trans h8 hb.size⟩
theorem neg_set {w a : World} {h l x y : Value} (hS : a.cell? ⟨w.heap.size, 0, none⟩ = some h ∧ a.cell? ⟨w.heap.size, 1, none⟩ = some l ∧
      a.cell? ⟨w.heap.size + 1, 0, none⟩ = some (oldAt a ⟨w.heap.size + 1, 0, none⟩) ∧ a.cell? ⟨w.heap.size + 1, 1, none⟩ = some (oldAt a ⟨w.heap.size + 1, 1, none⟩) ∧
      a.frozen? ⟨w.heap.size + 1, 0, none⟩ = false ∧ a.frozen? ⟨w.heap.size + 1, 1, none⟩ = false ∧ Below w.heap.size w a ∧ w.heap.size + 2 ≤ a.heap.size) :
    ((a.setCell ⟨w.heap.size + 1, 0, none⟩ x).setCell ⟨w.heap.size + 1, 1, none⟩ y).cell? ⟨w.heap.size, 0, none⟩ = some h ∧ ((a.setCell ⟨w.heap.size + 1, 0, none⟩ x).setCell ⟨w.heap.size + 1, 1, none⟩ y).cell? ⟨w.heap.size, 1, none⟩ = some l ∧
      ((a.setCell ⟨w.heap.size + 1, 0, none⟩ x).setCell ⟨w.heap.size + 1, 1, none⟩ y).cell? ⟨w.heap.size + 1, 0, none⟩ = some (oldAt ((a.setCell ⟨w.heap.size + 1, 0, none⟩ x).setCell ⟨w.heap.size + 1, 1, none⟩ y) ⟨w.heap.size + 1, 0, none⟩) ∧ ((a.setCell ⟨w.heap.size + 1, 0, none⟩ x).setCell ⟨w.heap.size + 1, 1, none⟩ y).cell? ⟨w.heap.size + 1, 1, none⟩ = some (oldAt ((a.setCell ⟨w.heap.size + 1, 0, none⟩ x).setCell ⟨w.heap.size + 1, 1, none⟩ y) ⟨w.heap.size + 1, 1, none⟩) ∧
      ((a.setCell ⟨w.heap.size + 1, 0, none⟩ x).setCell ⟨w.heap.size + 1, 1, none⟩ y).frozen? ⟨w.heap.size + 1, 0, none⟩ = false ∧ ((a.setCell ⟨w.heap.size + 1, 0, none⟩ x).setCell ⟨w.heap.size + 1, 1, none⟩ y).frozen? ⟨w.heap.size + 1, 1, none⟩ = false ∧ Below w.heap.size w ((a.setCell ⟨w.heap.size + 1, 0, none⟩ x).setCell ⟨w.heap.size + 1, 1, none⟩ y) ∧ w.heap.size + 2 ≤ ((a.setCell ⟨w.heap.size + 1, 0, none⟩ x).setCell ⟨w.heap.size + 1, 1, none⟩ y).heap.size := by
  obtain ⟨h1, h2, h3, h4, h5, h6, h7, h8⟩ := hS
  exact ⟨(World.cell?_setCell_other _ _ _ _ (by simp)).trans ((World.cell?_setCell_other _ _ _ _ (by simp)).trans h1), (World.cell?_setCell_other _ _ _ _ (by simp)).trans ((World.cell?_setCell_other _ _ _ _ (by simp)).trans h2),
    set_old (set_old h3), set_old (set_old h4), by rw [World.frozen?_setCell, World.frozen?_setCell]; exact h5, by rw [World.frozen?_setCell, World.frozen?_setCell]; exact h6,
    (h7.setCell (p := ⟨w.heap.size + 1, 0, none⟩) (by simp) _).setCell (p := ⟨w.heap.size + 1, 1, none⟩) (by simp) _, by simpa [World.setCell] using h8⟩
theorem neg_end {w a : World} {h l x y : Value} (hS : ((a.setCell ⟨w.heap.size + 1, 0, none⟩ x).setCell ⟨w.heap.size + 1, 1, none⟩ y).cell? ⟨w.heap.size, 0, none⟩ = some h ∧ ((a.setCell ⟨w.heap.size + 1, 0, none⟩ x).setCell ⟨w.heap.size + 1, 1, none⟩ y).cell? ⟨w.heap.size, 1, none⟩ = some l ∧
      ((a.setCell ⟨w.heap.size + 1, 0, none⟩ x).setCell ⟨w.heap.size + 1, 1, none⟩ y).cell? ⟨w.heap.size + 1, 0, none⟩ = some (oldAt ((a.setCell ⟨w.heap.size + 1, 0, none⟩ x).setCell ⟨w.heap.size + 1, 1, none⟩ y) ⟨w.heap.size + 1, 0, none⟩) ∧ ((a.setCell ⟨w.heap.size + 1, 0, none⟩ x).setCell ⟨w.heap.size + 1, 1, none⟩ y).cell? ⟨w.heap.size + 1, 1, none⟩ = some (oldAt ((a.setCell ⟨w.heap.size + 1, 0, none⟩ x).setCell ⟨w.heap.size + 1, 1, none⟩ y) ⟨w.heap.size + 1, 1, none⟩) ∧
      ((a.setCell ⟨w.heap.size + 1, 0, none⟩ x).setCell ⟨w.heap.size + 1, 1, none⟩ y).frozen? ⟨w.heap.size + 1, 0, none⟩ = false ∧ ((a.setCell ⟨w.heap.size + 1, 0, none⟩ x).setCell ⟨w.heap.size + 1, 1, none⟩ y).frozen? ⟨w.heap.size + 1, 1, none⟩ = false ∧ Below w.heap.size w ((a.setCell ⟨w.heap.size + 1, 0, none⟩ x).setCell ⟨w.heap.size + 1, 1, none⟩ y) ∧ w.heap.size + 2 ≤ ((a.setCell ⟨w.heap.size + 1, 0, none⟩ x).setCell ⟨w.heap.size + 1, 1, none⟩ y).heap.size) :
    ((a.setCell ⟨w.heap.size + 1, 0, none⟩ x).setCell ⟨w.heap.size + 1, 1, none⟩ y).cell? ⟨w.heap.size + 1, 0, none⟩ = some x ∧ ((a.setCell ⟨w.heap.size + 1, 0, none⟩ x).setCell ⟨w.heap.size + 1, 1, none⟩ y).cell? ⟨w.heap.size + 1, 1, none⟩ = some y ∧ Below w.heap.size w ((a.setCell ⟨w.heap.size + 1, 0, none⟩ x).setCell ⟨w.heap.size + 1, 1, none⟩ y) := by
  obtain ⟨h1, h2, h3, h4, h5, h6, h7, h8⟩ := hS
  have e : ((a.setCell ⟨w.heap.size + 1, 0, none⟩ x).setCell ⟨w.heap.size + 1, 1, none⟩ y).cell? ⟨w.heap.size + 1, 0, none⟩ = (a.setCell ⟨w.heap.size + 1, 0, none⟩ x).cell? ⟨w.heap.size + 1, 0, none⟩ := World.cell?_setCell_other _ _ _ _ (by simp)
  rw [e] at h3
  exact ⟨e.trans (set_back h3), set_back h4, h7⟩

set_option maxHeartbeats 400000 in
theorem neg_any (z : Int) (w : World) : Calls Try.prog 16 #[(.agg #[.int .i64 (wHi (z)), .int .u64 (wLo (z))])] w (RetW (-z) w) := by
  have l0 := wLo_lo z; have l1 := wLo_up z
  have g0 := wHi_lo z; have g1 := wHi_up z
  have e1 : bits .xor .i64 (-1) (wHi z) = wHi (-1 - z) := (not_i64 _ g0 g1).trans (not_hi z)
  have e2 : bits .xor .u64 IntKind.u64.max (wLo z) = wLo (-1 - z) := (not_u64 _ l0 l1).trans (not_lo z)
  have s1 : IntKind.i64.signed = true := rfl
  have s2 : IntKind.u64.signed = false := rfl
  go_enter Try.func16, Try.ntmps16
  go_wp2
  go_region_held3 (fun w' => w'.cell? ⟨w.heap.size, 0, none⟩ = some (.int .i64 (wHi z)) ∧ w'.cell? ⟨w.heap.size, 1, none⟩ = some (.int .u64 (wLo z)) ∧
      w'.cell? ⟨w.heap.size + 1, 0, none⟩ = some (oldAt w' ⟨w.heap.size + 1, 0, none⟩) ∧ w'.cell? ⟨w.heap.size + 1, 1, none⟩ = some (oldAt w' ⟨w.heap.size + 1, 1, none⟩) ∧
      w'.frozen? ⟨w.heap.size + 1, 0, none⟩ = false ∧ w'.frozen? ⟨w.heap.size + 1, 1, none⟩ = false ∧ Below w.heap.size w w' ∧ w.heap.size + 2 ≤ w'.heap.size)
      (first | exact neg_keep (w := w) (by assumption) (by assumption) | exact neg_start _ _ _ _ _ | exact neg_set (w := w) (by assumption))
      (first | (go_at_call 24; refine (of_any _ (by decide) (by decide) _).mono ?_; rintro e w' ⟨rfl, hb⟩) | (go_at_call 14; refine (add_any _ _ _).mono ?_; rintro e w' ⟨rfl, hb⟩))
  go_wp2
  obtain ⟨c0, c1, hB⟩ := neg_end (w := w) (by assumption)
  refine bodyPost_ret (v := (.agg #[.int .i64 (wHi (-z)), .int .u64 (wLo (-z))])) ?_ rfl ⟨rfl, hB⟩
  rw [show -1 - z + 1 = -z from by omega] at c0 c1 ⊢
  simp [results, Try.results16, go_sem, c0, c1]
end Go.Proofs.Ytalhaceclfeohaa
