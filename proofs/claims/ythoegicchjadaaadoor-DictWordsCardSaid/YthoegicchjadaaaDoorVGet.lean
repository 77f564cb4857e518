/- varint.Get. -/
import Derived.Test.YthoegicchjadaaaDoorVNum
import Derived.Test.YthoegicchjadaaaDoorVRefG
namespace Go.Proofs.YthoegicchjadaaaDoor
open Go.RowKit

theorem grown_below {w w' : World} {B n : Nat} (h : w.grownBy w' (some B)) (hB : n ≤ B) (hn : n ≤ w.heap.size) : Below n w w' :=
  (Below.refl n w).grown h hn (fun k e => by cases e; exact hB)

set_option maxRecDepth 100000 in
set_option maxHeartbeats 2000000 in
theorem get_any {n₀ : Nat} (a b : Addr) (s : List UInt8) (hs : s.length ≤ 9223372036854775807) (w : World) (hS : Sent n₀ w a b) (hn₀ : n₀ ≤ w.heap.size) : Calls Tryd.prog 87 #[.string ⟨s.toArray⟩] w (GetPost s w) := by
  have hb0 := Blk.new w 148 #[.string ⟨s.toArray⟩, .nilIface]
  have hB0 : Below w.heap.size w (w.alloc (.cells #[.string ⟨s.toArray⟩, .nilIface] 148)) := (Below.refl _ w).alloc (Nat.le_refl _) _
  have hS0 := hS.below (hB0.mono hn₀)
  have HNum := Lib.hid (number_any a b w.heap.size s hs _ hS0 (by simp; omega) hn₀ hb0)
  have HB0 := Lib.hid hB0
  clear hb0 hB0 hS0
  go_enter Tryd.func87, Tryd.ntmps87
  go_wp2_with fail
  refine HNum.out.mono ?_
  rintro e w1 ⟨rfl, hb1, hg1⟩
  have hB1 : Below w.heap.size w w1 := HB0.out.trans (grown_below hg1 (Nat.le_refl _) (by simp))
  have hS1 := hS.below (hB1.mono hn₀)
  rcases vcode_cases s with hc | hc | hc
  · rw [hc] at hb1
    have HG : Hid (∀ w', Below w.heap.size w w' → GetPost s w (.returned (.tuple #[.int .u64 (vnum s), .string ⟨(s.drop (vsize s)).toArray⟩, .int .i64 0])) w') := Lib.hid (fun w' h => ⟨by rw [hc], h⟩)
    clear hc
    generalize s.drop (vsize s) = q at *
    generalize (vnum s : Int) = p at *
    have c0 := hb1.cell 0; have c1 := hb1.cell 1
    dsimp [er] at c0 c1
    go_wp2
    go_region
    all_goals
      go_wp2
      go_ret3
      have HG' := HG.out _ hB1.drew
      go_simp
  · have HE := Lib.hid (fun w' h => GetPost.err (s := s) (w := w) (w' := w') hc (by decide) h)
    rw [hc] at hb1
    have c1 := hb1.cell 1
    dsimp at c1
    rw [er_none] at c1
    clear hc
    go_wp2_with (go_at_call 93; refine (errno_none a b _ hS1).mono ?_; rintro e w' ⟨rfl, rfl⟩)
    go_ret3
    exact HE.out _ hB1
  · have HE := Lib.hid (fun w' h => GetPost.err (s := s) (w := w) (w' := w') hc (by decide) h)
    rw [hc] at hb1
    have c1 := hb1.cell 1
    dsimp at c1
    rw [er_more] at c1
    clear hc
    go_wp2_with (go_at_call 93; refine (errno_more a b _ hS1).mono ?_; rintro e w' ⟨rfl, rfl⟩)
    go_ret3
    exact HE.out _ hB1
end Go.Proofs.YthoegicchjadaaaDoor
