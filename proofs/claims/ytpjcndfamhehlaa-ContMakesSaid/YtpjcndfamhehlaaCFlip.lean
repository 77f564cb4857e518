/- cont.Flip. -/
import Derived.Test.YtpjcndfamhehlaaCOp
namespace Go.Proofs.Ytpjcndfamhehlaa
open Go.RowKit

/-- What Flip answers. -/
def flipV (f : Int) (d : List UInt8) (a b : Int) : Value :=
  if RightC f d ∧ 0 ≤ a ∧ a ≤ 256 ∧ 0 ≤ b ∧ b ≤ 256 then .tuple #[contV (bestF (flipS (setOf f.toNat d) a b) : Nat) (bestD (flipS (setOf f.toNat d) a b)), .int .i64 0] else .tuple #[contV 0 [], .int .i64 60]
theorem flip_same (s : Bs) (a b : Nat) : Same (opS 3 s (spanS (fun _ => false) a b)) (flipS s a b) := fun n _ => by
  unfold opS flipS spanS
  rw [if_neg (by decide), if_neg (by decide), if_pos rfl, Bool.false_or]
  by_cases h : (a : Int) ≤ n ∧ (n : Int) < b
  · rw [if_pos h]
    have h1 : a ≤ n := by omega
    have h2 : n < b := by omega
    simp [h1, h2]
  · rw [if_neg h]
    have : (decide (a ≤ n) && decide (n < b)) = false := by
      rw [Bool.and_eq_false_iff]; simp; omega
    rw [this]; simp
theorem opCV_form (op f g : Int) (d e : List UInt8) : ∃ (x : Int) (y : List UInt8) (z : Int), opCV op f d g e = .tuple #[.agg #[.int .i64 x, .string ⟨y.toArray⟩], .int .i64 z] := by
  unfold opCV
  split
  · exact ⟨_, _, _, rfl⟩
  · exact ⟨_, _, _, rfl⟩
theorem flip_op (f : Int) (d : List UInt8) (a b : Nat) (ha : a ≤ 256) (hb : b ≤ 256) : opCV 3 f d (bestF (spanS (fun _ => false) a b) : Nat) (bestD (spanS (fun _ => false) a b)) = flipV f d a b := by
  have hr := best_right (spanS (fun _ => false) a b)
  have hs := best_set (spanS (fun _ => false) a b)
  by_cases h : RightC f d
  · have hS : Same (opS 3 (setOf f.toNat d) (setOf (bestF (spanS (fun _ => false) a b)) (bestD (spanS (fun _ => false) a b)))) (flipS (setOf f.toNat d) a b) :=
      (op_congr (fun _ _ => rfl) hs 3).trans (flip_same _ a b)
    unfold opCV flipV
    rw [if_pos ⟨rfl, h, hr⟩, if_pos ⟨h, by omega, by omega, by omega, by omega⟩, Int.toNat_natCast]
    rw [show (3 : Int).toNat = 3 from rfl, bestF_congr hS, bestD_congr hS]
  · unfold opCV flipV
    rw [if_neg (fun k => h k.2.1), if_neg (fun k => h k.1)]

set_option maxRecDepth 100000 in
set_option maxHeartbeats 4000000 in
theorem flip_any (f : Int) (hf1 : -9223372036854775808 ≤ f) (hf2 : f ≤ 9223372036854775807) (d : List UInt8) (hd : d.length ≤ 9223372036854775807) (a b : Int) (w : World) :
    Calls Try.prog 28 #[contV f d, .int .i64 a, .int .i64 b] w fun e w' => e = .returned (flipV f d a b) ∧ Below w.heap.size w w' := by
  have hz := zero_set
  have hss := scl_size
  unfold contV
  have hB0 : Below w.heap.size w ((w.alloc (.cells #[.int .i64 f, .string ⟨d.toArray⟩] 23)).alloc (.cells #[.int .i64 0, .string ⟨#[]⟩] 23)) := ((Below.refl _ _).alloc (Nat.le_refl _) _).alloc (by simp) _
  have bC : Blk ((w.alloc (.cells #[.int .i64 f, .string ⟨d.toArray⟩] 23)).alloc (.cells #[.int .i64 0, .string ⟨#[]⟩] 23)) w.heap.size 23 #[.int .i64 f, .string ⟨d.toArray⟩] := (Blk.new w _ _).alloc _
  have bR : Blk ((w.alloc (.cells #[.int .i64 f, .string ⟨d.toArray⟩] 23)).alloc (.cells #[.int .i64 0, .string ⟨#[]⟩] 23)) (w.heap.size + 1) 23 #[.int .i64 0, .string ⟨#[]⟩] := by
    have := Blk.new (w.alloc (.cells #[.int .i64 f, .string ⟨d.toArray⟩] 23)) 23 #[.int .i64 0, .string ⟨#[]⟩]
    rwa [World.size_alloc] at this
  by_cases hok : 0 ≤ a ∧ a ≤ 256 ∧ 0 ≤ b ∧ b ≤ 256
  · obtain ⟨h1, h2, h3, h4⟩ := hok
    obtain ⟨a, rfl⟩ : ∃ k : Nat, a = k := ⟨a.toNat, by omega⟩
    obtain ⟨b, rfl⟩ : ∃ k : Nat, b = k := ⟨b.toNat, by omega⟩
    obtain ⟨mn, hmn, hmin⟩ : ∃ m : Int, ¬ m < 0 ∧ ∀ (ts : Array TypeId) (t : TypeId) (W : World), (Builtin.min_ ts t #[.int .i64 (a : Int), .int .i64 (b : Int)]).run Try.prog W = .ok (.int .i64 m) W := ⟨if (b : Int) < a then (b : Int) else a, by split <;> omega, fun ts t W => run_min_int2 ..⟩
    obtain ⟨mx, hmx, hmax⟩ : ∃ m : Int, ¬ 256 < m ∧ ∀ (ts : Array TypeId) (t : TypeId) (W : World), (Builtin.max_ ts t #[.int .i64 (a : Int), .int .i64 (b : Int)]).run Try.prog W = .ok (.int .i64 m) W := ⟨if (b : Int) > a then (b : Int) else a, by split <;> omega, fun ts t W => run_max_int2 ..⟩
    have HV := Lib.hid (flip_op f d a b (by omega) (by omega))
    have bS : Blk (((w.alloc (.cells #[.int .i64 f, .string ⟨d.toArray⟩] 23)).alloc (.cells #[.int .i64 0, .string ⟨#[]⟩] 23)).alloc (.cells (scl fun _ => false) 48)) (w.heap.size + 1 + 1) 48 (scl fun _ => false) := by
      have := Blk.new ((w.alloc (.cells #[.int .i64 f, .string ⟨d.toArray⟩] 23)).alloc (.cells #[.int .i64 0, .string ⟨#[]⟩] 23)) 48 (scl fun _ => false)
      rwa [World.size_alloc, World.size_alloc] at this
    have HS := Lib.hid (putSpan_any (w.heap.size + 1 + 1) (fun _ => false) a b (by omega) (by omega) _ bS)
    have hB1 := hB0.alloc hB0.size (.cells (scl fun _ => false) 48)
    have bC1 := bC.alloc (.cells (scl fun _ => false) 48)
    have bR1 := bR.alloc (.cells (scl fun _ => false) 48)
    clear hB0 bC bR bS h1 h2 h3 h4
    generalize spanS (fun _ => false) a b = s at *
    generalize flipV f d a b = av at *
    go_enter Try.func28, Try.ntmps28
    go_wp2_with fail
    refine HS.out.mono ?_
    rintro e w1 ⟨⟨v, rfl⟩, hg, hb⟩
    have hB2 := hB1.trans (grown_below hg (by omega) hB1.size)
    have bC2 := bC1.grown hg (by omega)
    have bR2 := bR1.grown hg (by omega)
    have HA := Lib.hid (fun W hW => best_any (w.heap.size + 1 + 1) s W hW)
    have hb' := hb.drew
    have bC3 := bC2.drew
    have HOp := Lib.hid (fun W => opC_any f hf1 hf2 d hd (bestF s : Nat) (by have := bestF_form s; omega) (by have := bestF_form s; omega) (bestD s) (by have := best_32 s; omega) W 3)
    obtain ⟨x, y, z, hxyz⟩ := opCV_form 3 f (bestF s : Nat) d (bestD s)
    rw [hxyz] at HV
    simp only [hxyz] at HOp
    have HB2 := Lib.hid hB2; have HC2 := Lib.hid bC2; have HR2 := Lib.hid bR2
    have c0 := bC3.cell 0; have c1 := bC3.cell 1
    dsimp at c0 c1
    unfold contV at HA HOp
    clear hxyz hB1 bC1 bR1 hg hb bC2 bR2 hB2 bC3
    generalize bestF s = q at *
    generalize bestD s = dq at *
    go_wp2
    go_region_with (first
      | (go_at_call 33; refine (HA.out _ hb').mono ?_; rintro e w2 ⟨rfl, hb2⟩; have hb3 : Below w1.heap.size w1 w2 := ((Below.refl w1.heap.size w1).drew).trans hb2; have bC3 := HC2.out.under hb3; have c0 := bC3.cell 0; have c1 := bC3.cell 1; dsimp at c0 c1; clear bC3)
      | (go_at_call 26; refine (HOp.out _).mono ?_; rintro e w3 ⟨rfl, hb4⟩; have hb5 := hb3.trans (hb4.mono hb3.size); have bR3 := HR2.out.under hb5; have c0 := bR3.cell 0; have c1 := bR3.cell 1; have f0 := bR3.frozen 0; have f1 := bR3.frozen 1; dsimp at c0 c1; have hE := bR3.set2 (.int .i64 x) (.string ⟨y.toArray⟩); have hE2 := ((HB2.out.trans (hb5.mono HB2.out.size)).setCell (p := ⟨w.heap.size + 1, 0, none⟩) (by simp) (.int .i64 x)).setCell (p := ⟨w.heap.size + 1, 1, none⟩) (by simp) (.string ⟨y.toArray⟩); clear bR3))
    all_goals
      go_wp2
      exact ret_cont2 rfl rfl hE rfl ⟨by rw [← HV.out]; rfl, hE2⟩
  · have HV : Hid (flipV f d a b = .tuple #[.agg #[.int .i64 0, .string ⟨#[]⟩], .int .i64 60]) := Lib.hid (by unfold flipV; rw [if_neg (fun h => hok h.2)]; rfl)
    clear bC
    by_cases hm : (if (b : Int) < a then (b : Int) else a) < 0
    · obtain ⟨mn, hmn, hmin⟩ : ∃ m : Int, m < 0 ∧ ∀ (ts : Array TypeId) (t : TypeId) (W : World), (Builtin.min_ ts t #[.int .i64 (a : Int), .int .i64 (b : Int)]).run Try.prog W = .ok (.int .i64 m) W := ⟨if (b : Int) < a then (b : Int) else a, hm, fun ts t W => run_min_int2 ..⟩
      clear hm hok
      go_enter Try.func28, Try.ntmps28
      go_wp2
      exact ret_cont2 rfl rfl bR rfl ⟨by rw [HV.out]; rfl, hB0⟩
    · obtain ⟨mn, hmn, hmin⟩ : ∃ m : Int, ¬ m < 0 ∧ ∀ (ts : Array TypeId) (t : TypeId) (W : World), (Builtin.min_ ts t #[.int .i64 (a : Int), .int .i64 (b : Int)]).run Try.prog W = .ok (.int .i64 m) W := ⟨if (b : Int) < a then (b : Int) else a, hm, fun ts t W => run_min_int2 ..⟩
      obtain ⟨mx, hmx, hmax⟩ : ∃ m : Int, 256 < m ∧ ∀ (ts : Array TypeId) (t : TypeId) (W : World), (Builtin.max_ ts t #[.int .i64 (a : Int), .int .i64 (b : Int)]).run Try.prog W = .ok (.int .i64 m) W := ⟨if (b : Int) > a then (b : Int) else a, by split at hm <;> split <;> omega, fun ts t W => run_max_int2 ..⟩
      clear hm hok
      go_enter Try.func28, Try.ntmps28
      go_wp2
      exact ret_cont2 rfl rfl bR rfl ⟨by rw [HV.out]; rfl, hB0⟩
end Go.Proofs.Ytpjcndfamhehlaa
