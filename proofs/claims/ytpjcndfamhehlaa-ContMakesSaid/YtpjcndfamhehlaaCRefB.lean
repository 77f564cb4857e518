/- The document's answer: numbers in their best form. -/
import Derived.Test.YtpjcndfamhehlaaCRefS
import Derived.Test.YtpjcndfamhehlaaCRefF
import Derived.Test.YtpjcndfamhehlaaCLawM
namespace Go.Proofs.Ytpjcndfamhehlaa
open Go.RowKit

theorem wpList_ld_b {ops : Array Oper} {rest : List Oper} {op : Oper} {a : Act} {w : World} {Q : Exit → Act → World → Prop} (hgd : op.guard = none) (x : Operand) (ho : op.op = .load 51 x) (g : Nat) (hx : a.eval x = .pointer (some ⟨g, 0, none⟩)) (s : Bs)
    (hb : Blk w g 51 (bcl s)) (h : wpList Try.prog ops Q rest (a.put op.dst (.agg (bcl s))) w) : wpList Try.prog ops Q (op :: rest) a w :=
  wpList_plain hgd fun _ hK => wp_load_set x ho g hx s hb (hK _ _ h)
theorem setRow_top (w : World) (t : TypeId) (a b : Array Value) : (w.alloc (.cells a t)).setRow w.heap.size b = w.alloc (.cells b t) := setRow_new w t a b
theorem st_newb (w : World) (t : Bs) : (storeCells ⟨w.heap.size, 0, none⟩ (bcl t).toList).run Try.prog (w.alloc (.cells (bcl fun _ => false) 51)) = .ok () (w.alloc (.cells (bcl t) 51)) := by
  rw [store_cells (Blk.new w 51 (bcl fun _ => false)) t, setRow_top]

theorem form_any (s : Bs) (f : Int) (h1 : 1 ≤ f) (h3 : f ≤ 3) (w : World) :
    Calls Try.prog 38 #[.agg (bcl s), .int .i64 f] w fun e w' => e = .returned (.agg #[.int .i64 f, .string ⟨(formS s f.toNat).toArray⟩]) ∧ Below w.heap.size w w' := by
  have h : f = 1 ∨ f = 2 ∨ f = 3 := by omega
  rcases h with rfl | rfl | rfl
  · exact form_arr s w
  · exact form_bits s w
  · exact form_runs s w

set_option maxRecDepth 100000 in
set_option maxHeartbeats 2000000 in
theorem ref_best_any (s : Bs) (w : World) :
    Calls Try.prog 34 #[.agg (bcl s)] w fun e w' => e = .returned (.agg #[.int .i64 (bestF s : Nat), .string ⟨(bestD s).toArray⟩]) ∧ Below w.heap.size w w' := by
  have HF1 := Lib.hid (fun W => form_any s 1 (by decide) (by decide) W)
  have HF2 := Lib.hid (fun W => form_any s 2 (by decide) (by decide) W)
  have HF3 := Lib.hid (fun W => form_any s 3 (by decide) (by decide) W)
  rw [show (1 : Int).toNat = 1 from rfl] at HF1
  rw [show (2 : Int).toNat = 2 from rfl] at HF2
  rw [show (3 : Int).toNat = 3 from rfl] at HF3
  have HE1 : Hid ((formS s 1).length ≤ (formS s 3).length → (formS s 1).length ≤ 32 → ((bestF s : Nat) : Int) = 1 ∧ bestD s = formS s 1) := Lib.hid (fun h k => by
    have : bestF s = 1 := by unfold bestF; rw [if_pos ⟨h, k⟩]
    unfold bestD; rw [this]; exact ⟨rfl, rfl⟩)
  have HE3 : Hid (¬ ((formS s 1).length ≤ (formS s 3).length ∧ (formS s 1).length ≤ 32) → (formS s 3).length ≤ 32 → ((bestF s : Nat) : Int) = 3 ∧ bestD s = formS s 3) := Lib.hid (fun h k => by
    have : bestF s = 3 := by unfold bestF; rw [if_neg h, if_pos k]
    unfold bestD; rw [this]; exact ⟨rfl, rfl⟩)
  have HE2 : Hid (¬ ((formS s 1).length ≤ (formS s 3).length ∧ (formS s 1).length ≤ 32) → ¬ (formS s 3).length ≤ 32 → ((bestF s : Nat) : Int) = 2 ∧ bestD s = formS s 2) := Lib.hid (fun h k => by
    have : bestF s = 2 := by unfold bestF; rw [if_neg h, if_neg k]
    unfold bestD; rw [this]; exact ⟨rfl, rfl⟩)
  have hl1 := form_length s 1
  have hl3 := form_length s 3
  generalize formS s 1 = da at *
  generalize formS s 2 = db at *
  generalize formS s 3 = dr at *
  generalize ((bestF s : Nat) : Int) = q at *
  generalize bestD s = dq at *
  have hS0 := FormSt.start w s
  go_enter Try.func34, Try.ntmps34
  go_wp2_with (refine wpList_ld_b rfl _ rfl _ rfl s ?_ ?_; exact hS0.1)
  generalize ((w.alloc (.cells (bcl s) 51)).alloc (.cells #[.int .i64 0, .string ⟨#[]⟩] 23)) = w0 at *
  refine (HF1.out _).mono ?_
  rintro e w1 ⟨rfl, hb1⟩
  have hS1 := (hS0.under hS0.size hb1).under (by have := hS0.size; have := hb1.size; omega) ((Below.refl w1.heap.size w1).alloc (Nat.le_refl _) (.cells #[.int .i64 1, .string ⟨da.toArray⟩] 23))
  have a1 := Blk.new w1 23 #[.int .i64 1, .string ⟨da.toArray⟩]
  have hz1 : w.heap.size + 2 ≤ w1.heap.size := by have := hS0.size; have := hb1.size; omega
  clear hS0 hb1
  go_wp2_with (refine wpList_ld_b rfl _ rfl _ rfl s ?_ ?_; exact hS1.1)
  generalize hW1 : w1.alloc (.cells #[.int .i64 1, .string ⟨da.toArray⟩] 23) = v1 at *
  have hz1' : w.heap.size + 2 ≤ v1.heap.size := by rw [← hW1]; simp; omega
  generalize w1.heap.size = g1 at *
  clear hW1
  refine (HF2.out _).mono ?_
  rintro e w2 ⟨rfl, hb2⟩
  have hc2 := hb2.alloc hb2.size (.cells #[.int .i64 2, .string ⟨db.toArray⟩] 23)
  have hS2 := hS1.under hz1' hc2
  have a2 := a1.under hc2
  have b2 := Blk.new w2 23 #[.int .i64 2, .string ⟨db.toArray⟩]
  have hz2 : w.heap.size + 2 ≤ w2.heap.size := Nat.le_trans hz1' hb2.size
  clear hS1 a1 hb2 hc2
  go_wp2_with (refine wpList_ld_b rfl _ rfl _ rfl s ?_ ?_; exact hS2.1)
  generalize hW2 : w2.alloc (.cells #[.int .i64 2, .string ⟨db.toArray⟩] 23) = v2 at *
  have hz2' : w.heap.size + 2 ≤ v2.heap.size := by rw [← hW2]; simp; omega
  generalize w2.heap.size = g2 at *
  clear hW2
  refine (HF3.out _).mono ?_
  rintro e w3 ⟨rfl, hb3⟩
  have hc3 := hb3.alloc hb3.size (.cells #[.int .i64 3, .string ⟨dr.toArray⟩] 23)
  have hS3 := hS2.under hz2' hc3
  have a3 := a2.under hc3
  have b3 := b2.under hc3
  have r3 := Blk.new w3 23 #[.int .i64 3, .string ⟨dr.toArray⟩]
  clear hS2 a2 b2 hb3 hc3
  have a0 := a3.cell 0; have a1 := a3.cell 1
  have b0 := b3.cell 0; have b1 := b3.cell 1
  have r0 := r3.cell 0; have r1 := r3.cell 1
  have f0 := hS3.2.1.frozen 0; have f1 := hS3.2.1.frozen 1
  have c0 := hS3.2.1.cell 0; have c1 := hS3.2.1.cell 1
  dsimp at a0 a1 b0 b1 r0 r1 c0 c1
  have HS := Lib.hid hS3
  clear hS3 a3 b3 r3
  by_cases h1 : da.length ≤ dr.length
  · have h1' : (da.length : Int) ≤ dr.length := by omega
    by_cases h2 : da.length ≤ 32
    · have h2' : (da.length : Int) ≤ 32 := by omega
      obtain ⟨rfl, rfl⟩ := HE1.out h1 h2
      have hE := HS.out.2.1.set2 (.int .i64 1) (.string ⟨dq.toArray⟩)
      have hD := HS.out.done (f := 1) (v := ⟨dq.toArray⟩)
      go_wp2
      exact ret_cont rfl rfl hE rfl ⟨rfl, hD⟩
    · have h2' : ¬ (da.length : Int) ≤ 32 := by omega
      have hno : ¬ (da.length ≤ dr.length ∧ da.length ≤ 32) := fun h => h2 h.2
      have h4 : ¬ (dr.length : Int) ≤ 32 := by omega
      obtain ⟨rfl, rfl⟩ := HE2.out hno (by omega)
      have hE := HS.out.2.1.set2 (.int .i64 2) (.string ⟨dq.toArray⟩)
      have hD := HS.out.done (f := 2) (v := ⟨dq.toArray⟩)
      clear hno
      go_wp2
      exact ret_cont rfl rfl hE rfl ⟨rfl, hD⟩
  · have h1' : ¬ (da.length : Int) ≤ dr.length := by omega
    have hno : ¬ (da.length ≤ dr.length ∧ da.length ≤ 32) := fun h => h1 h.1
    by_cases h2 : dr.length ≤ 32
    · have h2' : (dr.length : Int) ≤ 32 := by omega
      obtain ⟨rfl, rfl⟩ := HE3.out hno h2
      have hE := HS.out.2.1.set2 (.int .i64 3) (.string ⟨dq.toArray⟩)
      have hD := HS.out.done (f := 3) (v := ⟨dq.toArray⟩)
      clear hno
      go_wp2
      exact ret_cont rfl rfl hE rfl ⟨rfl, hD⟩
    · have h2' : ¬ (dr.length : Int) ≤ 32 := by omega
      obtain ⟨rfl, rfl⟩ := HE2.out hno h2
      have hE := HS.out.2.1.set2 (.int .i64 2) (.string ⟨dq.toArray⟩)
      have hD := HS.out.done (f := 2) (v := ⟨dq.toArray⟩)
      clear hno
      go_wp2
      exact ret_cont rfl rfl hE rfl ⟨rfl, hD⟩
end Go.Proofs.Ytpjcndfamhehlaa
