/- The document's answer: Make. -/
import Derived.Test.YtpjcndfamhehlaaCRefR
import Derived.Test.YtpjcndfamhehlaaCHas
namespace Go.Proofs.Ytpjcndfamhehlaa
open Go.RowKit

/-- The state of Make's walk. -/
def MkSt (w : World) (s : Bs) (W : World) : Prop := Blk W w.heap.size 23 #[.int .i64 0, .string ⟨#[]⟩] ∧ Blk W (w.heap.size + 1) 51 (bcl s) ∧ Below w.heap.size w W
theorem MkSt.start (w : World) : MkSt w (fun _ => false) ((w.alloc (.cells #[.int .i64 0, .string ⟨#[]⟩] 23)).alloc (.cells (bcl fun _ => false) 51)) :=
  ⟨(Blk.new w _ _).alloc _, by simpa using Blk.new (w.alloc (.cells #[.int .i64 0, .string ⟨#[]⟩] 23)) 51 (bcl fun _ => false), ((Below.refl _ w).alloc (Nat.le_refl _) _).alloc (by simp) _⟩
theorem MkSt.put {w wr : World} {s t : Bs} (h : MkSt w s wr) (n : Nat) (b : Bool) (e : bcl (put1 s n b) = bcl t) : MkSt w t (wr.setCell ⟨w.heap.size + 1, n, none⟩ (.bool b)) := by
  refine ⟨h.1.far (by simp) _, ?_, h.2.2.setCell (by simp) _⟩
  have := h.2.1.set_ n (.bool b)
  rwa [bcl_set, e] at this
theorem MkSt.done {w wr : World} {s : Bs} (h : MkSt w s wr) (a b : Value) : Below w.heap.size w ((wr.setCell ⟨w.heap.size, 0, none⟩ a).setCell ⟨w.heap.size, 1, none⟩ b) :=
  (h.2.2.setCell (by simp) _).setCell (by simp) _
theorem good_all {zs : List Int} (h : ∀ j, j < zs.length → goodZ (zs[j]?.getD 0) = true) : AllGood zs := by
  intro z hz
  obtain ⟨j, hj, rfl⟩ := List.mem_iff_getElem.1 hz
  have := h j hj
  rwa [List.getElem?_eq_getElem hj] at this
theorem not_good {zs : List Int} {k : Nat} (hk : k < zs.length) (h : goodZ (zs[k]?.getD 0) = false) : ¬ AllGood zs := fun hg => by
  rw [List.getElem?_eq_getElem hk] at h
  have := hg _ (List.getElem_mem hk)
  rw [Option.getD_some, this] at h; cases h

set_option maxRecDepth 100000 in
set_option maxHeartbeats 2000000 in
theorem ref_make_any (x : Option Addr) (len cap : Nat) (zs : List Int) (hlen : zs.length = len) (hcm : len ≤ 9223372036854775807) (w : World) (hI : Ints w.heap.size w (.slice x len cap) zs) :
    Calls Try.prog 15 #[.slice x len cap] w fun e w' => e = .returned (makeV zs) ∧ Below w.heap.size w w' := by
  have hz := zero_b256
  have hsz := bcl_size fun _ => false
  have HS0 := Lib.hid (MkSt.start w)
  have HG := Lib.hid (@make_good zs)
  have HN := Lib.hid (@make_bad zs)
  have HI := Lib.hid hI
  clear hI
  go_enter Try.func15, Try.ntmps15
  go_wp2
  generalize ((w.alloc (.cells #[.int .i64 0, .string ⟨#[]⟩] 23)).alloc (.cells (bcl fun _ => false) 51)) = w1 at *
  go_loopw [5] (fun i wr => ∃ k : Nat, k ≤ len ∧ i = .int .i64 k ∧ (∀ j, j < k → goodZ (zs[j]?.getD 0) = true) ∧ MkSt w (ofL (zs.take k)) wr) (fun i _ => len - (intOf i).toNat)
  case atStart => exact ⟨0, Nat.zero_le _, rfl, fun j hj => by omega, HS0.out⟩
  case round =>
    obtain ⟨k, hk, rfl, hgd, hS⟩ := hrel
    by_cases hlt : k < len
    · have hlt' : (k : Int) < len := by omega
      obtain ⟨bb, o, rfl, hb1, hc1⟩ := HI.out.at_ hlt
      have hd1 : wr.cell? ⟨bb, o + k, none⟩ = some (.int .i64 (zs[k]?.getD 0)) := (hS.2.2.cell (p := ⟨bb, o + k, none⟩) hb1).trans hc1
      clear hc1 hb1
      by_cases hgz : goodZ (zs[k]?.getD 0) = true
      · obtain ⟨z, hz1, hz2⟩ : ∃ z : Nat, zs[k]?.getD 0 = z ∧ z < 256 := by
          unfold goodZ at hgz
          simp only [Bool.and_eq_true, decide_eq_true_eq] at hgz
          exact ⟨(zs[k]?.getD 0).toNat, by omega, by omega⟩
        have HP : Hid (MkSt w (ofL (zs.take (k + 1))) (wr.setCell ⟨w.heap.size + 1, z, none⟩ (.bool true))) := Lib.hid (hS.put z true (by
          have := ofL_take zs k (by omega) z hz1 (fun _ => false)
          rw [none_or, none_or] at this
          rw [this]))
        have HGD : Hid (∀ j, j < k + 1 → goodZ (zs[j]?.getD 0) = true) := Lib.hid (fun j hj => by
          by_cases e : j = k
          · subst e; exact hgz
          · exact hgd j (by omega))
        have c2 := hS.2.1.cell z
        rw [bcl_get hz2] at c2
        have c3 := hS.2.1.frozen z
        rw [hz1] at hd1
        clear hgz hz1 hgd hS
        go_wp2
        go_roundw
        case rel => exact ⟨k + 1, by omega, by simp, HGD.out, HP.out⟩
        case measure => simp [intOf]; omega
      · have hV := HN.out (not_good (by omega) (Bool.eq_false_iff.2 hgz))
        have hb : zs[k]?.getD 0 < 0 ∨ (¬ zs[k]?.getD 0 < 0 ∧ zs[k]?.getD 0 > 255) := by
          unfold goodZ at hgz
          simp only [Bool.and_eq_true, decide_eq_true_eq] at hgz
          omega
        generalize zs[k]?.getD 0 = z at *
        have c0 := hS.1.cell 0; have c1 := hS.1.cell 1
        have f0 := hS.1.frozen 0; have f1 := hS.1.frozen 1
        dsimp at c0 c1
        have hE := hS.1.set2 (.int .i64 0) (.string ⟨#[]⟩)
        have hD := hS.done (.int .i64 0) (.string ⟨#[]⟩)
        clear hgd hS hgz
        rcases hb with h1 | ⟨h1, h2⟩
        all_goals
          go_wp2
          exact ret_cont2 rfl rfl hE rfl ⟨by first | rfl | (rw [hV]; rfl), hD⟩
    · obtain rfl : k = len := by omega
      have hge : ¬ (k : Int) < k := by omega
      have hV := HG.out (good_all fun j hj => hgd j (by omega))
      rw [List.take_of_length_le (by omega)] at hS
      have HB := Lib.hid (fun W => ref_best_any (ofL zs) W)
      generalize ((bestF (ofL zs) : Nat) : Int) = q at *
      generalize bestD (ofL zs) = dq at *
      clear hgd
      go_wp2_with (refine wpList_ld_b rfl _ rfl _ rfl (ofL zs) ?_ ?_; exact hS.2.1)
      refine (HB.out _).mono ?_
      rintro e w2 ⟨rfl, hb2⟩
      have hS2 : MkSt w (ofL zs) w2 := ⟨hS.1.under hb2, hS.2.1.under hb2, hS.2.2.trans (hb2.mono hS.2.2.size)⟩
      have c0 := hS2.1.cell 0; have c1 := hS2.1.cell 1
      have f0 := hS2.1.frozen 0; have f1 := hS2.1.frozen 1
      dsimp at c0 c1
      have hE := hS2.1.set2 (.int .i64 q) (.string ⟨dq.toArray⟩)
      have hD := hS2.done (.int .i64 q) (.string ⟨dq.toArray⟩)
      clear hS hS2 hb2
      go_wp2
      exact ret_cont2 rfl rfl hE rfl ⟨by first | rfl | (rw [hV]; rfl), hD⟩
end Go.Proofs.Ytpjcndfamhehlaa
