/- frame.putNumber, framed, Make, Join. -/
import Derived.Test.YtkjiinhcmhoejaaDoorFBuild
import Derived.Deep.RegionWith
namespace Go.Proofs.YtkjiinhcmhoejaaDoor
open Go.RowKit

theorem be4_take1 (n : Nat) : (be4 n).take 1 = [UInt8.ofNat (n / 16777216 % 256)] := rfl
theorem byteCells_snoc (l : List UInt8) (x : UInt8) : Lib.byteCells l ++ [Value.int .u8 (x.toNat : Int)] = Lib.byteCells (l ++ [x]) := by
  rw [Lib.byteCells_append]; rfl
/-- The bytes of a number, one by one. -/
theorem be4_at (n k : Nat) (hk : k < 4) : ∃ x : UInt8, (be4 n).take (k + 1) = (be4 n).take k ++ [x] ∧ (x.toNat : Int) = (n : Int) / 256 ^ (3 - k) % 256 := by
  match k, hk with
  | 0, _ => exact ⟨_, rfl, by rw [ofNat_toNat _ (by omega)]; simp⟩
  | 1, _ => exact ⟨_, rfl, by rw [ofNat_toNat _ (by omega)]; simp⟩
  | 2, _ => exact ⟨_, rfl, by rw [ofNat_toNat _ (by omega)]; simp⟩
  | 3, _ => exact ⟨_, rfl, by rw [ofNat_toNat _ (by omega)]; simp⟩

set_option maxHeartbeats 2000000 in
set_option maxRecDepth 100000 in
theorem putnum_any (B b : Nat) (l : List UInt8) (n : Nat) (hn : n < 4294967296) (w : World) (h : IsB B b (Lib.byteCells l) w) (hlen : l.length + 4 ≤ 140737488355328) (hBw : B ≤ w.heap.size) :
    Calls Tryd.prog 29 #[.pointer (some ⟨b, 0, none⟩), .int .u32 n] w fun e w' => e = .returned (.tuple #[]) ∧ IsB B b (Lib.byteCells (l ++ be4 n)) w' ∧ Below B w w' := by
  go_enter Tryd.func29, Tryd.ntmps29
  go_wp2
  go_loopw [4] (fun i wr => ∃ k : Nat, k ≤ 4 ∧ i = .int .i64 (3 - k) ∧ Hid (IsB B b (Lib.byteCells (l ++ (be4 n).take k)) wr) ∧ Below B w wr)
    (fun i _ => ((intOf i) + 1).toNat)
  case atStart => exact ⟨0, Nat.zero_le _, rfl, Lib.hid (by simpa using h), Below.refl _ _⟩
  case round =>
    obtain ⟨k, hk, rfl, hI, hB⟩ := hrel
    by_cases hk4 : k < 4
    · obtain ⟨x, hx, he⟩ := be4_at n k hk4
      have HX := Lib.hid hx
      have HW : Hid (Calls Tryd.prog 35 #[.pointer (some ⟨b, 0, none⟩), .int .u8 (x.toNat : Int)] wr fun e w' => e = .returned .nilIface ∧ IsB B b (Lib.byteCells (l ++ (be4 n).take k) ++ [.int .u8 (x.toNat : Int)]) w' ∧ Below B wr w') :=
        Lib.hid (wbyte_any B b _ (x.toNat : Int) wr hI.out (by rw [Lib.byteCells_length]; simp [be4_length]; omega) (Nat.le_trans hBw hB.size))
      rw [byteCells_snoc, List.append_assoc, ← hx] at HW
      clear hx hI
      match k, hk4 with
      | 0, _ =>
        have he0 : (n : Int) / 16777216 = (x.toNat : Int) := by simp at he; omega
        clear he
        go_wp2_with fail
        refine HW.out.mono ?_
        rintro e w1 ⟨rfl, h1, hb1⟩
        go_wp2
        go_roundw
        case rel => exact ⟨1, by omega, by simp, Lib.hid h1, hB.trans hb1⟩
        case measure => simp [intOf]
      | 1, _ =>
        have he0 : (n : Int) / 65536 % 256 = (x.toNat : Int) := by simp at he; omega
        clear he
        go_wp2_with fail
        refine HW.out.mono ?_
        rintro e w1 ⟨rfl, h1, hb1⟩
        go_wp2
        go_roundw
        case rel => exact ⟨2, by omega, by simp, Lib.hid h1, hB.trans hb1⟩
        case measure => simp [intOf]
      | 2, _ =>
        have he0 : (n : Int) / 256 % 256 = (x.toNat : Int) := by simp at he; omega
        clear he
        go_wp2_with fail
        refine HW.out.mono ?_
        rintro e w1 ⟨rfl, h1, hb1⟩
        go_wp2
        go_roundw
        case rel => exact ⟨3, by omega, by simp, Lib.hid h1, hB.trans hb1⟩
        case measure => simp [intOf]
      | 3, _ =>
        have he0 : (n : Int) % 256 = (x.toNat : Int) := by simp at he; omega
        clear he
        go_wp2_with fail
        refine HW.out.mono ?_
        rintro e w1 ⟨rfl, h1, hb1⟩
        go_wp2
        go_roundw
        case rel => exact ⟨4, by omega, by simp, Lib.hid h1, hB.trans hb1⟩
        case measure => simp [intOf]
    · obtain rfl : k = 4 := by omega
      go_wp2
      go_end0
      have h4 := hI.out
      rw [show (be4 n).take 4 = be4 n from rfl] at h4
      exact ⟨rfl, h4, hB⟩

/-- Texts in a slice, below n₀. -/
def Strs (n₀ : Nat) (W : World) (v : Value) (ls : List (List UInt8)) : Prop := ((∃ x cap, v = .slice x 0 cap) ∧ ls = []) ∨
  ∃ b off cap, v = .slice (some ⟨b, off, none⟩) ls.length cap ∧ b < n₀ ∧ ∀ j, j < ls.length → W.cell? ⟨b, off + j, none⟩ = some (.string ⟨(ls[j]?.getD []).toArray⟩)
theorem Strs.below {n₀ : Nat} {W W' : World} {v : Value} {ls : List (List UInt8)} (h : Strs n₀ W v ls) (hb : Below n₀ W W') : Strs n₀ W' v ls := by
  rcases h with h | ⟨b, off, cap, e, hl, hc⟩
  · exact .inl h
  · exact .inr ⟨b, off, cap, e, hl, fun j hj => (hb.cell (p := ⟨b, off + j, none⟩) hl).trans (hc j hj)⟩
theorem Strs.mono {n₀ n₁ : Nat} {W : World} {v : Value} {ls : List (List UInt8)} (h : Strs n₀ W v ls) (hn : n₀ ≤ n₁) : Strs n₁ W v ls := by
  rcases h with h | ⟨b, off, cap, e, hl, hc⟩
  · exact .inl h
  · exact .inr ⟨b, off, cap, e, Nat.lt_of_lt_of_le hl hn, hc⟩
/-- The cell of text j, where there is one. -/
theorem Strs.at_ {n₀ : Nat} {W : World} {x : Option Addr} {len cap : Nat} {ls : List (List UInt8)} (h : Strs n₀ W (.slice x len cap) ls) {j : Nat} (hj : j < len) : ∃ b off, x = some ⟨b, off, none⟩ ∧ b < n₀ ∧ W.cell? ⟨b, off + j, none⟩ = some (.string ⟨(ls[j]?.getD []).toArray⟩) := by
  rcases h with ⟨⟨x', cap', e⟩, _⟩ | ⟨b, off, cap', e, hb, hc⟩
  · cases e; omega
  · cases e
    exact ⟨b, off, rfl, hb, hc j hj⟩

/-- The frames of texts, one behind the other. -/
def joinB (ls : List (List UInt8)) : List UInt8 := ls.flatMap frameB
theorem joinB_snoc (ls : List (List UInt8)) (l : List UInt8) : joinB (ls ++ [l]) = joinB ls ++ frameB l := by simp [joinB]
theorem joinB_length {ls : List (List UInt8)} {m : Nat} (h : ∀ l ∈ ls, l.length ≤ m) : (joinB ls).length ≤ (m + 8) * ls.length := by
  induction ls with
  | nil => simp [joinB]
  | cons l ls ih =>
    have h1 := h l (List.mem_cons_self ..)
    have h2 := ih (fun x hx => h x (List.mem_cons_of_mem _ hx))
    simp only [joinB, List.flatMap_cons, List.length_append, List.length_cons, frameB_length] at h2 ⊢
    rw [Nat.mul_succ]
    omega
theorem take_snoc {ls : List (List UInt8)} {k : Nat} (h : k < ls.length) : ls.take (k + 1) = ls.take k ++ [ls[k]?.getD []] := by
  rw [List.take_succ_eq_append_getElem h, List.getElem?_eq_getElem h]; rfl

set_option maxHeartbeats 2000000 in
set_option maxRecDepth 100000 in
theorem framed_ok (x : Option Addr) (len cap : Nat) (ls : List (List UInt8)) (hlen : ls.length = len) (hs : ∀ j : Nat, (ls[j]?.getD []).length ≤ 60000) (hl : len ≤ 100000) (w : World) (hI : Strs w.heap.size w (.slice x len cap) ls) (hT : Tab w) :
    Calls Tryd.prog 24 #[.slice x len cap] w fun e w' => e = .returned (.tuple #[.string ⟨(joinB ls).toArray⟩, .int .i64 0]) ∧ Below w.heap.size w w' := by
  have HL := Lib.hid hlen
  have HS := Lib.hid hs
  have HT := Lib.hid hT
  have HI := Lib.hid hI
  clear hlen hs hT hI
  have h0 : Hid (IsB w.heap.size w.heap.size (Lib.byteCells []) (w.alloc (.cells #[.pointer none, .slice none 0 0] 59))) := Lib.hid (Lib.fresh_isBuilder 59 5 w)
  have b0 : Below w.heap.size w (w.alloc (.cells #[.pointer none, .slice none 0 0] 59)) := (Below.refl _ w).alloc (Nat.le_refl _) _
  go_enter Tryd.func24, Tryd.ntmps24
  go_wp2
  refine wp_scope_over 0 rfl ?_
  go_wp2
  go_loopw [9] (fun i wr => ∃ k : Nat, k ≤ len ∧ i = .int .i64 k ∧ Hid (IsB w.heap.size w.heap.size (Lib.byteCells (joinB (ls.take k))) wr) ∧ Hid ((joinB (ls.take k)).length ≤ 60008 * k) ∧ Below w.heap.size w wr)
    (fun i _ => len - (intOf i).toNat)
  case atStart => exact ⟨0, Nat.zero_le _, rfl, h0, Lib.hid (by simp [joinB]), b0⟩
  case round =>
    obtain ⟨k, hk, rfl, HB, HJ, hB⟩ := hrel
    by_cases hlt : k < len
    · obtain ⟨b, off, rfl, hb, hcell⟩ := HI.out.at_ hlt
      have hc1 := (hB.cell (p := ⟨b, off + k, none⟩) hb).trans hcell
      have HN : Hid (joinB (ls.take (k + 1)) = joinB (ls.take k) ++ frameB (ls[k]?.getD [])) := Lib.hid (by rw [take_snoc (by rw [HL.out]; exact hlt), joinB_snoc])
      have ht := HS.out k
      clear hcell
      generalize ls[k]?.getD [] = t at *
      generalize joinB (ls.take k) = p at *
      have hlt' : (k : Int) < len := by omega
      have ht' : (t.length : Int) ≤ 60000 := by omega
      have hpl : p.length ≤ 60008 * 100000 := Nat.le_trans HJ.out (Nat.mul_le_mul_left _ (by omega))
      have HF : Hid (frameB t = be4 t.length ++ be4 (crc t) ++ t) := Lib.hid rfl
      have HC := Lib.hid (crc_lt t)
      have H1 := Lib.hid (putnum_any w.heap.size w.heap.size p t.length (by omega) wr HB.out (by omega) hB.size)
      have HSum := Lib.hid (sum_any t (by omega))
      go_wp2_with fail
      refine H1.out.mono ?_
      rintro e w1 ⟨rfl, h1, hb1⟩
      have hB1 := hB.trans hb1
      go_wp2_with fail
      refine (HSum.out _ (HT.out.below hB1)).mono ?_
      rintro e w' ⟨rfl, rfl⟩
      have H2 := Lib.hid (putnum_any w.heap.size w.heap.size (p ++ be4 t.length) (crc t) HC.out w1 h1 (by simp [be4_length]; omega) hB1.size)
      generalize crc t = c at *
      go_wp2_with fail
      refine H2.out.mono ?_
      rintro e w2 ⟨rfl, h2, hb2⟩
      have hB2 := hB1.trans hb2
      have H3 := Lib.hid (wstr_any w.heap.size w.heap.size _ t w2 h2 (by rw [Lib.byteCells_length]; simp [be4_length]; omega) hB2.size)
      go_wp2_with fail
      refine H3.out.mono ?_
      rintro e w3 ⟨rfl, h3, hb3⟩
      have hB3 := hB2.trans hb3
      go_wp2
      go_roundw
      case rel =>
        refine ⟨k + 1, by omega, by simp, Lib.hid ?_, Lib.hid ?_, hB3⟩
        · rw [HN.out, HF.out]
          rw [← Lib.byteCells_append] at h3
          simpa only [List.append_assoc] using h3
        · rw [HN.out, List.length_append, frameB_length]
          have := HJ.out
          omega
      case measure => simp [intOf]; omega
    · obtain rfl : k = len := by omega
      have hl' := HL.out
      rw [← hl', List.take_length] at HB
      have HS3 := Lib.hid (bstring_any w.heap.size w.heap.size (joinB ls) wr HB.out hB.size)
      go_wp2_with fail
      refine HS3.out.mono ?_
      rintro e w3 ⟨rfl, hb3⟩
      go_wp2
      rw [Exit.jump_ret]
      go_ret2
      exact ⟨rfl, hB.trans hb3⟩

set_option maxHeartbeats 2000000 in
set_option maxRecDepth 100000 in
theorem framed_bad (b cap : Nat) (t : List UInt8) (ht : 60000 < t.length) (hl : t.length ≤ 1000000) (w : World) (hb : b < w.heap.size) (hc : w.cell? ⟨b, 0, none⟩ = some (.string ⟨t.toArray⟩)) :
    Calls Tryd.prog 24 #[.slice (some ⟨b, 0, none⟩) 1 cap] w fun e w' => e = .returned (.tuple #[.string ⟨#[]⟩, .int .i64 30]) ∧ Below w.heap.size w w' := by
  have b0 : Below w.heap.size w (w.alloc (.cells #[.pointer none, .slice none 0 0] 59)) := (Below.refl _ w).alloc (Nat.le_refl _) _
  have ht' : (60000 : Int) < t.length := by omega
  go_enter Tryd.func24, Tryd.ntmps24
  go_wp2
  refine wp_scope_over 0 rfl ?_
  go_wp2
  go_loopw [9] (fun i wr => i = .int .i64 0 ∧ Below w.heap.size w wr) (fun _ _ => 0)
  case atStart => exact ⟨rfl, b0⟩
  case round =>
    obtain ⟨rfl, hB⟩ := hrel
    have hc1 : wr.cell? ⟨b, 0, none⟩ = some (.string ⟨t.toArray⟩) := (hB.cell (p := ⟨b, 0, none⟩) hb).trans hc
    go_wp2
    go_step3
    refine ⟨rfl, ?_⟩
    go_wp2
    rw [Exit.jump_ret]
    go_ret2
    exact ⟨rfl, hB⟩

set_option maxHeartbeats 1000000 in
set_option maxRecDepth 100000 in
theorem make_any (l : List UInt8) (hl : l.length ≤ 60000) (w : World) (hT : Tab w) :
    Calls Tryd.prog 12 #[.string ⟨l.toArray⟩] w fun e w' => e = .returned (.tuple #[.string ⟨(frameB l).toArray⟩, .int .i64 0]) ∧ Below w.heap.size w w' := by
  have hb0 : Below w.heap.size w (w.alloc (.cells #[.string ⟨l.toArray⟩] 9)) := (Below.refl _ w).alloc (Nat.le_refl _) _
  have H := Lib.hid (framed_ok (some ⟨w.heap.size, 0, none⟩) 1 1 [l] rfl (fun j => by
    match j with
    | 0 => simpa using hl
    | j + 1 => simp) (by decide) (w.alloc (.cells #[.string ⟨l.toArray⟩] 9)) (.inr ⟨w.heap.size, 0, 1, rfl, by simp, fun j hj => by
      obtain rfl : j = 0 := by simpa using hj
      simp⟩) (hT.below hb0))
  rw [show joinB [l] = frameB l by simp [joinB]] at H
  go_enter Tryd.func12, Tryd.ntmps12
  go_wp2_with fail
  refine H.out.mono ?_
  rintro e w1 ⟨rfl, hb1⟩
  go_wp2
  go_ret2
  exact ⟨rfl, hb0.trans (hb1.mono (by simp))⟩

set_option maxHeartbeats 1000000 in
set_option maxRecDepth 100000 in
theorem make_bad (l : List UInt8) (hl : 60000 < l.length) (hl2 : l.length ≤ 1000000) (w : World) :
    Calls Tryd.prog 12 #[.string ⟨l.toArray⟩] w fun e w' => e = .returned (.tuple #[.string ⟨#[]⟩, .int .i64 30]) ∧ Below w.heap.size w w' := by
  have hb0 : Below w.heap.size w (w.alloc (.cells #[.string ⟨l.toArray⟩] 9)) := (Below.refl _ w).alloc (Nat.le_refl _) _
  have H := Lib.hid (framed_bad w.heap.size 1 l hl hl2 (w.alloc (.cells #[.string ⟨l.toArray⟩] 9)) (by simp) (by simp))
  go_enter Tryd.func12, Tryd.ntmps12
  go_wp2_with fail
  refine H.out.mono ?_
  rintro e w1 ⟨rfl, hb1⟩
  go_wp2
  go_ret2
  exact ⟨rfl, hb0.trans (hb1.mono (by simp))⟩

set_option maxHeartbeats 1000000 in
set_option maxRecDepth 100000 in
theorem join_any (x : Option Addr) (len cap : Nat) (ls : List (List UInt8)) (hlen : ls.length = len) (hs : ∀ j : Nat, (ls[j]?.getD []).length ≤ 60000) (hl : len ≤ 100000) (w : World) (hI : Strs w.heap.size w (.slice x len cap) ls) (hT : Tab w) :
    Calls Tryd.prog 18 #[.slice x len cap] w fun e w' => e = .returned (.tuple #[.string ⟨(joinB ls).toArray⟩, .int .i64 0]) ∧ Below w.heap.size w w' := by
  have H := Lib.hid (framed_ok x len cap ls hlen hs hl w hI hT)
  clear hlen hs hI
  go_enter Tryd.func18, Tryd.ntmps18
  go_wp2_with fail
  refine H.out.mono ?_
  rintro e w1 ⟨rfl, hb1⟩
  go_wp2
  go_ret2
  exact ⟨rfl, hb1⟩
end Go.Proofs.YtkjiinhcmhoejaaDoor
