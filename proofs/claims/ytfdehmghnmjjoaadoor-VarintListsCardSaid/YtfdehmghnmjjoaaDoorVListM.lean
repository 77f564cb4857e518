/- Lists and their bytes: plain mathematics over varints. -/
import Derived.Test.YtfdehmghnmjjoaaDoorVPack
namespace Go.Proofs.YtfdehmghnmjjoaaDoor
open Go.RowKit

/-- What k numbers at the head of s come to, behind p: the code, the numbers, what is left. -/
def rd : Nat → Int → List UInt8 → Int × List Int × List UInt8
  | 0, _, s => (0, [], s)
  | k + 1, p, s => if vcode s = 0 then ((rd k (wrap64 (p + backOf (vnum s))) (s.drop (vsize s))).1, wrap64 (p + backOf (vnum s)) :: (rd k (wrap64 (p + backOf (vnum s))) (s.drop (vsize s))).2.1, (rd k (wrap64 (p + backOf (vnum s))) (s.drop (vsize s))).2.2)
    else (vcode s, [], s)
/-- A list's code, its numbers, what is behind. -/
def ucode (s : List UInt8) : Int := if vcode s = 0 then (if vnum s ≤ 1000 then (rd (vnum s) 0 (s.drop (vsize s))).1 else 20) else vcode s
def unums (s : List UInt8) : List Int := (rd (vnum s) 0 (s.drop (vsize s))).2.1
def urest (s : List UInt8) : List UInt8 := (rd (vnum s) 0 (s.drop (vsize s))).2.2

theorem rd_ok {k : Nat} {p : Int} {s : List UInt8} (h : vcode s = 0) : rd (k + 1) p s = ((rd k (wrap64 (p + backOf (vnum s))) (s.drop (vsize s))).1, wrap64 (p + backOf (vnum s)) :: (rd k (wrap64 (p + backOf (vnum s))) (s.drop (vsize s))).2.1, (rd k (wrap64 (p + backOf (vnum s))) (s.drop (vsize s))).2.2) := by
  show (if vcode s = 0 then _ else _) = _
  rw [if_pos h]
theorem rd_err {k : Nat} {p : Int} {s : List UInt8} (h : vcode s ≠ 0) : rd (k + 1) p s = (vcode s, [], s) := by
  show (if vcode s = 0 then _ else _) = _
  rw [if_neg h]

theorem step_there {p z : Int} (h1 : -9223372036854775808 ≤ z) (h2 : z ≤ 9223372036854775807) : wrap64 (p + wrap64 (z - p)) = z := by unfold wrap64; omega
theorem step_back {p b : Int} (h1 : -9223372036854775808 ≤ b) (h2 : b ≤ 9223372036854775807) : wrap64 (wrap64 (p + b) - p) = b := by unfold wrap64; omega
theorem turned_nat (x : Int) (h1 : -9223372036854775808 ≤ x) (h2 : x ≤ 9223372036854775807) : (((turnOf x).toNat : Nat) : Int) = turnOf x ∧ (turnOf x).toNat < 18446744073709551616 := by
  have := turn_lo h1 h2
  omega
theorem vputs_cons (n : Nat) (ns : List Nat) : vputs (n :: ns) = vput n ++ vputs ns := by simp [vputs]

theorem rd_put : ∀ (zs : List Int) (p : Int) (t : List UInt8), (∀ z ∈ zs, -9223372036854775808 ≤ z ∧ z ≤ 9223372036854775807) → rd zs.length p (vputs (deltas p zs) ++ t) = (0, zs, t)
  | [], p, t, _ => by simp [rd, deltas, vputs]
  | z :: zs, p, t, h => by
    have hz := h z (List.mem_cons_self ..)
    have hw := wrap64_lo (z - p)
    obtain ⟨t1, t2⟩ := turned_nat _ hw.1 hw.2
    have e : vputs (deltas p (z :: zs)) ++ t = vput (turnOf (wrap64 (z - p))).toNat ++ (vputs (deltas z zs) ++ t) := by
      show vputs (_ :: deltas z zs) ++ t = _
      rw [vputs_cons, List.append_assoc]
    obtain ⟨g1, g2, g3⟩ := put_get t2 (vputs (deltas z zs) ++ t)
    rw [e]
    show rd (zs.length + 1) p _ = _
    rw [rd_ok g1, g2, g3, List.drop_left' rfl, t1, back_turn, step_there hz.1 hz.2, rd_put zs z t (fun y hy => h y (List.mem_cons_of_mem _ hy))]

theorem put_rd : ∀ (k : Nat) (p : Int) (s : List UInt8), (rd k p s).1 = 0 → (rd k p s).2.1.length = k ∧ (∀ z ∈ (rd k p s).2.1, -9223372036854775808 ≤ z ∧ z ≤ 9223372036854775807) ∧ vputs (deltas p (rd k p s).2.1) ++ (rd k p s).2.2 = s
  | 0, p, s, _ => ⟨rfl, (fun z hz => by cases hz), by simp [rd, deltas, vputs]⟩
  | k + 1, p, s, h => by
    by_cases hc : vcode s = 0
    · rw [rd_ok hc] at h ⊢
      obtain ⟨i1, i2, i3⟩ := put_rd k _ _ h
      have hn := vnum_lt s
      have hb := back_lo (n := (vnum s : Int)) (by omega) (by omega)
      refine ⟨by simp [i1], fun z hz => ?_, ?_⟩
      · rcases List.mem_cons.1 hz with rfl | hz
        · exact wrap64_lo _
        · exact i2 z hz
      · show vputs ((turnOf (wrap64 (wrap64 (p + backOf (vnum s)) - p))).toNat :: deltas _ _) ++ _ = s
        rw [vputs_cons, step_back hb.1 hb.2, turn_back (by omega), List.append_assoc, i3, Int.toNat_natCast, get_put hc]
    · rw [rd_err hc] at h
      exact absurd h hc

theorem rd_more : ∀ (zs : List Int) (p : Int) (k : Nat), (∀ z ∈ zs, -9223372036854775808 ≤ z ∧ z ≤ 9223372036854775807) → k < (vputs (deltas p zs)).length → (rd zs.length p ((vputs (deltas p zs)).take k)).1 = 21
  | [], p, k, _, h => by simp [deltas, vputs] at h
  | z :: zs, p, k, hi, h => by
    have hz := hi z (List.mem_cons_self ..)
    have hw := wrap64_lo (z - p)
    obtain ⟨t1, t2⟩ := turned_nat _ hw.1 hw.2
    have e : vputs (deltas p (z :: zs)) = vput (turnOf (wrap64 (z - p))).toNat ++ vputs (deltas z zs) := vputs_cons _ _
    rw [e] at h ⊢
    show (rd (zs.length + 1) p _).1 = 21
    by_cases hk : k < (vput (turnOf (wrap64 (z - p))).toNat).length
    · have hm := put_more t2 hk
      rw [List.take_append_of_le_length (by omega)]
      rw [rd_err (by rw [hm]; decide)]
      exact hm
    · rw [List.take_append, List.take_of_length_le (by omega)]
      obtain ⟨g1, g2, g3⟩ := put_get t2 ((vputs (deltas z zs)).take (k - (vput (turnOf (wrap64 (z - p))).toNat).length))
      rw [rd_ok g1, g2, g3, List.drop_left' rfl, t1, back_turn, step_there hz.1 hz.2]
      rw [List.length_append] at h
      exact rd_more zs z _ (fun y hy => hi y (List.mem_cons_of_mem _ hy)) (by omega)

/-- What is packed is read again, whatever stands behind. -/
theorem pack_unpack {zs : List Int} (hl : zs.length ≤ 1000) (h : ∀ z ∈ zs, -9223372036854775808 ≤ z ∧ z ≤ 9223372036854775807) (t : List UInt8) : ucode (packB zs ++ t) = 0 ∧ unums (packB zs ++ t) = zs ∧ urest (packB zs ++ t) = t := by
  obtain ⟨g1, g2, g3⟩ := put_get (n := zs.length) (by omega) (vputs (deltas 0 zs) ++ t)
  have e : packB zs ++ t = vput zs.length ++ (vputs (deltas 0 zs) ++ t) := by unfold packB; rw [vputs_cons, List.append_assoc]
  have hr := rd_put zs 0 t h
  unfold ucode unums urest
  rw [e, g1, g2, g3, List.drop_left' rfl, hr, if_pos rfl, if_pos hl]
  exact ⟨rfl, rfl, rfl⟩
/-- What is read was packed so. -/
theorem unpack_pack {s : List UInt8} (h : ucode s = 0) : (unums s).length ≤ 1000 ∧ (∀ z ∈ unums s, -9223372036854775808 ≤ z ∧ z ≤ 9223372036854775807) ∧ packB (unums s) ++ urest s = s := by
  unfold ucode at h
  split at h
  · rename_i hc
    split at h
    · rename_i hn
      obtain ⟨h1, h2, h3⟩ := put_rd _ _ _ h
      unfold unums urest packB
      refine ⟨by rw [h1]; exact hn, h2, ?_⟩
      rw [vputs_cons, h1, List.append_assoc, h3, get_put hc]
    · cases h
  · rename_i hc
    exact absurd h hc
/-- Fewer bytes ask for more. -/
theorem pack_more {zs : List Int} (hl : zs.length ≤ 1000) (h : ∀ z ∈ zs, -9223372036854775808 ≤ z ∧ z ≤ 9223372036854775807) {k : Nat} (hk : k < (packB zs).length) : ucode ((packB zs).take k) = 21 := by
  have hn : zs.length < 18446744073709551616 := by omega
  have e : packB zs = vput zs.length ++ vputs (deltas 0 zs) := vputs_cons _ _
  rw [e] at hk ⊢
  by_cases hk1 : k < (vput zs.length).length
  · have hm := put_more hn hk1
    rw [List.take_append_of_le_length (by omega)]
    unfold ucode
    rw [hm, if_neg (by decide)]
  · rw [List.take_append, List.take_of_length_le (by omega)]
    obtain ⟨g1, g2, g3⟩ := put_get hn ((vputs (deltas 0 zs)).take (k - (vput zs.length).length))
    unfold ucode
    rw [g1, g2, g3, if_pos rfl, if_pos hl, List.drop_left' rfl]
    rw [List.length_append] at hk
    exact rd_more zs 0 _ h (by omega)

theorem rd_cases (k : Nat) (p : Int) (s : List UInt8) : (rd k p s).1 = 0 ∨ (rd k p s).1 = 20 ∨ (rd k p s).1 = 21 := by
  induction k generalizing p s with
  | zero => exact .inl rfl
  | succ k ih =>
    by_cases hc : vcode s = 0
    · rw [rd_ok hc]; exact ih _ _
    · rw [rd_err hc]; exact vcode_cases s
theorem ucode_cases (s : List UInt8) : ucode s = 0 ∨ ucode s = 20 ∨ ucode s = 21 := by
  unfold ucode
  split
  · split
    · exact rd_cases _ _ _
    · exact .inr (.inl rfl)
  · exact vcode_cases s
theorem rd_short (k : Nat) (p : Int) (s : List UInt8) : (rd k p s).2.2.length ≤ s.length := by
  induction k generalizing p s with
  | zero => exact Nat.le_refl _
  | succ k ih =>
    by_cases hc : vcode s = 0
    · rw [rd_ok hc]
      have := ih (wrap64 (p + backOf (vnum s))) (s.drop (vsize s))
      simp at this ⊢
      omega
    · rw [rd_err hc]; exact Nat.le_refl _
/-- As 'In64' says it. -/
theorem in64_mem {zs : List Int} (h : In64 zs) : ∀ z ∈ zs, -9223372036854775808 ≤ z ∧ z ≤ 9223372036854775807 := fun z hz => by
  obtain ⟨i, hi, rfl⟩ := List.getElem_of_mem hz
  have := h i
  rwa [List.getElem?_eq_getElem hi] at this
theorem mem_in64 {zs : List Int} (h : ∀ z ∈ zs, -9223372036854775808 ≤ z ∧ z ≤ 9223372036854775807) : In64 zs := fun j => by
  cases e : zs[j]? with
  | none => decide
  | some z => exact h z (List.mem_of_getElem? e)
theorem packB_length {zs : List Int} (hl : zs.length ≤ 1000) : (packB zs).length ≤ 10010 := by
  have := vputs_length (zs.length :: deltas 0 zs) (fun n hn => by
    rcases List.mem_cons.1 hn with rfl | hn
    · omega
    · exact deltas_lt _ _ n hn)
  unfold packB
  simp [deltas_length] at this
  omega
end Go.Proofs.YtfdehmghnmjjoaaDoor
