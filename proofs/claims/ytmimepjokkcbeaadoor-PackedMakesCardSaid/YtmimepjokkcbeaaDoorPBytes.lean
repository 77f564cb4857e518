/- packed.inBytes: the digits of numbers, eight by eight. -/
import Derived.Test.YtmimepjokkcbeaaDoorPWidth
import Derived.Test.YtmimepjokkcbeaaDoorVPut
import Derived.OwnWalk
import Derived.Laws.OwnMore
namespace Go.Proofs.YtmimepjokkcbeaaDoor
open Go.RowKit

/-- The digits ahead of place m. -/
def part (f : Nat → Nat) (m p : Nat) : Nat := if p < m then f p else 0
theorem part_lt {f : Nat → Nat} (hf : ∀ p, f p < 2) (m p : Nat) : part f m p < 2 := by unfold part; split; exact hf p; decide
/-- Byte k of them. -/
def byteP (f : Nat → Nat) (m k : Nat) : Nat := val (part f m) (8 * k) 8
theorem byteP_lt {f : Nat → Nat} (hf : ∀ p, f p < 2) (m k : Nat) : byteP f m k < 256 := val_lt (part_lt hf m) (8 * k) 8
theorem byteP_zero (f : Nat → Nat) (k : Nat) : byteP f 0 k = 0 := val_zero fun j _ => by unfold part; rw [if_neg (by omega)]
theorem byteP_other {f : Nat → Nat} {m k : Nat} (h : k ≠ m / 8) : byteP f (m + 1) k = byteP f m k := val_congr fun j hj => by
  unfold part
  by_cases h1 : 8 * k + j < m
  · rw [if_pos h1, if_pos (by omega)]
  · rw [if_neg h1, if_neg (by omega)]
theorem byteP_same {f : Nat → Nat} {m : Nat} : byteP f (m + 1) (m / 8) = byteP f m (m / 8) + f m * 2 ^ (7 - m % 8) ∧ byteP f m (m / 8) % 2 ^ (8 - m % 8) = 0 := by
  have hm : 8 * (m / 8) + m % 8 = m := by omega
  have h8 : m % 8 + (8 - m % 8) = 8 := by omega
  have h7 : (8 - m % 8) = 1 + (7 - m % 8) := by omega
  have e0 : byteP f m (m / 8) = val (part f m) (8 * (m / 8)) (m % 8) * 2 ^ (8 - m % 8) := by
    have e := val_split (part f m) (8 * (m / 8)) (m % 8) (8 - m % 8)
    rw [h8, hm, val_zero (f := part f m) (a := m) (n := 8 - m % 8) (fun j _ => by unfold part; rw [if_neg (by omega)]), Nat.add_zero] at e
    exact e
  constructor
  · rw [e0]
    have e := val_split (part f (m + 1)) (8 * (m / 8)) (m % 8) (8 - m % 8)
    rw [h8, hm, val_congr (f := part f (m + 1)) (g := part f m) (a := 8 * (m / 8)) (n := m % 8) (fun j hj => by unfold part; rw [if_pos (by omega), if_pos (by omega)])] at e
    have e2 := val_split (part f (m + 1)) m 1 (7 - m % 8)
    rw [← h7, val_zero (f := part f (m + 1)) (a := m + 1) (n := 7 - m % 8) (fun j _ => by unfold part; rw [if_neg (by omega)]), Nat.add_zero] at e2
    have e3 : val (part f (m + 1)) m 1 = f m := by
      show 2 * 0 + part f (m + 1) (m + 0) = f m
      unfold part
      rw [if_pos (by omega)]; simp
    rw [e2, e3] at e
    exact e
  · rw [e0, Nat.mul_mod_left]
theorem or_low {a x i : Nat} (ha : a % 2 ^ (i + 1) = 0) (hx : x < 2) : a ||| x * 2 ^ i = a + x * 2 ^ i := by
  obtain ⟨c, rfl⟩ : ∃ c, a = 2 ^ (i + 1) * c := ⟨a / 2 ^ (i + 1), by have := Nat.div_add_mod a (2 ^ (i + 1)); omega⟩
  have hp : 0 < 2 ^ i := Nat.pow_pos (by decide)
  rw [← Nat.two_pow_add_eq_or_of_lt]
  have h1 : x = 0 ∨ x = 1 := by omega
  rw [Nat.pow_succ]
  rcases h1 with rfl | rfl <;> omega
/-- The byte's step. -/
theorem or_byte {f : Nat → Nat} (hf : ∀ p, f p < 2) (m : Nat) : byteP f m (m / 8) ||| f m * 2 ^ (7 - m % 8) = byteP f (m + 1) (m / 8) := by
  obtain ⟨h1, h2⟩ := byteP_same (f := f) (m := m)
  rw [h1]
  exact or_low (by rwa [show 7 - m % 8 + 1 = 8 - m % 8 by omega]) (hf m)
/-- The cells of the bytes. -/
def bcells (f : Nat → Nat) (size m : Nat) : Array Value := ((List.range size).map fun k => Value.int .u8 (byteP f m k : Nat)).toArray
theorem bcells_get {f : Nat → Nat} {size m k : Nat} (h : k < size) : (bcells f size m)[k]? = some (.int .u8 (byteP f m k : Nat)) := by
  unfold bcells
  rw [List.getElem?_toArray, List.getElem?_map, List.getElem?_range h]; rfl
theorem bcells_set {f : Nat → Nat} {size m : Nat} : (bcells f size m).setIfInBounds (m / 8) (.int .u8 (byteP f (m + 1) (m / 8) : Nat)) = bcells f size (m + 1) := by
  apply Array.ext_getElem?
  intro k
  rw [Array.getElem?_setIfInBounds]
  by_cases hk : k < size
  · rw [bcells_get hk, bcells_get hk]
    have hs : (bcells f size m).size = size := by simp [bcells]
    by_cases e : m / 8 = k
    · subst e; rw [if_pos rfl, if_pos (by omega)]
    · rw [if_neg e, byteP_other (fun h => e h.symm)]
  · have hs : ∀ n, (bcells f size n).size = size := fun n => by simp [bcells]
    rw [Array.getElem?_eq_none (by rw [hs]; omega), Array.getElem?_eq_none (by rw [hs]; omega)]
    split
    · rw [if_neg (by rw [hs]; omega)]
    · rfl
theorem bcells_zero (f : Nat → Nat) (size : Nat) : (Array.replicate size (Value.int .u8 0)) = bcells f size 0 := by
  apply Array.ext_getElem?
  intro k
  by_cases hk : k < size
  · rw [bcells_get hk, byteP_zero, Array.getElem?_replicate, if_pos hk]; rfl
  · rw [Array.getElem?_eq_none (by simp; omega), Array.getElem?_eq_none (by simp [bcells]; omega)]
theorem bcells_all {l : List Nat} {w : Nat} (hw : 0 < w) : bcells (dgt l w) (szOf l.length w) (l.length * w) = (byteVs (bytesOf w l)).toArray := by
  apply Array.ext_getElem?
  intro k
  by_cases hk : k < szOf l.length w
  · have e : byteP (dgt l w) (l.length * w) k = val (dgt l w) (8 * k) 8 := val_congr fun j _ => by
      unfold part
      by_cases h : 8 * k + j < l.length * w
      · rw [if_pos h]
      · rw [if_neg h, dgt_over hw (by omega)]
    have hv := val_lt (dgt_lt l w) (8 * k) 8
    rw [bcells_get hk, e]
    unfold byteVs bytesOf
    rw [List.getElem?_toArray, List.getElem?_map, List.getElem?_map, List.getElem?_range hk]
    show some _ = some (Value.int .u8 ((UInt8.ofNat (val (dgt l w) (8 * k) 8)).toNat : Int))
    rw [ofNat_toNat _ (by simpa using hv)]
  · rw [Array.getElem?_eq_none (by simp [bcells]; omega), Array.getElem?_eq_none (by simp [byteVs, bytesOf]; omega)]

theorem or8 {a b : Nat} (ha : a < 256) (hb : b < 256) : bits .or .u8 (a : Int) (b : Int) = ((a ||| b : Nat) : Int) := by
  have hlt : a ||| b < 2 ^ 8 := Nat.or_lt_two_pow (by simpa using ha) (by simpa using hb)
  show IntKind.u8.wrap ((BitVec.ofInt 8 a ||| BitVec.ofInt 8 b).toNat : Int) = _
  rw [BitVec.toNat_or, BitVec.ofInt_natCast, BitVec.ofInt_natCast, BitVec.toNat_ofNat, BitVec.toNat_ofNat, Nat.mod_eq_of_lt (by omega), Nat.mod_eq_of_lt (by omega)]
  simp only [IntKind.wrap, IntKind.bits, IntKind.signed]
  simp
  omega

theorem made_one (z : Value) (n : Nat) : madeCells #[z] n = Array.replicate n z := by
  apply Array.ext'
  rw [toList_madeCells_one, Array.toList_replicate]
theorem getD_lt_nats {zs : List Int} (h : Okz zs) (k : Nat) : (nats zs).getD k 0 < 65536 := by
  rw [List.getD_eq_getElem?_getD]
  cases e : (nats zs)[k]? with
  | none => decide
  | some n => exact nats_small h n (List.mem_of_getElem? e)

theorem and_one (q : Nat) : bits .and .i64 (q : Int) 1 = ((q % 2 : Nat) : Int) := by
  show IntKind.i64.wrap ((BitVec.ofInt 64 q &&& BitVec.ofInt 64 1).toNat : Int) = _
  rw [BitVec.toNat_and, BitVec.toNat_ofInt, BitVec.toNat_ofInt, show (1 % ((2 ^ 64 : Nat) : Int)).toNat = 1 from rfl, Nat.and_one_is_mod, IntKind.wrap_i64]
  omega
theorem shr_at (n y : Nat) : (n : Int) / 2 ^ y = ((n / 2 ^ y : Nat) : Int) := by
  rw [Int.natCast_ediv, Int.natCast_pow]; rfl
theorem shl_at (d r : Nat) (hd : d < 2) : (d : Int) * 2 ^ (7 - r) % 256 = ((d * 2 ^ (7 - r) : Nat) : Int) := by
  have h : d * 2 ^ (7 - r) < 256 := by
    have h : 2 ^ (7 - r) ≤ 2 ^ 7 := Nat.pow_le_pow_right (by decide) (by omega)
    rcases (show d = 0 ∨ d = 1 by omega) with rfl | rfl <;> omega
  rw [show (d : Int) * 2 ^ (7 - r) = ((d * 2 ^ (7 - r) : Nat) : Int) by rw [Int.natCast_mul, Int.natCast_pow]; rfl]
  generalize d * 2 ^ (7 - r) = e at *
  omega
theorem shl_lt {d r : Nat} (hd : d < 2) : d * 2 ^ (7 - r) < 256 := by
  have h : 2 ^ (7 - r) ≤ 2 ^ 7 := Nat.pow_le_pow_right (by decide) (by omega)
  rcases (show d = 0 ∨ d = 1 by omega) with rfl | rfl <;> omega

set_option maxRecDepth 100000 in
set_option maxHeartbeats 1000000 in
theorem inBytes_any (x : Option Addr) (len cap W : Nat) (zs : List Int) (hlen : zs.length = len) (hO : Okz zs) (hW : W ≤ 16) (w : World) (hI : Ints w.heap.size w (.slice x len cap) zs) :
    Calls Tryd.prog 24 #[.int .i64 W, .slice x len cap] w fun e w' => ∃ g, e = .returned (.slice (some ⟨g, 0, none⟩) (szOf len W) (szOf len W)) ∧ w.heap.size ≤ g ∧ Blk w' g 5 (byteVs (bytesOf W (nats zs))).toArray ∧ Below w.heap.size w w' := by
  have hl1000 : len ≤ 1000 := by rw [← hlen]; exact hO.1
  have HL := Lib.hid hlen
  have HI := Lib.hid hI
  have HO := Lib.hid hO
  have hS := Lib.hid (size_nat len W (by omega) (by omega))
  have hsz : szOf len W ≤ 2000 := by
    have h2 : len * W ≤ 1000 * 16 := Nat.mul_le_mul hl1000 hW
    unfold szOf; omega
  obtain ⟨S, hSd⟩ : ∃ S, S = szOf len W := ⟨_, rfl⟩
  have HSd := Lib.hid hSd
  rw [← hSd] at hS hsz
  clear hlen hI hO hSd
  obtain ⟨i0, hi, hz0, hz1, hz2⟩ := info_parts info_u8
  have hmk : ∀ W : World, (Instr.makeSlice 42 (.int .i64 S) (.int .i64 S)).run Tryd.prog W = .ok (.slice (some ⟨W.heap.size, 0, none⟩) S S) (W.alloc (.cells (madeCells #[.int .u8 0] S) 5)) := fun W => by
    have h := run_make (P := Tryd.prog) W 42 5 i0 (.int .u8 0) Tryd.underlying42 hi hz0 .i64 .i64 (S : Int) (S : Int) (by omega) (by omega) (by rw [hz2]; omega) (by omega)
    rw [hz1] at h
    rw [h]
    simp [Value.cells]
  clear hi hz0 hz1 hz2
  go_enter Tryd.func24, Tryd.ntmps24
  go_wp2_with (go_at_call 20; refine (hS.out _).mono ?_; rintro e w1 ⟨rfl, hb1⟩)
  have bg0 : Blk (w1.alloc (.cells (madeCells #[.int .u8 0] S) 5)) w1.heap.size 5 (bcells (dgt (nats zs) W) S 0) := by
    rw [← bcells_zero]
    have h := Blk.new w1 5 (madeCells #[.int .u8 0] S)
    rwa [← made_one]
  have hB0 : Below w.heap.size w (w1.alloc (.cells (madeCells #[.int .u8 0] S) 5)) := hb1.alloc hb1.size _
  have hgw := hb1.size
  generalize w1.alloc (.cells (madeCells #[.int .u8 0] S) 5) = w2 at *
  generalize w1.heap.size = g at *
  clear hmk
  go_loopw [6, 17] (fun m i wr => ∃ k : Nat, k ≤ len ∧ i = .int .i64 k ∧ m = .int .i64 (k * W : Nat) ∧ Blk wr g 5 (bcells (dgt (nats zs) W) S (k * W)) ∧ Below w.heap.size w wr)
    (fun _ i _ => len - (intOf i).toNat)
  case atStart => exact ⟨0, Nat.zero_le _, rfl, by simp, by simpa using bg0, hB0⟩
  case round =>
    obtain ⟨k, hk, rfl, rfl, hbg, hB⟩ := hrel
    by_cases hlt : k < len
    · obtain ⟨b, off, rfl, hb, hcell⟩ := HI.out.at_ hlt
      have hc1 : wr.cell? ⟨b, off + k, none⟩ = some (.int .i64 (zs[k]?.getD 0)) := (hB.cell (p := ⟨b, off + k, none⟩) hb).trans hcell
      have hlt' : (k : Int) < len := by omega
      have hng := nats_get HO.out k
      have hn16 := getD_lt_nats HO.out k
      generalize zs[k]?.getD 0 = z at *
      subst hng
      have HD : Hid (∀ j, j < W → dgt (nats zs) W (k * W + j) = (nats zs).getD k 0 / 2 ^ (W - 1 - j) % 2) := Lib.hid (fun j hj => dgt_at hj)
      have hkW : k * W + W ≤ 8 * S := by
        have h1 : (k + 1) * W ≤ len * W := Nat.mul_le_mul_right _ hlt
        have h2 := sz_ge len W
        rw [← HSd.out] at h2
        rw [Nat.add_mul, Nat.one_mul] at h1
        omega
      have HK : Hid (k * W + W = (k + 1) * W) := Lib.hid (by rw [Nat.add_mul, Nat.one_mul])
      generalize (nats zs).getD k 0 = n at *
      generalize k * W = K at *
      clear hcell
      go_wp2
      go_loopw [6, 9] (fun m y wi => ∃ j r : Nat, j + r = W ∧ y = .int .i64 ((r : Int) - 1) ∧ m = .int .i64 (K + j : Nat) ∧ Blk wi g 5 (bcells (dgt (nats zs) W) S (K + j)) ∧ Below w.heap.size w wi)
        (fun _ y _ => ((intOf y) + 1).toNat)
      case atStart => exact ⟨0, W, by omega, rfl, rfl, hbg, hB⟩
      case round =>
        obtain ⟨j, r, hjr, rfl, rfl, hbi, hBi⟩ := hrel
        by_cases h0 : r = 0
        · subst h0
          go_wp2
          have e : (k + 1) * W = K + j := by rw [← HK.out]; omega
          refine ⟨⟨k + 1, by omega, rfl, by rw [e], by rw [e]; exact hbi, hBi⟩, by simp [intOf]; omega⟩
        · obtain ⟨y, rfl⟩ : ∃ y, r = y + 1 := ⟨r - 1, by omega⟩
          have hm8 : (K + j) / 8 < S := by omega
          have hdj := HD.out j (by omega)
          rw [show W - 1 - j = y by omega] at hdj
          generalize hM : K + j = M at *
          have hcB := hbi.cell (M / 8)
          rw [bcells_get hm8] at hcB
          have hfB := hbi.frozen (M / 8)
          have hby := byteP_lt (f := dgt (nats zs) W) (dgt_lt _ _) M (M / 8)
          have hor := or_byte (dgt_lt (nats zs) W) M
          rw [hdj] at hor
          have HSt := Lib.hid (bcells_set (f := dgt (nats zs) W) (size := S) (m := M))
          generalize byteP (dgt (nats zs) W) M (M / 8) = B at *
          have hb2 := byteP_lt (f := dgt (nats zs) W) (dgt_lt _ _) (M + 1) (M / 8)
          generalize byteP (dgt (nats zs) W) (M + 1) (M / 8) = B2 at *
          have hy : y < 16 := by omega
          have hd2 : n / 2 ^ y % 2 < 2 := Nat.mod_lt _ (by decide)
          have hand := and_one (n / 2 ^ y)
          have hsr := shr_at n y
          have hql := Nat.div_le_self n (2 ^ y)
          generalize n / 2 ^ y = q at *
          generalize q % 2 = d at *
          have e8 : (M : Int).tmod 8 = (M : Int) % 8 := Int.tmod_eq_emod_of_nonneg (by omega)
          have e9 : (M : Int).tdiv 8 = (M : Int) / 8 := Int.tdiv_eq_ediv_of_nonneg (by omega)
          obtain ⟨r, hr⟩ : ∃ r, r = M % 8 := ⟨_, rfl⟩
          have hr' : (M : Int) % 8 = r := by omega
          obtain ⟨c, hc⟩ : ∃ c, c = M / 8 := ⟨_, rfl⟩
          have hc' : (M : Int) / 8 = c := by omega
          have hsl := shl_at d r (by omega)
          have hel := shl_lt (d := d) (r := r) (by omega)
          rw [← hr] at hor
          generalize d * 2 ^ (7 - r) = e at *
          have ho8 := or8 hby hel
          rw [hor] at ho8
          rw [← hc] at hcB hfB hm8 HSt
          have hMl : M ≤ 16000 := by omega
          have HM := Lib.hid hM
          have HB2 := Lib.hid hb2
          clear hc hr hM hor hb2
          have hbi2 := ((hbi.set_ c (.int .u8 (B2 : Nat))).drew)
          rw [HSt.out] at hbi2
          have hBi2 : Below w.heap.size w (wr.setCell ⟨g, c, none⟩ (.int .u8 (B2 : Nat))).drew := (hBi.setCell (p := ⟨g, c, none⟩) hgw _).drew
          have hM1 : Hid (K + (j + 1) = M + 1) := Lib.hid (by rw [← HM.out]; omega)
          clear hbi
          go_wp2
          go_region
          go_wp2
          go_roundw
          case rel => exact ⟨j + 1, y, by omega, rfl, by rw [hM1.out]; rfl, by rw [hM1.out]; exact hbi2, hBi2⟩
          case measure => simp [intOf]
    · obtain rfl : k = len := by omega
      have hge : ¬ (k : Int) < k := by omega
      go_wp2
      go_ret
      refine ⟨g, by rw [← HSd.out]; rfl, hgw, ?_, hB⟩
      by_cases hw0 : W = 0
      · subst hw0
        have hs0 := HSd.out
        rw [szOf_zero] at hs0
        subst hs0
        simpa [bcells, byteVs, bytesOf, szOf_zero] using hbg
      · have h := bcells_all (l := nats zs) (w := W) (by omega)
        rw [nats_length, HL.out, ← HSd.out] at h
        rw [← h]; exact hbg
end Go.Proofs.YtmimepjokkcbeaaDoor
