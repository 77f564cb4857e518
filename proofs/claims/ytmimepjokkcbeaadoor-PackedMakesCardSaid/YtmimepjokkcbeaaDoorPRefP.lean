/- The document's answer: Pack. -/
import Derived.Test.YtmimepjokkcbeaaDoorPDigs
import Derived.Test.YtmimepjokkcbeaaDoorPPack
import Derived.Test.YtmimepjokkcbeaaDoorVRef
import Derived.Deep.RegionWith
import Derived.Laws.OwnMore
namespace Go.Proofs.YtmimepjokkcbeaaDoor
open Go.RowKit

theorem rows_form {w : World} {base : Nat} {e : TypeId} {v : Value} {n : Nat} {xs : List Value} (h : w.ownsRow base e 1 v n xs) : ∃ x cap, v = .slice x n cap := by
  rcases h.2 with ⟨rfl, rfl⟩ | ⟨g, cap, cur, rfl, _⟩
  · exact ⟨_, _, rfl⟩
  · exact ⟨_, _, rfl⟩
theorem rows_under {w w' : World} {base : Nat} {e : TypeId} {v : Value} {n : Nat} {xs : List Value} (h : w.ownsRow base e 1 v n xs) (hb : Below w.heap.size w w') : w'.ownsRow base e 1 v n xs := by
  refine ⟨h.1, ?_⟩
  rcases h.2 with hn | ⟨g, cap, cur, rfl, hg, hgg, rest⟩
  · exact .inl hn
  · exact .inr ⟨g, cap, cur, rfl, hg, (hb.block g (Array.getElem?_eq_some_iff.1 hgg).1).trans hgg, rest⟩
theorem row_cell {w : World} {base : Nat} {e : TypeId} {x : Option Addr} {K cap : Nat} {f : Nat → Nat} (h : w.ownsRow base e 1 (.slice x K cap) K (nvs (fl f K))) (m : Nat) (hm : m < K) : ∃ g, x = some ⟨g, 0, none⟩ ∧ g < w.heap.size ∧ w.cell? ⟨g, m, none⟩ = some (.int .i64 (f m : Nat)) := by
  rcases h.2 with ⟨e', _⟩ | ⟨g, c2, cur, e', _, hg, _⟩
  · cases e'; omega
  · cases e'
    refine ⟨g, rfl, (Array.getElem?_eq_some_iff.1 hg).1, ?_⟩
    have := h.cells (g := g) rfl m (.int .i64 (f m : Nat)) (by unfold nvs; rw [List.getElem?_map, fl_get hm]; rfl)
    rwa [show (⟨g, 0, none⟩ : Addr).add m = ⟨g, m, none⟩ by unfold Addr.add; split <;> simp_all] at this
theorem nvs_one {l : List Nat} : ∀ u ∈ nvs l, u.oneCell' = true := fun u hu => by
  obtain ⟨y, _, rfl⟩ := List.mem_map.1 hu; rfl
/-- A row appended to a row: each of them may be none. -/
theorem wpList_append_rows {P : Program} (w : World) {ops : Array Oper} {rest : List Oper} {o : Oper} {a : Act} {Q : Exit → Act → World → Prop} (hgd : o.guard = none) (s x : Operand) (t : TypeId)
    (ho : o.op = .call { callee := .builtin .append, args := #[s, x], argTypes := #[t, t] })
    (base : Nat) (e : TypeId) (i : TypeInfo) (z : Value) (bytes : Nat) (ht : P.underlying t = some (.slice e)) (hi : P.info? e = some i) (hz : i.zero = some z)
    (hsize : i.size = 1) (hby : i.bytes = bytes) (hzs : z.cells.size = 1) (v : Value) (n : Nat) (xs : List Value) (hs : a.eval s = v) (hown : w.ownsRow base e 1 v n xs)
    (u : Value) (b2 m : Nat) (ys : List Value) (hx : a.eval x = u) (hown2 : w.ownsRow b2 e 1 u m ys) (h1 : ∀ u ∈ ys, u.oneCell' = true)
    (h63 : n + m ≤ maxLen) (hbytes : (n + m) * bytes ≤ 140737488355328) (hbase : base ≤ w.heap.size)
    (h : ∀ v' w', w'.ownsRow base e 1 v' (n + m) (xs ++ ys) → w.grownBy w' v.ownBlock → wpList P ops Q rest (a.put o.dst v') w') : wpList P ops Q (o :: rest) a w := by
  rcases hown2.2 with ⟨rfl, rfl⟩ | ⟨g, cap, cur, rfl, hg⟩
  · obtain rfl : ys = [] := List.eq_nil_of_length_eq_zero (by simpa using hown2.1)
    refine wpList_plain hgd fun K hK => ?_
    have hr := run_append_owned_none (P := P) w base t o.type e i 1 ht hi v n xs hown
    unfold Oper.wp execOp
    simp only [ho, resolve, invoke, builtin, Sem.run_bind, Sem.run_pure, Result.andThen_ok, List.map_toArray, List.map_cons, List.map_nil, hs, hx, hr]
    exact hK _ _ (h v w (by simpa using hown) ⟨rfl, rfl, rfl, Nat.le_refl _, fun _ _ _ => rfl⟩)
  · refine wpList_append_own w hgd s x t ho base e i z 1 bytes ht hi hz hsize hby hzs (by decide) v n xs hs hown ⟨g, 0, none⟩ m cap ys hx hown2.1 (hown2.cells (g := g) rfl) h1 h63 hbytes hbase (fun v' w' h2 h3 _ => h v' w' h2 h3)

/-- The cells of the bytes, digit by digit. -/
def rbyte (f : Nat → Nat) (m k : Nat) : Nat := val f (8 * k) (min 8 (m - 8 * k))
theorem rbyte_lt {f : Nat → Nat} (hf : ∀ p, f p < 2) (m k : Nat) : rbyte f m k < 256 :=
  Nat.lt_of_lt_of_le (val_lt hf (8 * k) _) (Nat.pow_le_pow_right (by decide) (show min 8 (m - 8 * k) ≤ 8 by omega))
theorem rbyte_same {f : Nat → Nat} (hf : ∀ p, f p < 2) (m : Nat) : rbyte f (m + 1) (m / 8) = 2 * rbyte f m (m / 8) + f m ∧ rbyte f m (m / 8) < 128 := by
  have h1 : min 8 (m - 8 * (m / 8)) = m % 8 := by omega
  have h2 : min 8 (m + 1 - 8 * (m / 8)) = m % 8 + 1 := by omega
  unfold rbyte
  rw [h1, h2, val_succ, show 8 * (m / 8) + m % 8 = m by omega]
  exact ⟨rfl, Nat.lt_of_lt_of_le (val_lt hf _ _) (Nat.pow_le_pow_right (by decide) (show m % 8 ≤ 7 by omega))⟩
theorem rbyte_other {f : Nat → Nat} {m k : Nat} (h : k ≠ m / 8) : rbyte f (m + 1) k = rbyte f m k := by
  unfold rbyte
  rw [show min 8 (m + 1 - 8 * k) = min 8 (m - 8 * k) by omega]
def rcells (f : Nat → Nat) (size m : Nat) : Array Value := ((List.range size).map fun k => Value.int .u8 (rbyte f m k : Nat)).toArray
theorem rcells_get {f : Nat → Nat} {size m k : Nat} (h : k < size) : (rcells f size m)[k]? = some (.int .u8 (rbyte f m k : Nat)) := by
  unfold rcells
  rw [List.getElem?_toArray, List.getElem?_map, List.getElem?_range h]; rfl
theorem rcells_size (f : Nat → Nat) (size m : Nat) : (rcells f size m).size = size := by simp [rcells]
theorem rcells_set {f : Nat → Nat} {size m : Nat} : (rcells f size m).setIfInBounds (m / 8) (.int .u8 (rbyte f (m + 1) (m / 8) : Nat)) = rcells f size (m + 1) := by
  apply Array.ext_getElem?
  intro k
  rw [Array.getElem?_setIfInBounds]
  by_cases hk : k < size
  · rw [rcells_get hk, rcells_get hk]
    by_cases e : m / 8 = k
    · subst e; rw [if_pos rfl, if_pos (by rw [rcells_size]; exact hk)]
    · rw [if_neg e, rbyte_other (fun h => e h.symm)]
  · rw [Array.getElem?_eq_none (by rw [rcells_size]; omega), Array.getElem?_eq_none (by rw [rcells_size]; omega)]
    split
    · rw [if_neg (by rw [rcells_size]; omega)]
    · rfl
theorem rcells_zero (f : Nat → Nat) (size : Nat) : (Array.replicate size (Value.int .u8 0)) = rcells f size 0 := by
  apply Array.ext_getElem?
  intro k
  by_cases hk : k < size
  · rw [rcells_get hk, Array.getElem?_replicate, if_pos hk]
    simp [rbyte, val]
  · rw [Array.getElem?_eq_none (by simp; omega), Array.getElem?_eq_none (by rw [rcells_size]; omega)]
theorem rcells_all {l : List Nat} {w : Nat} : rcells (dgt l w) (szOf l.length w) (8 * szOf l.length w) = (byteVs (bytesOf w l)).toArray := by
  apply Array.ext_getElem?
  intro k
  by_cases hk : k < szOf l.length w
  · have e : rbyte (dgt l w) (8 * szOf l.length w) k = val (dgt l w) (8 * k) 8 := by
      unfold rbyte
      rw [show min 8 (8 * szOf l.length w - 8 * k) = 8 by omega]
    have hv := val_lt (dgt_lt l w) (8 * k) 8
    rw [rcells_get hk, e]
    unfold byteVs bytesOf
    rw [List.getElem?_toArray, List.getElem?_map, List.getElem?_map, List.getElem?_range hk]
    show some _ = some (Value.int .u8 ((UInt8.ofNat (val (dgt l w) (8 * k) 8)).toNat : Int))
    rw [ofNat_toNat _ (by simpa using hv)]
  · rw [Array.getElem?_eq_none (by rw [rcells_size]; omega), Array.getElem?_eq_none (by simp [byteVs, bytesOf]; omega)]

set_option maxRecDepth 100000 in
set_option maxHeartbeats 4000000 in
theorem ref_pack_any (x : Option Addr) (len cap : Nat) (zs : List Int) (hlen : zs.length = len) (hcm : len ≤ 9223372036854775807) (hz : In64 zs) (w : World) (hI : Ints w.heap.size w (.slice x len cap) zs) :
    Calls Tryd.prog 12 #[.slice x len cap] w (PackPost zs w) := by
  have HW := Lib.hid (ref_width_any x len cap zs hlen hcm hz w hI)
  by_cases hO : Okz zs
  · have hl1000 : len ≤ 1000 := by rw [← hlen]; exact hO.1
    have hv := wval_ok hO
    have hc := wcode_ok hO
    have hw16 := wdl_16 hO
    have hbl := bytesOf_length (wdl (nats zs)) (nats zs)
    rw [nats_length, hlen] at hbl
    have HG : Hid (∀ w', Below w.heap.size w w' → PackPost zs w (.returned (.tuple #[.string ⟨(vput len ++ UInt8.ofNat (wdl (nats zs)) :: bytesOf (wdl (nats zs)) (nats zs)).toArray⟩, .int .i64 0])) w') := Lib.hid (fun w' hb => .good hO (by unfold packP; rw [nats_length, hlen]) hb)
    have HP := Lib.hid (put1_any len (by omega))
    have HRP := Lib.hid (ref_put_any len (by omega))
    have hpl := length_put (n := len) (by omega)
    have HI := Lib.hid hI
    have HL := Lib.hid hlen
    have HO := Lib.hid hO
    unfold WidthPost at HW
    rw [hv, hc] at HW
    clear hlen hO hI hv hc hz
    generalize wdl (nats zs) = W at *
    obtain ⟨i0, hi, hz0, hz1, hz2⟩ := info_parts info_int
    have HInf := Lib.hid hi; have HZ0 := Lib.hid hz0; have HZ1 := Lib.hid hz1; have HZ2 := Lib.hid hz2
    clear hi hz0 hz1 hz2
    have hLW : len * W ≤ 16000 := Nat.mul_le_mul hl1000 hw16
    go_enter Tryd.func12, Tryd.ntmps12
    go_wp2_with fail
    refine HW.out.mono ?_
    rintro e w1 ⟨rfl, hB1⟩
    go_wp2_with fail
    go_loopw [6, 7] (fun v i wr => ∃ k : Nat, k ≤ len ∧ i = .int .i64 k ∧ wr.ownsRow w.heap.size 3 1 v (k * W) (nvs (fl (dgt (nats zs) W) (k * W))) ∧ Below w.heap.size w wr)
      (fun _ i _ => len - (intOf i).toNat)
    case atStart => exact ⟨0, Nat.zero_le _, rfl, by simpa [fl, nvs] using World.ownsRow_nil w1 _ _ _, hB1⟩
    case round =>
      obtain ⟨k, hk, rfl, hown, hB⟩ := hrel
      by_cases hlt : k < len
      · obtain ⟨b, off, rfl, hb, hcell⟩ := HI.out.at_ hlt
        have hc1 : wr.cell? ⟨b, off + k, none⟩ = some (.int .i64 (zs[k]?.getD 0)) := (hB.cell (p := ⟨b, off + k, none⟩) hb).trans hcell
        have hlt' : (k : Int) < len := by omega
        have hng := nats_get HO.out k
        have hn16 := getD_lt_nats HO.out k
        generalize zs[k]?.getD 0 = z at *
        subst hng
        have HF : Hid (fl (dgt (nats zs) W) (k * W + W) = fl (dgt (nats zs) W) (k * W) ++ fl (fun j => (nats zs).getD k 0 / 2 ^ (W - 1 - j) % 2) W) := Lib.hid (fl_app _ _ _ _ (fun j hj => dgt_at hj))
        have HK : Hid (k * W + W = (k + 1) * W) := Lib.hid (by rw [Nat.add_mul, Nat.one_mul])
        have hkW : k * W + W ≤ 16000 := by
          have h1 : (k + 1) * W ≤ len * W := Nat.mul_le_mul_right _ hlt
          rw [Nat.add_mul, Nat.one_mul] at h1
          omega
        have HD := Lib.hid (digits_any ((nats zs).getD k 0) W hn16 hw16)
        generalize (nats zs).getD k 0 = n at *
        generalize k * W = K at *
        clear hcell
        go_wp2_with fail
        refine (HD.out _).mono ?_
        rintro e w2 ⟨u, rfl, hown2, hb2⟩
        have hB2 := hB.trans (hb2.mono hB.size)
        have hown1 := rows_under hown hb2
        go_wp2_with (at_builtin; refine wpList_append_rows _ rfl _ _ 22 rfl w.heap.size 3 i0 (.int .i64 0) 8 Tryd.underlying22 HInf.out HZ0.out HZ1.out HZ2.out rfl _ _ _ rfl hown1 u wr.heap.size W _ rfl hown2 nvs_one (by unfold maxLen; omega) (by omega) hB2.size ?_; intro v3 w3 hown3 hgrow3)
        have hB3 : Below w.heap.size w w3 := hB2.grown hgrow3 hB2.size (fun k e => (hown.lt k e).1)
        rw [← nvs_app, ← HF.out, HK.out] at hown3
        go_roundw
        case rel => exact ⟨k + 1, by omega, by simp, hown3, hB3⟩
        case measure => simp [intOf]; omega
      · obtain rfl : k = len := by omega
        have hge : ¬ (k : Int) < k := by omega
        have HF0 : Hid (∀ K, k * W ≤ K → 0 < W → dgt (nats zs) W K = 0) := Lib.hid (fun K h1 h2 => dgt_over h2 (by rw [nats_length, HL.out]; exact h1))
        have hf2 := dgt_lt (nats zs) W
        have HRA : Hid (rcells (dgt (nats zs) W) (szOf k W) (8 * szOf k W) = (byteVs (bytesOf W (nats zs))).toArray) := Lib.hid (by rw [← HL.out, ← nats_length]; exact rcells_all)
        have hS : szOf k W = (k * W + 7) / 8 := rfl
        have hS2 : szOf k W ≤ 2001 := by omega
        have hL0 : W = 0 → k * W = 0 := fun h => by rw [h, Nat.mul_zero]
        generalize szOf k W = S at *
        generalize k * W = L at *
        generalize dgt (nats zs) W = f at *
        generalize bytesOf W (nats zs) = bs at *
        clear HL HO
        go_wp2
        go_loopw [6] (fun v wr => ∃ (K : Nat) (x : Option Addr) (cap : Nat), v = .slice x K cap ∧ L ≤ K ∧ K ≤ 8 * S ∧ wr.ownsRow w.heap.size 3 1 v K (nvs (fl f K)) ∧ Below w.heap.size w wr)
          (fun v _ => match v with | .slice _ K _ => 8 * S - K | _ => 0)
        case atStart => obtain ⟨x, cap, rfl⟩ := rows_form hown; exact ⟨L, x, cap, rfl, by omega, by omega, hown, hB⟩
        case round =>
          obtain ⟨K, x, cap, rfl, hLK, hK8, hown, hB⟩ := hrel
          have e0 : (K : Int).tmod 8 = (K : Int) % 8 := Int.tmod_eq_emod_of_nonneg (by omega)
          obtain ⟨r, hr⟩ : ∃ r, r = K % 8 := ⟨_, rfl⟩
          have hr' : (K : Int) % 8 = r := by omega
          by_cases h0 : r = 0
          · subst h0
            have hK : K = 8 * S := by omega
            obtain ⟨j0, hj0, hy0, hy1, hy2⟩ := info_parts info_u8
            have hmk : ∀ W : World, (Instr.makeSlice 42 (.int .i64 S) (.int .i64 S)).run Tryd.prog W = .ok (.slice (some ⟨W.heap.size, 0, none⟩) S S) (W.alloc (.cells (madeCells #[.int .u8 0] S) 5)) := fun W => by
              have h := run_make (P := Tryd.prog) W 42 5 j0 (.int .u8 0) Tryd.underlying42 hj0 hy0 .i64 .i64 (S : Int) (S : Int) (by omega) (by omega) (by rw [hy2]; omega) (by omega)
              rw [hy1] at h
              rw [h]
              simp [Value.cells]
            have e9 : (K : Int).tdiv 8 = (K : Int) / 8 := Int.tdiv_eq_ediv_of_nonneg (by omega)
            have e10 : (K : Int) / 8 = (S : Int) := by omega
            have HC := Lib.hid (fun m => row_cell hown m)
            have HK := Lib.hid hK
            have bg0 : Blk (wr.alloc (.cells (madeCells #[.int .u8 0] S) 5)) wr.heap.size 5 (rcells f S 0) := by
              rw [← rcells_zero]
              have h := Blk.new wr 5 (madeCells #[.int .u8 0] S)
              rwa [← made_one]
            have hB0 : Below wr.heap.size wr (wr.alloc (.cells (madeCells #[.int .u8 0] S) 5)) := (Below.refl _ wr).alloc (Nat.le_refl _) _
            clear hj0 hy0 hy1 hy2 hown hK hr hS
            go_wp2
            obtain ⟨w5, rfl⟩ : ∃ w5, w5 = wr := ⟨_, rfl⟩
            generalize w5.alloc (.cells (madeCells #[.int .u8 0] S) 5) = w4 at *
            have hwg := hB.size
            generalize w5.heap.size = g at *
            clear hmk e9 e10
            go_loopw [9] (fun i wi => ∃ m : Nat, m ≤ K ∧ i = .int .i64 m ∧ Blk wi g 5 (rcells f S m) ∧ Below g w5 wi)
              (fun i _ => K - (intOf i).toNat)
            case atStart => exact ⟨0, Nat.zero_le _, rfl, bg0, hB0⟩
            case round =>
              obtain ⟨m, hm, rfl, hbi, hBi⟩ := hrel
              by_cases hmK : m < K
              · have hm8 : m / 8 < S := by have := HK.out; omega
                obtain ⟨ga, rfl, hga, hcA0⟩ := HC.out m hmK
                have hcA : wr.cell? ⟨ga, m, none⟩ = some (.int .i64 (f m : Nat)) := (hBi.cell (p := ⟨ga, m, none⟩) hga).trans hcA0
                have hcB := hbi.cell (m / 8)
                rw [rcells_get hm8] at hcB
                have hfB := hbi.frozen (m / 8)
                have hst := rbyte_same hf2 m
                have HSt := Lib.hid (rcells_set (f := f) (size := S) (m := m))
                rw [hst.1] at HSt
                have hb7 := hst.2
                have hd2 := hf2 m
                generalize rbyte f m (m / 8) = B at *
                generalize f m = d at *
                have e9 : (m : Int).tdiv 8 = (m : Int) / 8 := Int.tdiv_eq_ediv_of_nonneg (by omega)
                obtain ⟨c, hc⟩ : ∃ c, c = m / 8 := ⟨_, rfl⟩
                have hc' : (m : Int) / 8 = c := by omega
                rw [← hc] at hcB hfB hm8 HSt
                have hMl : m ≤ 16008 := by omega
                have hbi2 := ((hbi.set_ c (.int .u8 ((2 * B + d : Nat) : Int))).drew)
                rw [HSt.out] at hbi2
                have hBi2 : Below g w5 (wr.setCell ⟨g, c, none⟩ (.int .u8 ((2 * B + d : Nat) : Int))).drew := (hBi.setCell (p := ⟨g, c, none⟩) (Nat.le_refl _) _).drew
                have hmK' : (m : Int) < K := by omega
                clear hbi hst hc hcA0
                go_wp2
                go_region
                go_wp2
                go_roundw
                case rel => exact ⟨m + 1, by omega, rfl, hbi2, hBi2⟩
                case measure => simp [intOf]; omega
              · obtain rfl : m = K := by omega
                have hge2 : ¬ (m : Int) < m := by omega
                rw [HK.out, HRA.out] at hbi
                have hB6 : Below w.heap.size w wr := hB.trans (hBi.mono hwg)
                have hcvb : ∀ W', Blk W' g 5 (byteVs bs).toArray → (convert 42 9 (.slice (some ⟨g, 0, none⟩) S S)).run Tryd.prog W' = .ok (.string ⟨bs.toArray⟩) W' := fun W' hb => by
                  rw [← hbl]
                  refine run_convert_bytes_back W' _ _ _ _ _ bs Tryd.underlying42 Tryd.underlying5 Tryd.underlying9 (fun j hj => ?_)
                  rw [show (⟨g, 0, none⟩ : Addr).add j = ⟨g, j, none⟩ by unfold Addr.add; split <;> simp_all, hb.cell j]
                  simp [byteVs, List.getElem?_eq_getElem hj]
                have hwb := ofNat_toNat W (by omega)
                generalize UInt8.ofNat W = db at *
                subst hwb
                have hcv1 := conv_one db 1
                have HB6 := Lib.hid hB6
                have HBi := Lib.hid hbi
                generalize vput k = hd at *
                have hadd1 : ∀ W' : World, (Op.stringOp .add ⟨hd.toArray⟩ ⟨[db].toArray⟩).run Tryd.prog W' = .ok (.string ⟨(hd ++ [db]).toArray⟩) W' := fun W' => by
                  rw [run_string_add_sum W' _ _ (by simp [ByteArray.size]; omega), app_mk]
                have hadd2 : ∀ W' : World, (Op.stringOp .add ⟨(hd ++ [db]).toArray⟩ ⟨bs.toArray⟩).run Tryd.prog W' = .ok (.string ⟨(hd ++ db :: bs).toArray⟩) W' := fun W' => by
                  rw [run_string_add_sum W' _ _ (by simp [ByteArray.size]; omega), app_mk]
                  simp
                have x1 : IntKind.u64.wrap (k : Int) = (k : Int) := by rw [u64_wrap]; omega
                have x2 : IntKind.u8.wrap (db.toNat : Int) = (db.toNat : Int) := by simp [IntKind.wrap, IntKind.bits, IntKind.signed]; omega
                have x3 : (k : Int) % 18446744073709551616 = (k : Int) := by omega
                have x4 : (db.toNat : Int) % 256 = (db.toNat : Int) := by omega
                have k0 := hcvb _ hbi.drew
                have k1 := fun o => hcvb _ ((hbi.alloc o).drew)
                have HC2 := Lib.hid hcvb
                clear hcvb hbi hB6
                go_wp2_with fail
                rename_i Q2 a3 Q1 a2 Q0 kk1 a1 kk0 a0
                clear a3 a2 a1 HInf HZ0 HZ1 HZ2 hB1 hk hlt hf2 hown HRA hge bg0 hB0 hBi hLK hK8 e0 hr' HK HC hm hmK HW hL0 HF0 HP hge2 hB
                go_region_with (go_at_call 26; refine (HRP.out _).mono ?_; rintro e w' ⟨rfl, hb⟩; have hbg2 : Blk w' g 5 (byteVs bs).toArray := (by first | exact (HBi.out.drew).under hb | exact ((HBi.out.drew).alloc _).under hb); have k2 := HC2.out w' hbg2; have k3 := fun o => HC2.out _ (hbg2.alloc o); have hB7 : Below w.heap.size w w' := (by first | exact (HB6.out.drew).trans (hb.mono HB6.out.size) | exact ((HB6.out.drew).alloc HB6.out.size _).trans (hb.mono (by simpa using Nat.le_trans HB6.out.size (Nat.le_succ _)))); try have hk := (hb.cell (p := ⟨wr.heap.size, 0, none⟩) (by simp)).trans (World.cell?_alloc_new _ _ _ _))
                all_goals
                  go_wp2
                  go_ret2
                  first
                    | exact HG.out _ hB7
                    | exact HG.out _ (hB7.alloc hB7.size _)
          · have h8 : K < 8 * S := by omega
            have hf0 : f K = 0 := HF0.out K hLK (Nat.pos_of_ne_zero (fun h => by have := hL0 h; omega))
            have HF1 : Hid (fl f (K + 1) = fl f K ++ [0]) := Lib.hid (by rw [fl_succ, hf0])
            have h0' : ((r : Int) == 0) = false := by simp; omega
            clear hr hS
            go_wp2_with (at_builtin; refine wpList_append_own _ rfl _ _ 22 rfl w.heap.size 3 i0 (.int .i64 0) 1 8 Tryd.underlying22 HInf.out HZ0.out HZ1.out HZ2.out rfl (by decide) _ _ _ rfl (hown.alloc _) ⟨wr.heap.size, 0, none⟩ 1 1 [.int .i64 0] rfl rfl (cell_one_new _ _ _) (by simp [Value.oneCell']) (by unfold maxLen; omega) (by omega) (by have := hB.size; simp; omega) ?_; intro v2 w2 hown2 hgrow2 _)
            have hB2 : Below w.heap.size w w2 := (hB.alloc hB.size _).grown hgrow2 (by have := hB.size; simp; omega) (fun j e => (hown.lt j e).1)
            have hown3 : w2.ownsRow w.heap.size 3 1 v2 (K + 1) (nvs (fl f (K + 1))) := by
              rw [HF1.out, nvs_app]; exact hown2
            obtain ⟨x2, c2, rfl⟩ := rows_form hown3
            go_roundw
            case rel => exact ⟨K + 1, x2, c2, rfl, by omega, by omega, hown3, hB2⟩
            case measure => simp; omega
  · have hv := wval_no hO
    have hc := wcode_no hO
    unfold WidthPost at HW
    rw [hv, hc] at HW
    have HG := Lib.hid (fun w' => PackPost.bad (w := w) (w' := w') hO)
    clear hlen hI hz
    go_enter Tryd.func12, Tryd.ntmps12
    go_wp2_with fail
    refine HW.out.mono ?_
    rintro e w1 ⟨rfl, hB1⟩
    go_wp2
    go_ret2
    exact HG.out _ hB1
end Go.Proofs.YtmimepjokkcbeaaDoor
