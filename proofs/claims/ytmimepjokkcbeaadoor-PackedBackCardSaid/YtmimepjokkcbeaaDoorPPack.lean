/- packed.Pack: the bytes of a list. -/
import Derived.Test.YtmimepjokkcbeaaDoorPBytes
import Derived.Test.YtmimepjokkcbeaaDoorLMark
import Derived.Lib.SmallJoins
namespace Go.Proofs.YtmimepjokkcbeaaDoor
open Go.RowKit

/-- The bytes, where there are any. -/
def packZ (zs : List Int) : List UInt8 := if Okz zs then packP (nats zs) else []
theorem packZ_ok {zs : List Int} (h : Okz zs) : packZ zs = packP (nats zs) := if_pos h
theorem packZ_no {zs : List Int} (h : ¬ Okz zs) : packZ zs = [] := if_neg h
/-- What Pack answers. -/
def PackPost (zs : List Int) (w : World) (e : Ending) (w' : World) : Prop := e = .returned (.tuple #[.string ⟨(packZ zs).toArray⟩, .int .i64 (wcode zs)]) ∧ Below w.heap.size w w'
theorem PackPost.bad {zs : List Int} {w w' : World} (h : ¬ Okz zs) (hb : Below w.heap.size w w') : PackPost zs w (.returned (.tuple #[.string ⟨#[]⟩, .int .i64 40])) w' := ⟨by rw [packZ_no h, wcode_no h], hb⟩
theorem PackPost.good {zs : List Int} {w w' : World} {l : List UInt8} (h : Okz zs) (hl : l = packP (nats zs)) (hb : Below w.heap.size w w') : PackPost zs w (.returned (.tuple #[.string ⟨l.toArray⟩, .int .i64 0])) w' := ⟨by rw [packZ_ok h, wcode_ok h, hl], hb⟩

theorem conv_ownM {wr : World} {n₀ n : Nat} {v : Value} {l : List UInt8} (h : OwnsM wr n₀ 5 v n (byteVs l)) : (convert 42 9 v).run Tryd.prog wr = .ok (.string ⟨l.toArray⟩) wr := by
  have hn : l.length = n := by rw [← h.1, byteVs_length]
  obtain ⟨g, cap, rfl, _, _, hc⟩ := h.cells
  subst hn
  refine run_convert_bytes_back wr _ _ _ _ cap l Tryd.underlying42 Tryd.underlying5 Tryd.underlying9 (fun j hj => ?_)
  rw [show (⟨g, 0, none⟩ : Addr).add j = ⟨g, j, none⟩ by unfold Addr.add; split <;> simp_all]
  exact hc j _ (by simp [byteVs, List.getElem?_eq_getElem hj])

set_option maxRecDepth 100000 in
set_option maxHeartbeats 2000000 in
theorem pack_any (x : Option Addr) (len cap : Nat) (zs : List Int) (hlen : zs.length = len) (hcm : len ≤ 9223372036854775807) (hz : In64 zs) (w : World) (hI : Ints w.heap.size w (.slice x len cap) zs) :
    Calls Tryd.prog 10 #[.slice x len cap] w (PackPost zs w) := by
  have HW := Lib.hid (widthOf_any x len cap zs hlen hcm hz w hI)
  by_cases hO : Okz zs
  · have hl1000 : len ≤ 1000 := by rw [← hlen]; exact hO.1
    have hv := wval_ok hO
    have hc := wcode_ok hO
    have hw16 := wdl_16 hO
    have HB := Lib.hid (fun w' h => inBytes_any x len cap (wdl (nats zs)) zs hlen hO hw16 w' h)
    have hbl := bytesOf_length (wdl (nats zs)) (nats zs)
    rw [nats_length, hlen] at hbl
    have hsz : szOf len (wdl (nats zs)) ≤ 2000 := by
      have h2 : len * wdl (nats zs) ≤ 1000 * 16 := Nat.mul_le_mul hl1000 hw16
      unfold szOf; omega
    have HG : Hid (∀ w', Below w.heap.size w w' → PackPost zs w (.returned (.tuple #[.string ⟨(vput len ++ UInt8.ofNat (wdl (nats zs)) :: bytesOf (wdl (nats zs)) (nats zs)).toArray⟩, .int .i64 0])) w') := Lib.hid (fun w' hb => .good hO (by unfold packP; rw [nats_length, hlen]) hb)
    have HP := Lib.hid (put1_any len (by omega))
    have hpl := length_put (n := len) (by omega)
    have HI := Lib.hid hI
    unfold WidthPost at HW
    rw [hv, hc] at HW
    have hwb := ofNat_toNat (wdl (nats zs)) (by omega)
    clear hlen hO hI hv hc hz
    generalize bytesOf (wdl (nats zs)) (nats zs) = bs at *
    generalize wdl (nats zs) = d at *
    generalize UInt8.ofNat d = db at *
    generalize vput len = hd at *
    subst hwb
    generalize szOf len db.toNat = S at *
    obtain ⟨i0, hi, hz0, hz1, hz2⟩ := info_parts info_u8
    have HInf := Lib.hid hi; have HZ0 := Lib.hid hz0; have HZ1 := Lib.hid hz1; have HZ2 := Lib.hid hz2
    clear hi hz0 hz1 hz2
    go_enter Tryd.func10, Tryd.ntmps10
    go_wp2_with fail
    refine HW.out.mono ?_
    rintro e w1 ⟨rfl, hB1⟩
    go_wp2_with fail
    refine (HP.out _).mono ?_
    rintro e w2 ⟨rfl, hb2⟩
    have hB2 := hB1.trans (hb2.mono hB1.size)
    have hcv := Lib.run_convert_string_bytes (P := Tryd.prog) w2 9 42 5 ⟨hd.toArray⟩ Tryd.underlying9 Tryd.underlying42 Tryd.underlying5
    have hown := owns_bytes w2 5 hd (by unfold maxLen; omega)
    have hB3 : Below w.heap.size w (Lib.bytesWorld w2 5 ⟨hd.toArray⟩) := hB2.trans (Joins.below_bytesWorld _ w2 _ _ hB2.size)
    have hs2 : (ByteArray.mk hd.toArray).size = hd.length := by simp [ByteArray.size]
    rw [hs2] at hcv
    generalize Lib.bytesWorld w2 5 ⟨hd.toArray⟩ = w3 at *
    have hB2s := hB2.size
    generalize w2.heap.size = g at *
    generalize grownCap w2 hd.length 0 5 = gc at *
    have hown1 := hown.under ((Below.refl _ w3).alloc (Nat.le_refl _) (.cells #[.int .u8 (db.toNat : Int)] 5))
    have hB4 := hB3.alloc hB3.size (.cells #[.int .u8 (db.toNat : Int)] 5)
    have hgl := (hown.lt g rfl).2
    clear hown
    go_wp2_with (at_builtin; refine wpList_append_ownM _ rfl _ _ 42 rfl g 5 i0 (.int .u8 0) 1 Tryd.underlying42 HInf.out HZ0.out HZ1.out HZ2.out rfl _ _ _ rfl hown1 ⟨w3.heap.size, 0, none⟩ 1 1 [.int .u8 (db.toNat : Int)] rfl rfl (cell_one_new _ _ _) (by simp [Value.oneCell']) (by unfold maxLen; omega) (by omega) (by simp; omega) ?_; intro v5 w5 hown5 hgrow5)
    have hB5 : Below w.heap.size w w5 := hB4.grown hgrow5 (by simp; omega) (fun k e => by cases e; exact hB2s)
    have hsz5 := hgrow5.size
    simp only [World.size_alloc] at hsz5
    clear hgrow5 hown1 hB4
    obtain ⟨g5, c5, rfl, hg5, hg5', _⟩ := hown5.cells
    go_wp2_with fail
    refine (HB.out _ ((HI.out.below hB5).more hB5.size)).mono ?_
    rintro e w6 ⟨g6, rfl, hg6, bg6, hb6⟩
    have hB6 := hB5.trans (hb6.mono hB5.size)
    have hown6 := hown5.under hb6
    have hcells : ∀ (j : Nat) (u : Value), (byteVs bs)[j]? = some u → w6.cell? ((⟨g6, 0, none⟩ : Addr).add j) = some u := fun j u hu => by
      rw [show (⟨g6, 0, none⟩ : Addr).add j = ⟨g6, j, none⟩ by unfold Addr.add; split <;> simp_all, bg6.cell j, List.getElem?_toArray]
      exact hu
    have hsz6 : g ≤ w6.heap.size := by have := hb6.size; omega
    clear hown5 hb6 bg6
    go_wp2_with (at_builtin; refine wpList_append_ownM _ rfl _ _ 42 rfl g 5 i0 (.int .u8 0) 1 Tryd.underlying42 HInf.out HZ0.out HZ1.out HZ2.out rfl _ _ _ rfl hown6 ⟨g6, 0, none⟩ S S (byteVs bs) rfl (by rw [byteVs_length, hbl]) hcells (fun u hu => by obtain ⟨y, _, rfl⟩ := List.mem_map.1 hu; rfl) (by unfold maxLen; omega) (by omega) hsz6 ?_; intro v7 w7 hown7 hgrow7; have hcv7 := conv_ownM (l := hd ++ db :: bs) (by have h := hown7; rw [show hd ++ db :: bs = hd ++ [db] ++ bs by simp, byteVs_append, byteVs_append]; exact h))
    have hB7 : Below w.heap.size w w7 := hB6.grown hgrow7 hB6.size (fun k e => by
      obtain rfl : g5 = k := Option.some.inj e
      exact Nat.le_trans hB2s hg5)
    go_ret2
    exact HG.out _ hB7
  · have hv := wval_no hO
    have hc := wcode_no hO
    unfold WidthPost at HW
    rw [hv, hc] at HW
    have HG := Lib.hid (fun w' => PackPost.bad (w := w) (w' := w') hO)
    clear hlen hI hz
    go_enter Tryd.func10, Tryd.ntmps10
    go_wp2_with fail
    refine HW.out.mono ?_
    rintro e w1 ⟨rfl, hB1⟩
    go_wp2
    go_ret2
    exact HG.out _ hB1
end Go.Proofs.YtmimepjokkcbeaaDoor
