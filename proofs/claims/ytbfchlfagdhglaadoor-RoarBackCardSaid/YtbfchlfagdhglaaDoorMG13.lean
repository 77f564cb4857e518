import Derived.Test.YtbfchlfagdhglaaDoorMG12
import Derived.Test.YtbfchlfagdhglaaDoorMG11
import Derived.Deep.AppendLies
import Derived.RangeFuncBox
import Derived.Test.YtbfchlfagdhglaaDoorMG5
import Derived.RangeFuncNested
import Derived.RangeFuncBound
import Derived.RangeFuncCalls
import Derived.RangeFuncLeaves
import Derived.Shelf.Abstract
import Derived.OwnWalkIn
import Derived.TacticsInMore
import Derived.LoopNIn
import Derived.LoopIn
import Derived.Test.YtbfchlfagdhglaaDoorMG2
/- roar.Make. -/
namespace Go.Proofs.YtbfchlfagdhglaaDoor
open Go.RowKit
attribute [local go_sem] Oper.semAt_some

/-- The bitmap so far, in its box. -/
def MrI (w1 : World) (s : Bs) (m : Nat) (u : Value) (W : World) : Prop := Blk W w1.heap.size 24 #[u] ∧ W.ownsRow (w1.heap.size + 1) 48 3 u (ofTo s m).length (chsCells (ofTo s m)) ∧ Below w1.heap.size w1 W
theorem MrI.under {w1 A B : World} {s : Bs} {m : Nat} {u : Value} (h : MrI w1 s m u A) (hb : Below A.heap.size A B) : MrI w1 s m u B := ⟨h.1.under hb, own_under h.2.1 hb, h.2.2.trans (hb.mono h.2.2.size)⟩
theorem MrI.held {w1 A : World} {s : Bs} {m : Nat} {u : Value} (h : MrI w1 s m u A) : A.cell? ⟨w1.heap.size, 0, none⟩ = some u ∧ MrI w1 s m u A := ⟨h.1.cell 0, h⟩

/-- What the region holds. -/
def MrS (w1 : World) (u : Value) (W : World) : Prop := Blk W w1.heap.size 24 #[u] ∧ Below w1.heap.size w1 W
theorem MrS.under {w1 A B : World} {u : Value} (h : MrS w1 u A) (hb : Below A.heap.size A B) : MrS w1 u B := ⟨h.1.under hb, h.2.trans (hb.mono h.2.size)⟩
theorem MrS.held {w1 A : World} {u : Value} (h : MrS w1 u A) : A.cell? ⟨w1.heap.size, 0, none⟩ = some u ∧ MrS w1 u A := ⟨h.1.cell 0, h⟩
theorem MrS.grown {w1 A B : World} {u : Value} {row : Option Nat} (h : MrS w1 u A) (hg : A.grownBy B row) (hr : ∀ k, row = some k → w1.heap.size + 1 ≤ k) : MrS w1 u B :=
  ⟨(hg.block _ h.1.lt (fun e => by have := hr _ e.symm; omega)).trans h.1, h.2.grown hg h.2.size (fun k e => by have := hr k e; omega)⟩
theorem MrI.next {w1 w6 : World} {s : Bs} {m : Nat} {u v2 : Value} {c : Ch} (h : MrS w1 u w6) (hown : w6.ownsRow (w1.heap.size + 1) 48 3 v2 ((ofTo s m).length + 1) (chsCells (ofTo s m) ++ [.int .i64 c.1, .int .i64 c.2.1, .string ⟨c.2.2.toArray⟩])) (hT : ofTo s (m + 1) = ofTo s m ++ [c]) : MrI w1 s (m + 1) v2 (w6.setCell ⟨w1.heap.size, 0, none⟩ v2) := by
  refine ⟨h.1.set_ 0 v2, ?_, h.2.setCell (Nat.le_refl _) v2⟩
  rw [hT, List.length_append, chsCells_append, chsCells_one]
  exact rows_far hown (by simp) v2
theorem allGood_low (zs : List Int) (j : Nat) : AllGood (zsOf (lowL zs j)) := by
  intro z hz
  obtain ⟨n, hn, rfl⟩ := List.mem_map.1 hz
  have := lowL_small zs j n hn
  unfold goodZ; simp; omega

set_option maxRecDepth 100000 in
set_option maxHeartbeats 4000000 in
theorem make_roar (x : Option Addr) (len cap : Nat) (zs : List Int) (hlen : zs.length = len) (hcm : len ≤ 1000000) (w : World) (hI : Ints w.heap.size w (.slice x len cap) zs) :
    Calls Tryd.prog 13 #[.slice x len cap] w (RoarRes w (makeZ zs)) := by
  have HI := Lib.hid hI
  have HG := Lib.hid (@makeZ_good zs)
  have HB := Lib.hid (@makeZ_bad zs)
  have HN := Lib.hid hlen
  have HM0 := Lib.hid (MkC.start w)
  obtain ⟨i0, hi, hz0, hz1, hz2⟩ := info_parts info_int
  have HInf := Lib.hid hi; have HZ0 := Lib.hid hz0; have HZ1 := Lib.hid hz1; have HZ2 := Lib.hid hz2
  clear hI hi hz0 hz1 hz2
  obtain ⟨i1, hi, hz0, hz1, hz2⟩ := info_parts info_chunk
  have HInfC := Lib.hid hi; have HY0 := Lib.hid hz0; have HY1 := Lib.hid hz1; have HY2 := Lib.hid hz2
  clear hi hz0 hz1 hz2
  go_enter Tryd.func13, Tryd.ntmps13
  go_wp2
  generalize ((w.alloc (.cells #[.slice none 0 0] 24)).alloc (.cells Tryd.zeroCells60 60)) = w0 at *
  go_loopw [13] (fun i wr => ∃ k : Nat, k ≤ len ∧ i = .int .i64 (k : Nat) ∧ (∀ j, j < k → goodQ (zs[j]?.getD 0) = true) ∧ ∃ cs, MkC w (lowL (zs.take k)) cs wr) (fun i _ => len - (intOf i).toNat)
  case atStart => exact ⟨0, Nat.zero_le _, rfl, fun j hj => by omega, _, HM0.out⟩
  case round =>
    obtain ⟨k, hk, rfl, hgd, cs, hS⟩ := hrel
    clear HM0
    by_cases hlt : k < len
    · have hlt' : (k : Int) < len := by omega
      obtain ⟨bb, o, rfl, hb1, hc1⟩ := HI.out.at_ hlt
      have hd1 : wr.cell? ⟨bb, o + k, none⟩ = some (.int .i64 (zs[k]?.getD 0)) := (hS.2.2.2.2.2.cell (p := ⟨bb, o + k, none⟩) hb1).trans hc1
      clear hc1 hb1
      by_cases hgz : goodQ (zs[k]?.getD 0) = true
      · have hLt := fun j => lowL_take zs (k := k) (by rw [HN.out]; exact hlt) j
        have HGD : Hid (∀ j, j < k + 1 → goodQ (zs[j]?.getD 0) = true) := Lib.hid (fun j hj => by
          by_cases e : j = k
          · subst e; exact hgz
          · exact hgd j (by omega))
        have hLe := fun j => lowL_le (zs.take k) j
        have htl : (zs.take k).length ≤ len := by rw [List.length_take, HN.out]; omega
        generalize zs[k]?.getD 0 = z at *
        unfold goodQ at hgz
        simp only [Bool.and_eq_true, decide_eq_true_eq] at hgz
        obtain ⟨key, hkey⟩ : ∃ key : Nat, z / 256 = (key : Int) := ⟨(z / 256).toNat, by omega⟩
        obtain ⟨b, hbz⟩ : ∃ b : Nat, z % 256 = (b : Int) := ⟨(z % 256).toNat, by omega⟩
        have hk256 : key < 256 := by omega
        have hkI : (key : Int) < 256 := by omega
        have hz3 : ¬ z > 65535 := by omega
        have hz4 : ¬ z < 0 := by omega
        have hwu : IntKind.u8.wrap z = (b : Int) := by rw [← hbz]; simp [IntKind.wrap, IntKind.bits, IntKind.signed]
        have hwi : IntKind.i64.wrap (b : Int) = (b : Int) := by rw [IntKind.wrap_i64]; omega
        have HL : Hid (∀ j, lowL (zs.take (k + 1)) j = if j = key then lowL (zs.take k) key ++ [b] else lowL (zs.take k) j) := Lib.hid (fun j => by
          rw [hLt j]
          by_cases e : j = key
          · subst e; rw [if_pos hkey, if_pos rfl, hbz]; rfl
          · rw [if_neg (fun h => e (by omega)), if_neg e])
        have hcell := hS.at_ hk256
        have hrow := hS.2.2.2.1 key hk256
        have hlow := hLe key
        have hwr := hS.lt
        have HPut := Lib.hid (fun w4 v2 (hgr : (wr.alloc (.cells #[.int .i64 (b : Nat)] 3)).grownBy w4 (cs.getD key nilS).ownBlock) hown hob => MkC.put (v2 := v2) hS hk256 hgr hown hob HL.out)
        clear hS hgd hLt hLe
        generalize cs.getD key nilS = v at *
        go_wp2_with (first | (go_at_call 23; refine (key_any _ _).mono ?_; rintro e w' ⟨rfl, rfl⟩; rw [hkey]) | (at_builtin; refine wpList_append_own_at _ rfl _ _ 35 rfl (w.heap.size + 2) 3 i0 (.int .i64 0) 1 8 Tryd.underlying35 HInf.out HZ0.out HZ1.out HZ2.out rfl (by decide) _ _ _ rfl (hrow.alloc _) ⟨wr.heap.size, 0, none⟩ 1 1 [.int .i64 (b : Nat)] rfl rfl (cell_one_new _ _ _) (by simp [Value.oneCell']) (by unfold maxLen; omega) (by omega) (by simp; omega) ?_; intro v2 w5 hown5 hgr5 _ hob5; obtain ⟨e5, f5, hM5⟩ := HPut.out w5 v2 hgr5 hown5 hob5; obtain ⟨x2, k2, rfl⟩ := own_slice hown5; have HM5 := Lib.hid hM5; clear hM5 hown5 hgr5))
        go_roundw
        case rel => exact ⟨k + 1, by omega, by simp, HGD.out, _, HM5.out⟩
        case measure => simp [intOf]; omega
      · have hV := HB.out (not_allQ (by rw [HN.out]; omega) (Bool.eq_false_iff.2 hgz))
        have hb : zs[k]?.getD 0 < 0 ∨ (¬ zs[k]?.getD 0 < 0 ∧ zs[k]?.getD 0 > 65535) := by
          unfold goodQ at hgz
          simp only [Bool.and_eq_true, decide_eq_true_eq] at hgz
          omega
        have HV := Lib.hid hV
        generalize zs[k]?.getD 0 = z at *
        have c0 := hS.2.1.cell 0
        have f0 := hS.2.1.frozen 0
        dsimp at c0
        have hE := hS.2.1.set_ 0 (.slice none 0 0)
        have hD := hS.2.2.2.2.2.setCell (p := ⟨w.heap.size, 0, none⟩) (Nat.le_refl _) (.slice none 0 0)
        clear hgd hS hgz hV
        rcases hb with h1 | ⟨h1, h2⟩
        all_goals
          go_wp2
          exact ret_roar2 rfl rfl hE rfl (roar_none HV.out rfl hD)
    · obtain rfl : k = len := by omega
      have hge : ¬ (k : Int) < k := by omega
      have HV := Lib.hid (HG.out (allQ_of fun j hj => hgd j (by rw [HN.out] at hj; omega)))
      have HA : Hid (AllQ zs) := Lib.hid (allQ_of fun j hj => hgd j (by rw [HN.out] at hj; omega))
      rw [List.take_of_length_le (by rw [HN.out]; exact Nat.le_refl _)] at hS
      have hM1 := hS.under ((Below.refl _ wr).alloc (Nat.le_refl _) (.cells #[.slice none 0 0] 24))
      have hblk := hM1.2.2.1
      have hcs := hM1.1
      have HS := Lib.hid hS
      have HR0 : Hid (MrI wr (ofL zs) 0 (.slice none 0 0) (wr.alloc (.cells #[.slice none 0 0] 24))) := Lib.hid ⟨Blk.new wr _ _, ⟨rfl, .inl ⟨rfl, rfl⟩⟩, (Below.refl _ wr).alloc (Nat.le_refl _) _⟩
      clear hgd hS hM1
      go_wp2
      refine wp_load_row _ _ rfl _ rfl _ cs _ _ hblk Tryd.underlying60 rfl (by rw [hcs]; exact size_arr) ?_
      clear hblk
      have HCs := Lib.hid hcs
      clear hcs
      generalize wr = w1 at *
      go_wp2
      go_loopw [38] (fun i W => ∃ (m : Nat) (u : Value), m ≤ 256 ∧ i = .int .i64 (m : Nat) ∧ MrI w1 (ofL zs) m u W) (fun i _ => 256 - (intOf i).toNat)
      case atStart => exact ⟨0, _, by omega, rfl, HR0.out⟩
      case round =>
        obtain ⟨m, u, hm, rfl, hR⟩ := hrel
        clear HR0
        by_cases hlt2 : m < 256
        · have hlt3 : (m : Int) < 256 := by omega
          obtain ⟨y, cy, hy, hIy⟩ := row_ints rfl (HS.out.2.2.2.1 m hlt2)
          have hix := fun W => index_arr HCs.out hlt2 hy W
          by_cases hne : lowL zs m = []
          · have HT := Lib.hid (ofTo_low_none hne)
            have hl0 : (lowL zs m).length = 0 := by rw [hne]; rfl
            rw [hl0] at hix
            clear hIy hy hne
            have HR := Lib.hid hR
            clear hR
            go_wp2
            go_roundw
            case rel => exact ⟨m + 1, u, by omega, by simp, by unfold MrI; rw [HT.out]; exact HR.out⟩
            case measure => simp [intOf]; omega
          · have HT := Lib.hid (ofTo_low_some hne)
            have hl0 : 0 < (lowL zs m).length := List.length_pos_iff.2 hne
            have hl1 : (0 : Int) < ((lowL zs m).length : Nat) := by omega
            have hl2 : (lowL zs m).length ≤ 1000000 := by have := lowL_le zs m; rw [HN.out] at this; omega
            have HMd := Lib.hid (fun W hW => made_any (m : Nat) y (lowL zs m).length cy (zsOf (lowL zs m)) (zsOf_length _) (by omega) (in64_zsOf (lowL_small zs m)) (allGood_low zs m) W hW)
            have HS0 : Hid (MrS w1 u wr.drew) := Lib.hid ⟨hR.1.drew, hR.2.2.drew⟩
            have HIW : Hid (Ints wr.drew.heap.size wr.drew (.slice y (lowL zs m).length cy) (zsOf (lowL zs m))) := Lib.hid (ints_on hIy hR.2.2.drew)
            have HRow : Hid (wr.drew.ownsRow (w1.heap.size + 1) 48 3 u (ofTo (ofL zs) m).length (chsCells (ofTo (ofL zs) m))) := Lib.hid hR.2.1.drew
            have hol := ofTo_length (ofL zs) m
            have hqw : w1.heap.size < wr.drew.heap.size := hR.1.lt
            generalize bestF (ofL (zsOf (lowL zs m))) = f at *
            generalize bestD (ofL (zsOf (lowL zs m))) = d at *
            clear hR hIy hne hy
            go_wp2
            refine wp_region_M (m := 8) (S := fun W => W.cell? ⟨w1.heap.size, 0, none⟩ = some u ∧ MrS w1 u W) (by kernel_rfl) (HS0.out.held) (fun hH => ?_)
            generalize wr.drew = WD at *
            refine wpAnyM_take (by kernel_rfl) (i := 0) (by decide) (oi := { dst := some 45, op := Go.Op.fieldAddr 24 (Go.Operand.tmp 8) 0, type := 0, pos := "roar.go:58", after := #[], guard := none }) (v := ?_) rfl (by kernel_rfl) (by kernel_rfl) (by kernel_rfl) (fun _ _ _ h => h) (Or.inl ⟨by rfl, ?_⟩) hH ?_
            rotate_left
            · intro w hSw; (try dsimp only at hSw); go_simp; try with_reducible rfl
            try simp only [Act.put, List.setIfInBounds_toArray, List.set_cons_zero, List.set_cons_succ]
            refine wpAnyM_take (by kernel_rfl) (i := 1) (by decide) (oi := { dst := some 46, op := Go.Op.load 22 (Go.Operand.tmp 45), type := 22, pos := "roar.go:58", after := #[{ on := 0, ground := Go.Ground.data }], guard := none }) (v := ?_) rfl (by kernel_rfl) (by kernel_rfl) (by kernel_rfl) (fun _ _ _ h => h) (Or.inl ⟨by rfl, ?_⟩) hH ?_
            rotate_left
            · intro w hSw; (try dsimp only at hSw); go_simp; try with_reducible rfl
            try simp only [Act.put, List.setIfInBounds_toArray, List.set_cons_zero, List.set_cons_succ]
            refine wpAnyM_take (by kernel_rfl) (i := 2) (by decide) (oi := { dst := some 47, op := Go.Op.move (Go.Operand.tmp 9), type := 3, pos := "roar.go:58", after := #[], guard := none }) (v := ?_) rfl (by kernel_rfl) (by kernel_rfl) (by kernel_rfl) (fun _ _ _ h => h) (Or.inl ⟨by rfl, ?_⟩) hH ?_
            rotate_left
            · intro w hSw; (try dsimp only at hSw); go_simp; try with_reducible rfl
            try simp only [Act.put, List.setIfInBounds_toArray, List.set_cons_zero, List.set_cons_succ]
            refine wpAnyM_take (by kernel_rfl) (i := 3) (by decide) (oi := { dst := some 48, op := Go.Op.move (Go.Operand.tmp 10), type := 35, pos := "roar.go:58", after := #[], guard := none }) (v := ?_) rfl (by kernel_rfl) (by kernel_rfl) (by kernel_rfl) (fun _ _ _ h => h) (Or.inl ⟨by rfl, ?_⟩) hH ?_
            rotate_left
            · intro w hSw; (try dsimp only at hSw); go_simp; try with_reducible rfl
            try simp only [Act.put, List.setIfInBounds_toArray, List.set_cons_zero, List.set_cons_succ]
            refine wpAnyM_one (i := 4) (by decide) (o := { dst := some 49, op := Go.Op.call { callee := Go.Callee.value (Go.Operand.func 24), args := #[Go.Operand.tmp 47, Go.Operand.tmp 48], argTypes := #[3, 35] }, type := 48, pos := "roar.go:58", after := #[{ on := 2, ground := Go.Ground.data }, { on := 3, ground := Go.Ground.data }], guard := none }) (by kernel_rfl) rfl (fun K hK => ?_)
            go_simp
            go_at_call 24
            refine (HMd.out _ HIW.out).mono ?_
            rintro e w5 ⟨rfl, hb5⟩
            have hrow5 := own_under HRow.out hb5
            have hsz5 := hb5.size
            first | refine hK.out _ _ ((hH.2.under hb5).held) (fun hH4 => ?_) | (go_wp2_with fail; refine hK.out _ _ ((hH.2.under hb5).held) (fun hH4 => ?_))
            clear hK K hH
            try simp only [Act.put, List.setIfInBounds_toArray, List.set_cons_zero, List.set_cons_succ]
            refine wpAnyM_one (i := 5) (by decide) (o := { dst := some 50, op := Go.Op.buildSlice 22 1 #[(0, Go.Operand.tmp 49)], type := 22, pos := "roar.go:58", after := #[{ on := 4, ground := Go.Ground.data }], guard := none }) (by kernel_rfl) rfl (fun K hK => ?_)
            go_simp
            first | refine hK.out _ _ ((hH4.2.under ((Below.refl _ _).alloc (Nat.le_refl _) _)).held) (fun hH5 => ?_) | (go_wp2_with fail; refine hK.out _ _ ((hH4.2.under ((Below.refl _ _).alloc (Nat.le_refl _) _)).held) (fun hH5 => ?_))
            clear hK K hH4
            try simp only [Act.put, List.setIfInBounds_toArray, List.set_cons_zero, List.set_cons_succ]
            refine wpAnyM_one (i := 6) (by decide) (o := { dst := some 51, op := Go.Op.call { callee := Go.Callee.builtin Go.Builtin.append, args := #[Go.Operand.tmp 46, Go.Operand.tmp 50], argTypes := #[22, 22] }, type := 22, pos := "roar.go:58", after := #[{ on := 1, ground := Go.Ground.data }, { on := 5, ground := Go.Ground.data }, { on := 4, ground := Go.Ground.chain }], guard := none }) (by kernel_rfl) rfl (fun K hK => ?_)
            rw [if_pos (by rfl)]
            refine wp_append_lies (P := Tryd.prog) _ _ _ _ rfl (w1.heap.size + 1) 48 i1 (.agg #[.int .i64 0, .int .i64 0, .string ⟨#[]⟩]) 3 32 Tryd.underlying22 HInfC.out HY0.out HY1.out HY2.out rfl (by decide) _ _ _ rfl (hrow5.alloc _) ⟨w5.heap.size, 0, none⟩ 1 1 [.int .i64 (m : Nat), .int .i64 (f : Nat), .string ⟨d.toArray⟩] rfl rfl (cells_three w5 (.int .i64 (m : Nat)) (.int .i64 (f : Nat)) (.string ⟨d.toArray⟩) 48) (by simp [Value.oneCell']) (by decide) (by unfold maxLen; omega) (by omega) (by simp; omega) _ rfl ?_
            intro g' cap' w6 hown' hgrow hlie hlt6
            have hS6 := MrS.grown hH5.2 hgrow (fun k e => ((hrow5.alloc (.cells #[.int .i64 (m : Nat), .int .i64 (f : Nat), .string ⟨d.toArray⟩] 48)).lt k e).1)
            first | refine hK.out _ _ (hS6.held) (fun hH6 => ?_) | (go_wp2_with fail; refine hK.out _ _ (hS6.held) (fun hH6 => ?_))
            clear hK K hH5
            try simp only [Act.put, List.setIfInBounds_toArray, List.set_cons_zero, List.set_cons_succ]
            refine wpAnyM_take (by kernel_rfl) (i := 7) (by decide) (oi := { dst := some 52, op := Go.Op.fieldAddr 24 (Go.Operand.tmp 8) 0, type := 0, pos := "roar.go:58", after := #[{ on := 0, ground := Go.Ground.phase }, { on := 1, ground := Go.Ground.phase }, { on := 2, ground := Go.Ground.phase }, { on := 3, ground := Go.Ground.phase }, { on := 4, ground := Go.Ground.phase }, { on := 5, ground := Go.Ground.phase }, { on := 6, ground := Go.Ground.phase }], guard := none }) (v := ?_) rfl (by kernel_rfl) (by kernel_rfl) (by kernel_rfl) (fun _ _ _ h => h) (Or.inl ⟨by rfl, ?_⟩) hH6 ?_
            rotate_left
            · intro w hSw; (try dsimp only at hSw); go_simp; try with_reducible rfl
            try simp only [Act.put, List.setIfInBounds_toArray, List.set_cons_zero, List.set_cons_succ]
            have hf := hS6.1.frozen 0
            refine wpAnyM_last (by kernel_rfl) (o := { dst := none, op := Go.Op.store 22 (Go.Operand.tmp 52) (Go.Operand.tmp 51), type := 0, pos := "roar.go:58", after := #[{ on := 7, ground := Go.Ground.data }, { on := 6, ground := Go.Ground.data }, { on := 6, ground := Go.Ground.chain }, { on := 0, ground := Go.Ground.phase }, { on := 1, ground := Go.Ground.phase }, { on := 2, ground := Go.Ground.phase }, { on := 3, ground := Go.Ground.phase }, { on := 4, ground := Go.Ground.phase }, { on := 5, ground := Go.Ground.phase }, { on := 6, ground := Go.Ground.phase }], guard := none }) rfl (by kernel_rfl) (fun K hK => ?_)
            go_simp
            refine hK.out _ _ ?_
            clear hK K
            try simp only [Act.put, List.setIfInBounds_toArray, List.set_cons_zero, List.set_cons_succ]
            have HR2 : Hid (MrI w1 (ofL zs) (m + 1) (.slice (some ⟨g', 0, none⟩) ((ofTo (ofL zs) m).length + 1) cap') (w6.setCell ⟨w1.heap.size, 0, none⟩ (.slice (some ⟨g', 0, none⟩) ((ofTo (ofL zs) m).length + 1) cap'))) := Lib.hid (MrI.next hS6 hown' HT.out)
            clear hS6 hown' hgrow hlie hlt6 hf hrow5
            go_wp2
            go_roundw
            case rel => exact ⟨m + 1, _, by omega, by simp, HR2.out⟩
            case measure => simp [intOf]; omega
        · obtain rfl : m = 256 := by omega
          obtain ⟨x2, c2, rfl⟩ := own_slice hR.2.1
          have hge2 : ¬ ((256 : Nat) : Int) < 256 := by omega
          have c8 := hR.1.cell 0
          dsimp at c8
          have hB1 := HS.out.2.2.2.2.2.trans (hR.2.2.mono (by have := HS.out.lt; omega))
          have bR : Blk wr w.heap.size 24 #[.slice none 0 0] := (hR.2.2.block w.heap.size (by have := HS.out.lt; omega)).trans HS.out.2.1
          have c0 := bR.cell 0; have f0 := bR.frozen 0
          dsimp at c0
          have hq : w.heap.size < w1.heap.size + 1 := by have := HS.out.lt; omega
          obtain ⟨x3, c3, e3, h1, h2, h3, h4⟩ := own_chs (g := w.heap.size) (u := .slice x2 (ofS (ofL zs)).length c2) (r := ofS (ofL zs)) hR.2.1 hq
          cases e3
          have HE := Lib.hid (bR.set_ 0 (.slice x2 (ofS (ofL zs)).length c2))
          have HD := Lib.hid (hB1.setCell (p := ⟨w.heap.size, 0, none⟩) (Nat.le_refl _) (.slice x2 (ofS (ofL zs)).length c2))
          have H4 : Hid (∀ b o, x2 = some ⟨b, o, none⟩ → w.heap.size ≤ b) := Lib.hid (fun b o e => by have := h4 b o e; omega)
          have H3 := Lib.hid h3
          change 256 ≤ 256 at hm
          have HW : Hid (ofTo (ofL zs) 256 = ofS (ofL zs)) := Lib.hid rfl
          rw [HW.out] at c8
          clear hR hB1 bR h3 h4 hm
          go_wp2
          exact ret_roar2 rfl rfl HE.out rfl (roar_some HV.out rfl h1 h2 H3.out HD.out H4.out)
end Go.Proofs.YtbfchlfagdhglaaDoor
/- Bytes of a bitmap: pure mathematics. -/
namespace Go.Proofs.YtbfchlfagdhglaaDoor
open Go.RowKit

/-- A number's lowest byte. -/
def u8 (z : Int) : UInt8 := UInt8.ofNat (z % 256).toNat
theorem u8_wrap (z : Int) : IntKind.u8.wrap z = ((u8 z).toNat : Int) := by
  unfold u8
  rw [UInt8.toNat_ofNat']
  simp [IntKind.wrap, IntKind.bits, IntKind.signed]
  omega
/-- A chunk's bytes. -/
def chBytes (c : Ch) : List UInt8 := [u8 c.1, u8 c.2.1, u8 ((c.2.2.length : Int) - 1)] ++ c.2.2
def bytesZ (r : List Ch) : List UInt8 := vput r.length ++ r.flatMap chBytes
/-- A bitmap's bytes, and what is wrong with it. -/
def encZ (r : List Ch) : List UInt8 × Int := if RightZ r then (bytesZ r, 0) else ([], 70)
theorem encZ_good {r : List Ch} (h : RightZ r) : encZ r = (bytesZ r, 0) := if_pos h
theorem encZ_bad {r : List Ch} (h : ¬ RightZ r) : encZ r = ([], 70) := if_neg h
/-- The bytes of the first k chunks. -/
def accZ (r : List Ch) (k : Nat) : List UInt8 := vput r.length ++ (r.take k).flatMap chBytes
theorem accZ_zero (r : List Ch) : accZ r 0 = vput r.length := by unfold accZ; simp
theorem accZ_all (r : List Ch) : accZ r r.length = bytesZ r := by unfold accZ; rw [List.take_of_length_le (Nat.le_refl _)]; rfl
theorem accZ_succ {r : List Ch} {k : Nat} (h : k < r.length) : accZ r (k + 1) = accZ r k ++ chBytes (r.getD k noCh) := by
  unfold accZ
  rw [take_get h, List.flatMap_append, List.append_assoc]; simp
theorem accZ_le {r : List Ch} (hd : Ok3 r) (hl : r.length ≤ 256) (k : Nat) : (accZ r k).length ≤ 100000 := by
  unfold accZ
  have h1 := length_put (n := r.length) (by omega)
  have h2 : ∀ q : List Ch, Ok3 q → (q.flatMap chBytes).length ≤ 303 * q.length := by
    intro q
    induction q with
    | nil => intro _; simp
    | cons c q ih =>
      intro h
      have := ih fun x hx => h x (List.mem_cons_of_mem _ hx)
      have h3 : c.2.2.length ≤ 300 := h c (List.mem_cons_self ..)
      rw [List.flatMap_cons, List.length_append, List.length_cons]
      have h4 : (chBytes c).length = 3 + c.2.2.length := by unfold chBytes; rw [List.length_append]; rfl
      omega
  have h3 := h2 (r.take k) fun x hx => hd x (List.mem_of_mem_take hx)
  have h4 : (r.take k).length ≤ 256 := by rw [List.length_take]; omega
  rw [List.length_append]
  omega
end Go.Proofs.YtbfchlfagdhglaaDoor
/- varint.sevens, the digits of a number; (*left).ahead, the next bytes: what they hand to a loop's body, for every body. -/
namespace Go.Proofs.YtbfchlfagdhglaaDoor
open Go.RowKit
attribute [local go_sem] Oper.semAt_some

theorem keeps_of_below {a w : World} (h : Below a.heap.size a w) : KeepsOthers a w := ⟨h.size, fun k _ hk _ => (h.block k (Array.getElem?_eq_some_iff.1 hk).1).trans hk⟩

/-- What an iterator leaves; hidden from the walk. -/
def SeqPostV {α : Type} (S Sp : List α → Prop) (J Jx : List α → World → Prop) (e : Ending) (W' : World) : Prop := (∃ v, e = .returned v) ∧ ((∃ ys, S ys ∧ J ys W') ∨ (∃ pre, Sp pre ∧ Jx pre W'))
theorem SeqPostV.all {α : Type} {S Sp : List α → Prop} {J Jx : List α → World → Prop} {v : Value} {W' : World} {ys : List α} (h : S ys) (hj : J ys W') : SeqPostV S Sp J Jx (.returned v) W' := ⟨⟨_, rfl⟩, .inl ⟨ys, h, hj⟩⟩
theorem SeqPostV.stop {α : Type} {S Sp : List α → Prop} {J Jx : List α → World → Prop} {v : Value} {W' : World} {ys : List α} (h : Sp ys) (hj : Jx ys W') : SeqPostV S Sp J Jx (.returned v) W' := ⟨⟨_, rfl⟩, .inr ⟨ys, h, hj⟩⟩

/-- The digits of n, seven by seven, and which ones are the last. -/
def sevs (n : Nat) : List (UInt8 × Bool) :=
  if n < 128 then [(UInt8.ofNat n, true)] else (UInt8.ofNat (n % 128), false) :: sevs (n / 128)
termination_by n
decreasing_by omega
theorem sevs_lo {n : Nat} (h : n < 128) : sevs n = [(UInt8.ofNat n, true)] := by rw [sevs, if_pos h]
theorem sevs_hi {n : Nat} (h : ¬ n < 128) : sevs n = (UInt8.ofNat (n % 128), false) :: sevs (n / 128) := by rw [sevs, if_neg h]
/-- Shifting n by k sevens. -/
def shr7 (n : Nat) : Nat → Nat
  | 0 => n
  | k + 1 => shr7 n k / 128

theorem and127 (r : Nat) : bits .and .u64 (r : Int) 127 = ((UInt8.ofNat (r % 128)).toNat : Int) := by
  rw [ofNat_toNat _ (by omega)]
  show IntKind.u64.wrap ((BitVec.ofInt 64 r &&& BitVec.ofInt 64 127).toNat : Int) = _
  rw [BitVec.toNat_and, BitVec.toNat_ofInt, BitVec.toNat_ofInt, u64_wrap, show (127 % ((2 ^ 64 : Nat) : Int)).toNat = 2 ^ 7 - 1 from rfl, Nat.and_two_pow_sub_one_eq_mod]
  omega

theorem wrap8 (r : Nat) (h : r < 256) : (r : Int) % 256 = ((UInt8.ofNat r).toNat : Int) := by
  rw [ofNat_toNat r h]
  omega
theorem seven_lt {r k : Nat} (h : r * 128 ^ k < 18446744073709551616) : r < 18446744073709551616 := Nat.lt_of_le_of_lt (Nat.le_mul_of_pos_right r (Nat.pow_pos (by decide))) h
theorem seven_k {r k : Nat} (h : r * 128 ^ k < 18446744073709551616) (hr : 128 ≤ r) : k + 1 ≤ 9 := by
  rcases Nat.lt_or_ge k 9 with h9 | h9
  · omega
  · have h1 : 128 * 128 ^ 9 ≤ r * 128 ^ k := Nat.mul_le_mul hr (Nat.pow_le_pow_right (by decide) h9)
    omega
theorem seven_next {r k : Nat} (h : r * 128 ^ k < 18446744073709551616) : (r / 128) * 128 ^ (k + 1) < 18446744073709551616 := by
  rw [Nat.pow_succ, Nat.mul_comm (128 ^ k), ← Nat.mul_assoc]
  exact Nat.lt_of_le_of_lt (Nat.mul_le_mul_right _ (Nat.div_mul_le_self r 128)) h

set_option maxHeartbeats 1000000 in
theorem sevens_any (n : Int) (w : World) :
    Calls Tryd.prog 40 #[.int .u64 n] w fun e w' => e = .returned (.func (.func 55) #[] #[.pointer (some ⟨w.heap.size, 0, none⟩)]) ∧ w' = w.alloc (.cells #[.int .u64 n] 44) := by
  go_enter Tryd.func40, Tryd.ntmps40
  go_wp2
  go_ret
  exact ⟨rfl, rfl⟩

set_option maxRecDepth 100000 in
set_option maxHeartbeats 2000000 in
theorem sevens1_in (n : Nat) (hn : 1 ≤ n) (l Bn n₀ m : Nat) (hm : m < 18446744073709551616) (J Jx : List (UInt8 × Bool) → World → Prop)
    (hY : ∀ pre x W, J pre W → pre.length < 10 → YieldAt Fence.wide (n - 1) Tryd.prog l #[.int .u8 (x.1.toNat : Int), .bool x.2] W fun e W' =>
      (e = .returned (.bool true) ∧ J (pre ++ [x]) W' ∧ Below n₀ W W') ∨ (e = .returned (.bool false) ∧ Jx (pre ++ [x]) W'))
    (W : World) (hc : W.cell? ⟨Bn, 0, none⟩ = some (.int .u64 m)) (h0 : J [] W) :
    CallsIn Fence.wide n Tryd.prog 55 #[.func (.yield l) #[] #[], .pointer (some ⟨Bn, 0, none⟩)] W fun e W' => (∃ v, e = .returned v) ∧
      ((∃ ys, ys = sevs m ∧ J ys W') ∨ (∃ pre, pre <+: sevs m ∧ Jx pre W')) := by
  refine callsIn_of_wp Tryd.func55 rfl trivial ?_ rfl
  simp only [Tryd.ntmps55, List.size_toArray, List.length_cons, List.length_nil, Nat.reduceAdd, Nat.reduceSub, Array.replicate_succ, Array.replicate_zero, List.push_toArray, List.append_toArray, List.nil_append, List.cons_append]
  gi_wp2
  gi_loopw [3] (fun i wr => ∃ (pre : List (UInt8 × Bool)) (r k : Nat), i = .int .u64 r ∧ Hid (sevs m = pre ++ sevs r) ∧ J pre wr ∧ pre.length = k ∧ k ≤ 9 ∧ Hid (r * 128 ^ k < 18446744073709551616))
    (fun i _ => (intOf i).toNat)
  case atStart => exact ⟨[], m, 0, rfl, Lib.hid rfl, h0, rfl, by omega, Lib.hid (by simpa using hm)⟩
  case round =>
    obtain ⟨pre, r, k, rfl, HS, hJs, hpl, hk9, HR⟩ := hrel
    have hr64 : r < 18446744073709551616 := seven_lt HR.out
    by_cases hlt : r < 128
    · have h1 : ¬ (127 : Int) < r := by omega
      have HL : Hid (sevs m = pre ++ [(UInt8.ofNat r, true)]) := Lib.hid (by rw [HS.out, sevs_lo hlt])
      have hd0 := ofNat_toNat r (by omega)
      generalize UInt8.ofNat r = d at *
      have hd : d.toNat = r := hd0
      obtain ⟨fn, tmps, assign, body, hy, hR⟩ := hY pre (d, true) wr hJs (by omega)
      dsimp only at hy
      rw [hd] at hy
      clear hd0 hd
      clear hpl
      gi_wp2
      refine hR.mono ?_
      rintro e W3 (⟨rfl, hJ3, _⟩ | ⟨rfl, hJx3⟩)
      · gi_wp2
        go_end0
        exact ⟨⟨_, rfl⟩, .inl ⟨_, HL.out.symm, hJ3⟩⟩
      · gi_wp2
        go_end0
        exact ⟨⟨_, rfl⟩, .inr ⟨_, by rw [HL.out]; exact List.prefix_refl _, hJx3⟩⟩
    · have h1 : (127 : Int) < r := by omega
      have HL : Hid (sevs m = pre ++ [(UInt8.ofNat (r % 128), false)] ++ sevs (r / 128)) := Lib.hid (by rw [HS.out, sevs_hi hlt]; simp)
      have e7 := and127 r
      generalize UInt8.ofNat (r % 128) = d at *
      have e8 : (d.toNat : Int) % 256 = d.toNat := by have := d.toNat_lt; omega
      obtain ⟨fn, tmps, assign, body, hy, hR⟩ := hY pre (d, false) wr hJs (by omega)
      dsimp only at hy
      have hk8 : k + 1 ≤ 9 := seven_k HR.out (by omega)
      have HR' : Hid ((r / 128) * 128 ^ (k + 1) < 18446744073709551616) := Lib.hid (seven_next HR.out)
      have HP := Lib.hid hpl
      clear hpl
      gi_wp2
      refine hR.mono ?_
      rintro e W3 (⟨rfl, hJ3, _⟩ | ⟨rfl, hJx3⟩)
      · gi_wp2
        go_roundw
        case rel => exact ⟨_, r / 128, k + 1, by simp, HL, hJ3, by simp [HP.out], hk8, HR'⟩
        case measure => simp [intOf]; omega
      · gi_wp2
        refine bodyPost_ret (results_none rfl _ _ _) rfl ?_
        exact ⟨⟨_, rfl⟩, .inr ⟨_, by rw [HL.out]; exact List.prefix_append _ _, hJx3⟩⟩

/-- The number's digits, for a loop's body that keeps what lay below n₀. -/
theorem sevens_stops (n : Nat) (hn : 1 ≤ n) (Bn n₀ m : Nat) (hm : m < 18446744073709551616) (w : World) (hBn : Bn < w.heap.size) (hc : w.cell? ⟨Bn, 0, none⟩ = some (.int .u64 m)) :
    SeqStopsK Fence.wide n Tryd.prog 55 #[.pointer (some ⟨Bn, 0, none⟩)] (fun x : UInt8 × Bool => #[.int .u8 (x.1.toNat : Int), .bool x.2]) (Below n₀) (fun ys => ys = sevs m) (fun pre => pre <+: sevs m) 10 w := fun l J Jx W hW _ _ hY h0 =>
  sevens1_in n hn l Bn n₀ m hm J Jx hY W ((hW.cell (p := ⟨Bn, 0, none⟩) hBn).trans hc) h0
/-- Two blocks lie as they lay. -/
def Keeps2V (Ba Bb : Nat) (W W' : World) : Prop := W'.heap[Ba]? = W.heap[Ba]? ∧ W'.heap[Bb]? = W.heap[Bb]?
theorem keeps2_tV {Ba Bb : Nat} {A B C : World} (h : Keeps2V Ba Bb A B) (k : Keeps2V Ba Bb B C) : Keeps2V Ba Bb A C := ⟨k.1.trans h.1, k.2.trans h.2⟩
theorem keeps2_bV {Ba Bb B : Nat} (ha : Ba < B) (hb : Bb < B) (W : World) (l : Nat) (o o' : Obj) (hl : B ≤ l) (_ : W.heap[l]? = some o) (_ : o.isCells = false) (_ : o.isWalk = false) : Keeps2V Ba Bb W (W.putObj l o') :=
  ⟨World.putObj_heap_other (by omega), World.putObj_heap_other (by omega)⟩
theorem keeps2_setV {Ba Bb : Nat} (W : World) (p : Addr) (v : Value) (ha : Ba ≠ p.block) (hb : Bb ≠ p.block) : Keeps2V Ba Bb W (W.setCell p v) :=
  ⟨Below.heap_setCell W p v Ba ha, Below.heap_setCell W p v Bb hb⟩
theorem keeps2_drew {Ba Bb : Nat} {A B : World} (h : Keeps2V Ba Bb A B) : Keeps2V Ba Bb A B.drew := h
end Go.Proofs.YtbfchlfagdhglaaDoor
