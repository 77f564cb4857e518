import Derived.Test.YtbfchlfagdhglaaMG21
import Derived.Test.YtbfchlfagdhglaaMG12
import Derived.Deep.AppendLies
import Derived.RangeFuncBox
import Derived.RangeFuncNested
import Derived.RangeFuncBound
import Derived.RangeFuncCalls
import Derived.RangeFuncLeaves
import Derived.Shelf.Abstract
import Derived.OwnWalkIn
import Derived.TacticsInMore
import Derived.LoopNIn
import Derived.LoopIn
import Derived.Test.YtbfchlfagdhglaaMG2
import Derived.Laws.MakeOwn
import Derived.Laws.IdiomStrings
import Derived.Lib.BufferRead
import Derived.Maps.AppendAt
/- roar.Make. -/
namespace Go.Proofs.Ytbfchlfagdhglaa
open Go.RowKit
attribute [local go_sem] Oper.semAt_some

/-- The bitmap so far, in its box. -/
def MrI (w1 : World) (s : Bs) (m : Nat) (u : Value) (W : World) : Prop := Blk W w1.heap.size 24 #[u] ∧ W.ownsRow (w1.heap.size + 1) 54 3 u (ofTo s m).length (chsCells (ofTo s m)) ∧ Below w1.heap.size w1 W
theorem MrI.under {w1 A B : World} {s : Bs} {m : Nat} {u : Value} (h : MrI w1 s m u A) (hb : Below A.heap.size A B) : MrI w1 s m u B := ⟨h.1.under hb, own_under h.2.1 hb, h.2.2.trans (hb.mono h.2.2.size)⟩
theorem MrI.held {w1 A : World} {s : Bs} {m : Nat} {u : Value} (h : MrI w1 s m u A) : A.cell? ⟨w1.heap.size, 0, none⟩ = some u ∧ MrI w1 s m u A := ⟨h.1.cell 0, h⟩

/-- What the region holds. -/
def MrS (w1 : World) (u : Value) (W : World) : Prop := Blk W w1.heap.size 24 #[u] ∧ Below w1.heap.size w1 W
theorem MrS.under {w1 A B : World} {u : Value} (h : MrS w1 u A) (hb : Below A.heap.size A B) : MrS w1 u B := ⟨h.1.under hb, h.2.trans (hb.mono h.2.size)⟩
theorem MrS.held {w1 A : World} {u : Value} (h : MrS w1 u A) : A.cell? ⟨w1.heap.size, 0, none⟩ = some u ∧ MrS w1 u A := ⟨h.1.cell 0, h⟩
theorem MrS.grown {w1 A B : World} {u : Value} {row : Option Nat} (h : MrS w1 u A) (hg : A.grownBy B row) (hr : ∀ k, row = some k → w1.heap.size + 1 ≤ k) : MrS w1 u B :=
  ⟨(hg.block _ h.1.lt (fun e => by have := hr _ e.symm; omega)).trans h.1, h.2.grown hg h.2.size (fun k e => by have := hr k e; omega)⟩
theorem MrI.next {w1 w6 : World} {s : Bs} {m : Nat} {u v2 : Value} {c : Ch} (h : MrS w1 u w6) (hown : w6.ownsRow (w1.heap.size + 1) 54 3 v2 ((ofTo s m).length + 1) (chsCells (ofTo s m) ++ [.int .i64 c.1, .int .i64 c.2.1, .string ⟨c.2.2.toArray⟩])) (hT : ofTo s (m + 1) = ofTo s m ++ [c]) : MrI w1 s (m + 1) v2 (w6.setCell ⟨w1.heap.size, 0, none⟩ v2) := by
  refine ⟨h.1.set_ 0 v2, ?_, h.2.setCell (Nat.le_refl _) v2⟩
  rw [hT, List.length_append, chsCells_append, chsCells_one]
  exact rows_far hown (by simp) v2
theorem allGood_low (zs : List Int) (j : Nat) : AllGood (zsOf (lowL zs j)) := by
  intro z hz
  obtain ⟨n, hn, rfl⟩ := List.mem_map.1 hz
  have := lowL_small zs j n hn
  unfold goodZ; simp; omega

set_option maxRecDepth 100000 in
set_option maxHeartbeats 4000000 in
theorem make_roar (x : Option Addr) (len cap : Nat) (zs : List Int) (hlen : zs.length = len) (hcm : len ≤ 1000000) (w : World) (hI : Ints w.heap.size w (.slice x len cap) zs) :
    Calls Try.prog 10 #[.slice x len cap] w (RoarRes w (makeZ zs)) := by
  have HI := Lib.hid hI
  have HG := Lib.hid (@makeZ_good zs)
  have HB := Lib.hid (@makeZ_bad zs)
  have HN := Lib.hid hlen
  have HM0 := Lib.hid (MkC.start w)
  obtain ⟨i0, hi, hz0, hz1, hz2⟩ := info_parts info_int
  have HInf := Lib.hid hi; have HZ0 := Lib.hid hz0; have HZ1 := Lib.hid hz1; have HZ2 := Lib.hid hz2
  clear hI hi hz0 hz1 hz2
  obtain ⟨i1, hi, hz0, hz1, hz2⟩ := info_parts info_chunk
  have HInfC := Lib.hid hi; have HY0 := Lib.hid hz0; have HY1 := Lib.hid hz1; have HY2 := Lib.hid hz2
  clear hi hz0 hz1 hz2
  go_enter Try.func10, Try.ntmps10
  go_wp2
  generalize ((w.alloc (.cells #[.slice none 0 0] 24)).alloc (.cells Try.zeroCells55 55)) = w0 at *
  go_loopw [13] (fun i wr => ∃ k : Nat, k ≤ len ∧ i = .int .i64 (k : Nat) ∧ (∀ j, j < k → goodQ (zs[j]?.getD 0) = true) ∧ ∃ cs, MkC w (lowL (zs.take k)) cs wr) (fun i _ => len - (intOf i).toNat)
  case atStart => exact ⟨0, Nat.zero_le _, rfl, fun j hj => by omega, _, HM0.out⟩
  case round =>
    obtain ⟨k, hk, rfl, hgd, cs, hS⟩ := hrel
    clear HM0
    by_cases hlt : k < len
    · have hlt' : (k : Int) < len := by omega
      obtain ⟨bb, o, rfl, hb1, hc1⟩ := HI.out.at_ hlt
      have hd1 : wr.cell? ⟨bb, o + k, none⟩ = some (.int .i64 (zs[k]?.getD 0)) := (hS.2.2.2.2.2.cell (p := ⟨bb, o + k, none⟩) hb1).trans hc1
      clear hc1 hb1
      by_cases hgz : goodQ (zs[k]?.getD 0) = true
      · have hLt := fun j => lowL_take zs (k := k) (by rw [HN.out]; exact hlt) j
        have HGD : Hid (∀ j, j < k + 1 → goodQ (zs[j]?.getD 0) = true) := Lib.hid (fun j hj => by
          by_cases e : j = k
          · subst e; exact hgz
          · exact hgd j (by omega))
        have hLe := fun j => lowL_le (zs.take k) j
        have htl : (zs.take k).length ≤ len := by rw [List.length_take, HN.out]; omega
        generalize zs[k]?.getD 0 = z at *
        unfold goodQ at hgz
        simp only [Bool.and_eq_true, decide_eq_true_eq] at hgz
        obtain ⟨key, hkey⟩ : ∃ key : Nat, z / 256 = (key : Int) := ⟨(z / 256).toNat, by omega⟩
        obtain ⟨b, hbz⟩ : ∃ b : Nat, z % 256 = (b : Int) := ⟨(z % 256).toNat, by omega⟩
        have hk256 : key < 256 := by omega
        have hkI : (key : Int) < 256 := by omega
        have hz3 : ¬ z > 65535 := by omega
        have hz4 : ¬ z < 0 := by omega
        have hwu : IntKind.u8.wrap z = (b : Int) := by rw [← hbz]; simp [IntKind.wrap, IntKind.bits, IntKind.signed]
        have hwi : IntKind.i64.wrap (b : Int) = (b : Int) := by rw [IntKind.wrap_i64]; omega
        have HL : Hid (∀ j, lowL (zs.take (k + 1)) j = if j = key then lowL (zs.take k) key ++ [b] else lowL (zs.take k) j) := Lib.hid (fun j => by
          rw [hLt j]
          by_cases e : j = key
          · subst e; rw [if_pos hkey, if_pos rfl, hbz]; rfl
          · rw [if_neg (fun h => e (by omega)), if_neg e])
        have hcell := hS.at_ hk256
        have hrow := hS.2.2.2.1 key hk256
        have hlow := hLe key
        have hwr := hS.lt
        have HPut := Lib.hid (fun w4 v2 (hgr : (wr.alloc (.cells #[.int .i64 (b : Nat)] 3)).grownBy w4 (cs.getD key nilS).ownBlock) hown hob => MkC.put (v2 := v2) hS hk256 hgr hown hob HL.out)
        clear hS hgd hLt hLe
        generalize cs.getD key nilS = v at *
        go_wp2_with (first | (go_at_call 30; refine (key_any _ _).mono ?_; rintro e w' ⟨rfl, rfl⟩; rw [hkey]) | (at_builtin; refine wpList_append_own_at _ rfl _ _ 25 rfl (w.heap.size + 2) 3 i0 (.int .i64 0) 1 8 Try.underlying25 HInf.out HZ0.out HZ1.out HZ2.out rfl (by decide) _ _ _ rfl (hrow.alloc _) ⟨wr.heap.size, 0, none⟩ 1 1 [.int .i64 (b : Nat)] rfl rfl (cell_one_new _ _ _) (by simp [Value.oneCell']) (by unfold maxLen; omega) (by omega) (by simp; omega) ?_; intro v2 w5 hown5 hgr5 _ hob5; obtain ⟨e5, f5, hM5⟩ := HPut.out w5 v2 hgr5 hown5 hob5; obtain ⟨x2, k2, rfl⟩ := own_slice hown5; have HM5 := Lib.hid hM5; clear hM5 hown5 hgr5))
        go_roundw
        case rel => exact ⟨k + 1, by omega, by simp, HGD.out, _, HM5.out⟩
        case measure => simp [intOf]; omega
      · have hV := HB.out (not_allQ (by rw [HN.out]; omega) (Bool.eq_false_iff.2 hgz))
        have hb : zs[k]?.getD 0 < 0 ∨ (¬ zs[k]?.getD 0 < 0 ∧ zs[k]?.getD 0 > 65535) := by
          unfold goodQ at hgz
          simp only [Bool.and_eq_true, decide_eq_true_eq] at hgz
          omega
        have HV := Lib.hid hV
        generalize zs[k]?.getD 0 = z at *
        have c0 := hS.2.1.cell 0
        have f0 := hS.2.1.frozen 0
        dsimp at c0
        have hE := hS.2.1.set_ 0 (.slice none 0 0)
        have hD := hS.2.2.2.2.2.setCell (p := ⟨w.heap.size, 0, none⟩) (Nat.le_refl _) (.slice none 0 0)
        clear hgd hS hgz hV
        rcases hb with h1 | ⟨h1, h2⟩
        all_goals
          go_wp2
          exact ret_roar2 rfl rfl hE rfl (roar_none HV.out rfl hD)
    · obtain rfl : k = len := by omega
      have hge : ¬ (k : Int) < k := by omega
      have HV := Lib.hid (HG.out (allQ_of fun j hj => hgd j (by rw [HN.out] at hj; omega)))
      have HA : Hid (AllQ zs) := Lib.hid (allQ_of fun j hj => hgd j (by rw [HN.out] at hj; omega))
      rw [List.take_of_length_le (by rw [HN.out]; exact Nat.le_refl _)] at hS
      have hM1 := hS.under ((Below.refl _ wr).alloc (Nat.le_refl _) (.cells #[.slice none 0 0] 24))
      have hblk := hM1.2.2.1
      have hcs := hM1.1
      have HS := Lib.hid hS
      have HR0 : Hid (MrI wr (ofL zs) 0 (.slice none 0 0) (wr.alloc (.cells #[.slice none 0 0] 24))) := Lib.hid ⟨Blk.new wr _ _, ⟨rfl, .inl ⟨rfl, rfl⟩⟩, (Below.refl _ wr).alloc (Nat.le_refl _) _⟩
      clear hgd hS hM1
      go_wp2
      refine wp_load_row _ _ rfl _ rfl _ cs _ _ hblk Try.underlying55 rfl (by rw [hcs]; exact size_arr) ?_
      clear hblk
      have HCs := Lib.hid hcs
      clear hcs
      generalize wr = w1 at *
      go_wp2
      go_loopw [38] (fun i W => ∃ (m : Nat) (u : Value), m ≤ 256 ∧ i = .int .i64 (m : Nat) ∧ MrI w1 (ofL zs) m u W) (fun i _ => 256 - (intOf i).toNat)
      case atStart => exact ⟨0, _, by omega, rfl, HR0.out⟩
      case round =>
        obtain ⟨m, u, hm, rfl, hR⟩ := hrel
        clear HR0
        by_cases hlt2 : m < 256
        · have hlt3 : (m : Int) < 256 := by omega
          obtain ⟨y, cy, hy, hIy⟩ := row_ints rfl (HS.out.2.2.2.1 m hlt2)
          have hix := fun W => index_arr HCs.out hlt2 hy W
          by_cases hne : lowL zs m = []
          · have HT := Lib.hid (ofTo_low_none hne)
            have hl0 : (lowL zs m).length = 0 := by rw [hne]; rfl
            rw [hl0] at hix
            clear hIy hy hne
            have HR := Lib.hid hR
            clear hR
            go_wp2
            go_roundw
            case rel => exact ⟨m + 1, u, by omega, by simp, by unfold MrI; rw [HT.out]; exact HR.out⟩
            case measure => simp [intOf]; omega
          · have HT := Lib.hid (ofTo_low_some hne)
            have hl0 : 0 < (lowL zs m).length := List.length_pos_iff.2 hne
            have hl1 : (0 : Int) < ((lowL zs m).length : Nat) := by omega
            have hl2 : (lowL zs m).length ≤ 1000000 := by have := lowL_le zs m; rw [HN.out] at this; omega
            have HMd := Lib.hid (fun W hW => made_any (m : Nat) y (lowL zs m).length cy (zsOf (lowL zs m)) (zsOf_length _) (by omega) (in64_zsOf (lowL_small zs m)) (allGood_low zs m) W hW)
            have HS0 : Hid (MrS w1 u wr.drew) := Lib.hid ⟨hR.1.drew, hR.2.2.drew⟩
            have HIW : Hid (Ints wr.drew.heap.size wr.drew (.slice y (lowL zs m).length cy) (zsOf (lowL zs m))) := Lib.hid (ints_on hIy hR.2.2.drew)
            have HRow : Hid (wr.drew.ownsRow (w1.heap.size + 1) 54 3 u (ofTo (ofL zs) m).length (chsCells (ofTo (ofL zs) m))) := Lib.hid hR.2.1.drew
            have hol := ofTo_length (ofL zs) m
            have hqw : w1.heap.size < wr.drew.heap.size := hR.1.lt
            generalize bestF (ofL (zsOf (lowL zs m))) = f at *
            generalize bestD (ofL (zsOf (lowL zs m))) = d at *
            clear hR hIy hne hy
            go_wp2
            refine wp_region_M (m := 8) (S := fun W => W.cell? ⟨w1.heap.size, 0, none⟩ = some u ∧ MrS w1 u W) (by kernel_rfl) (HS0.out.held) (fun hH => ?_)
            generalize wr.drew = WD at *
            refine wpAnyM_take (by kernel_rfl) (i := 0) (by decide) (oi := { dst := some 45, op := Go.Op.fieldAddr 24 (Go.Operand.tmp 8) 0, type := 0, pos := "roar.go:58", after := #[], guard := none }) (v := ?_) rfl (by kernel_rfl) (by kernel_rfl) (by kernel_rfl) (fun _ _ _ h => h) (Or.inl ⟨by rfl, ?_⟩) hH ?_
            rotate_left
            · intro w hSw; (try dsimp only at hSw); go_simp; try with_reducible rfl
            try simp only [Act.put, List.setIfInBounds_toArray, List.set_cons_zero, List.set_cons_succ]
            refine wpAnyM_take (by kernel_rfl) (i := 1) (by decide) (oi := { dst := some 46, op := Go.Op.load 22 (Go.Operand.tmp 45), type := 22, pos := "roar.go:58", after := #[{ on := 0, ground := Go.Ground.data }], guard := none }) (v := ?_) rfl (by kernel_rfl) (by kernel_rfl) (by kernel_rfl) (fun _ _ _ h => h) (Or.inl ⟨by rfl, ?_⟩) hH ?_
            rotate_left
            · intro w hSw; (try dsimp only at hSw); go_simp; try with_reducible rfl
            try simp only [Act.put, List.setIfInBounds_toArray, List.set_cons_zero, List.set_cons_succ]
            refine wpAnyM_take (by kernel_rfl) (i := 2) (by decide) (oi := { dst := some 47, op := Go.Op.move (Go.Operand.tmp 9), type := 3, pos := "roar.go:58", after := #[], guard := none }) (v := ?_) rfl (by kernel_rfl) (by kernel_rfl) (by kernel_rfl) (fun _ _ _ h => h) (Or.inl ⟨by rfl, ?_⟩) hH ?_
            rotate_left
            · intro w hSw; (try dsimp only at hSw); go_simp; try with_reducible rfl
            try simp only [Act.put, List.setIfInBounds_toArray, List.set_cons_zero, List.set_cons_succ]
            refine wpAnyM_take (by kernel_rfl) (i := 3) (by decide) (oi := { dst := some 48, op := Go.Op.move (Go.Operand.tmp 10), type := 25, pos := "roar.go:58", after := #[], guard := none }) (v := ?_) rfl (by kernel_rfl) (by kernel_rfl) (by kernel_rfl) (fun _ _ _ h => h) (Or.inl ⟨by rfl, ?_⟩) hH ?_
            rotate_left
            · intro w hSw; (try dsimp only at hSw); go_simp; try with_reducible rfl
            try simp only [Act.put, List.setIfInBounds_toArray, List.set_cons_zero, List.set_cons_succ]
            refine wpAnyM_one (i := 4) (by decide) (o := { dst := some 49, op := Go.Op.call { callee := Go.Callee.value (Go.Operand.func 31), args := #[Go.Operand.tmp 47, Go.Operand.tmp 48], argTypes := #[3, 25] }, type := 54, pos := "roar.go:58", after := #[{ on := 2, ground := Go.Ground.data }, { on := 3, ground := Go.Ground.data }], guard := none }) (by kernel_rfl) rfl (fun K hK => ?_)
            go_simp
            go_at_call 31
            refine (HMd.out _ HIW.out).mono ?_
            rintro e w5 ⟨rfl, hb5⟩
            have hrow5 := own_under HRow.out hb5
            have hsz5 := hb5.size
            first | refine hK.out _ _ ((hH.2.under hb5).held) (fun hH4 => ?_) | (go_wp2_with fail; refine hK.out _ _ ((hH.2.under hb5).held) (fun hH4 => ?_))
            clear hK K hH
            try simp only [Act.put, List.setIfInBounds_toArray, List.set_cons_zero, List.set_cons_succ]
            refine wpAnyM_one (i := 5) (by decide) (o := { dst := some 50, op := Go.Op.buildSlice 22 1 #[(0, Go.Operand.tmp 49)], type := 22, pos := "roar.go:58", after := #[{ on := 4, ground := Go.Ground.data }], guard := none }) (by kernel_rfl) rfl (fun K hK => ?_)
            go_simp
            first | refine hK.out _ _ ((hH4.2.under ((Below.refl _ _).alloc (Nat.le_refl _) _)).held) (fun hH5 => ?_) | (go_wp2_with fail; refine hK.out _ _ ((hH4.2.under ((Below.refl _ _).alloc (Nat.le_refl _) _)).held) (fun hH5 => ?_))
            clear hK K hH4
            try simp only [Act.put, List.setIfInBounds_toArray, List.set_cons_zero, List.set_cons_succ]
            refine wpAnyM_one (i := 6) (by decide) (o := { dst := some 51, op := Go.Op.call { callee := Go.Callee.builtin Go.Builtin.append, args := #[Go.Operand.tmp 46, Go.Operand.tmp 50], argTypes := #[22, 22] }, type := 22, pos := "roar.go:58", after := #[{ on := 1, ground := Go.Ground.data }, { on := 5, ground := Go.Ground.data }, { on := 4, ground := Go.Ground.chain }], guard := none }) (by kernel_rfl) rfl (fun K hK => ?_)
            rw [if_pos (by rfl)]
            refine wp_append_lies (P := Try.prog) _ _ _ _ rfl (w1.heap.size + 1) 54 i1 (.agg #[.int .i64 0, .int .i64 0, .string ⟨#[]⟩]) 3 32 Try.underlying22 HInfC.out HY0.out HY1.out HY2.out rfl (by decide) _ _ _ rfl (hrow5.alloc _) ⟨w5.heap.size, 0, none⟩ 1 1 [.int .i64 (m : Nat), .int .i64 (f : Nat), .string ⟨d.toArray⟩] rfl rfl (cells_three w5 (.int .i64 (m : Nat)) (.int .i64 (f : Nat)) (.string ⟨d.toArray⟩) 54) (by simp [Value.oneCell']) (by decide) (by unfold maxLen; omega) (by omega) (by simp; omega) _ rfl ?_
            intro g' cap' w6 hown' hgrow hlie hlt6
            have hS6 := MrS.grown hH5.2 hgrow (fun k e => ((hrow5.alloc (.cells #[.int .i64 (m : Nat), .int .i64 (f : Nat), .string ⟨d.toArray⟩] 54)).lt k e).1)
            first | refine hK.out _ _ (hS6.held) (fun hH6 => ?_) | (go_wp2_with fail; refine hK.out _ _ (hS6.held) (fun hH6 => ?_))
            clear hK K hH5
            try simp only [Act.put, List.setIfInBounds_toArray, List.set_cons_zero, List.set_cons_succ]
            refine wpAnyM_take (by kernel_rfl) (i := 7) (by decide) (oi := { dst := some 52, op := Go.Op.fieldAddr 24 (Go.Operand.tmp 8) 0, type := 0, pos := "roar.go:58", after := #[{ on := 0, ground := Go.Ground.phase }, { on := 1, ground := Go.Ground.phase }, { on := 2, ground := Go.Ground.phase }, { on := 3, ground := Go.Ground.phase }, { on := 4, ground := Go.Ground.phase }, { on := 5, ground := Go.Ground.phase }, { on := 6, ground := Go.Ground.phase }], guard := none }) (v := ?_) rfl (by kernel_rfl) (by kernel_rfl) (by kernel_rfl) (fun _ _ _ h => h) (Or.inl ⟨by rfl, ?_⟩) hH6 ?_
            rotate_left
            · intro w hSw; (try dsimp only at hSw); go_simp; try with_reducible rfl
            try simp only [Act.put, List.setIfInBounds_toArray, List.set_cons_zero, List.set_cons_succ]
            have hf := hS6.1.frozen 0
            refine wpAnyM_last (by kernel_rfl) (o := { dst := none, op := Go.Op.store 22 (Go.Operand.tmp 52) (Go.Operand.tmp 51), type := 0, pos := "roar.go:58", after := #[{ on := 7, ground := Go.Ground.data }, { on := 6, ground := Go.Ground.data }, { on := 6, ground := Go.Ground.chain }, { on := 0, ground := Go.Ground.phase }, { on := 1, ground := Go.Ground.phase }, { on := 2, ground := Go.Ground.phase }, { on := 3, ground := Go.Ground.phase }, { on := 4, ground := Go.Ground.phase }, { on := 5, ground := Go.Ground.phase }, { on := 6, ground := Go.Ground.phase }], guard := none }) rfl (by kernel_rfl) (fun K hK => ?_)
            go_simp
            refine hK.out _ _ ?_
            clear hK K
            try simp only [Act.put, List.setIfInBounds_toArray, List.set_cons_zero, List.set_cons_succ]
            have HR2 : Hid (MrI w1 (ofL zs) (m + 1) (.slice (some ⟨g', 0, none⟩) ((ofTo (ofL zs) m).length + 1) cap') (w6.setCell ⟨w1.heap.size, 0, none⟩ (.slice (some ⟨g', 0, none⟩) ((ofTo (ofL zs) m).length + 1) cap'))) := Lib.hid (MrI.next hS6 hown' HT.out)
            clear hS6 hown' hgrow hlie hlt6 hf hrow5
            go_wp2
            go_roundw
            case rel => exact ⟨m + 1, _, by omega, by simp, HR2.out⟩
            case measure => simp [intOf]; omega
        · obtain rfl : m = 256 := by omega
          obtain ⟨x2, c2, rfl⟩ := own_slice hR.2.1
          have hge2 : ¬ ((256 : Nat) : Int) < 256 := by omega
          have c8 := hR.1.cell 0
          dsimp at c8
          have hB1 := HS.out.2.2.2.2.2.trans (hR.2.2.mono (by have := HS.out.lt; omega))
          have bR : Blk wr w.heap.size 24 #[.slice none 0 0] := (hR.2.2.block w.heap.size (by have := HS.out.lt; omega)).trans HS.out.2.1
          have c0 := bR.cell 0; have f0 := bR.frozen 0
          dsimp at c0
          have hq : w.heap.size < w1.heap.size + 1 := by have := HS.out.lt; omega
          obtain ⟨x3, c3, e3, h1, h2, h3, h4⟩ := own_chs (g := w.heap.size) (u := .slice x2 (ofS (ofL zs)).length c2) (r := ofS (ofL zs)) hR.2.1 hq
          cases e3
          have HE := Lib.hid (bR.set_ 0 (.slice x2 (ofS (ofL zs)).length c2))
          have HD := Lib.hid (hB1.setCell (p := ⟨w.heap.size, 0, none⟩) (Nat.le_refl _) (.slice x2 (ofS (ofL zs)).length c2))
          have H4 : Hid (∀ b o, x2 = some ⟨b, o, none⟩ → w.heap.size ≤ b) := Lib.hid (fun b o e => by have := h4 b o e; omega)
          have H3 := Lib.hid h3
          change 256 ≤ 256 at hm
          have HW : Hid (ofTo (ofL zs) 256 = ofS (ofL zs)) := Lib.hid rfl
          rw [HW.out] at c8
          clear hR hB1 bR h3 h4 hm
          go_wp2
          exact ret_roar2 rfl rfl HE.out rfl (roar_some HV.out rfl h1 h2 H3.out HD.out H4.out)
end Go.Proofs.Ytbfchlfagdhglaa
/- varint.sevens, the digits of a number; (*left).ahead, the next bytes: what they hand to a loop's body, for every body. -/
namespace Go.Proofs.Ytbfchlfagdhglaa
open Go.RowKit
attribute [local go_sem] Oper.semAt_some

theorem keeps_of_below {a w : World} (h : Below a.heap.size a w) : KeepsOthers a w := ⟨h.size, fun k _ hk _ => (h.block k (Array.getElem?_eq_some_iff.1 hk).1).trans hk⟩

/-- What an iterator leaves; hidden from the walk. -/
def SeqPostV {α : Type} (S Sp : List α → Prop) (J Jx : List α → World → Prop) (e : Ending) (W' : World) : Prop := (∃ v, e = .returned v) ∧ ((∃ ys, S ys ∧ J ys W') ∨ (∃ pre, Sp pre ∧ Jx pre W'))
theorem SeqPostV.all {α : Type} {S Sp : List α → Prop} {J Jx : List α → World → Prop} {v : Value} {W' : World} {ys : List α} (h : S ys) (hj : J ys W') : SeqPostV S Sp J Jx (.returned v) W' := ⟨⟨_, rfl⟩, .inl ⟨ys, h, hj⟩⟩
theorem SeqPostV.stop {α : Type} {S Sp : List α → Prop} {J Jx : List α → World → Prop} {v : Value} {W' : World} {ys : List α} (h : Sp ys) (hj : Jx ys W') : SeqPostV S Sp J Jx (.returned v) W' := ⟨⟨_, rfl⟩, .inr ⟨ys, h, hj⟩⟩

/-- The digits of n, seven by seven, and which ones are the last. -/
def sevs (n : Nat) : List (UInt8 × Bool) :=
  if n < 128 then [(UInt8.ofNat n, true)] else (UInt8.ofNat (n % 128), false) :: sevs (n / 128)
termination_by n
decreasing_by omega
theorem sevs_lo {n : Nat} (h : n < 128) : sevs n = [(UInt8.ofNat n, true)] := by rw [sevs, if_pos h]
theorem sevs_hi {n : Nat} (h : ¬ n < 128) : sevs n = (UInt8.ofNat (n % 128), false) :: sevs (n / 128) := by rw [sevs, if_neg h]
/-- Shifting n by k sevens. -/
def shr7 (n : Nat) : Nat → Nat
  | 0 => n
  | k + 1 => shr7 n k / 128

theorem and127 (r : Nat) : bits .and .u64 (r : Int) 127 = ((UInt8.ofNat (r % 128)).toNat : Int) := by
  rw [ofNat_toNat _ (by omega)]
  show IntKind.u64.wrap ((BitVec.ofInt 64 r &&& BitVec.ofInt 64 127).toNat : Int) = _
  rw [BitVec.toNat_and, BitVec.toNat_ofInt, BitVec.toNat_ofInt, u64_wrap, show (127 % ((2 ^ 64 : Nat) : Int)).toNat = 2 ^ 7 - 1 from rfl, Nat.and_two_pow_sub_one_eq_mod]
  omega

theorem wrap8 (r : Nat) (h : r < 256) : (r : Int) % 256 = ((UInt8.ofNat r).toNat : Int) := by
  rw [ofNat_toNat r h]
  omega
theorem seven_lt {r k : Nat} (h : r * 128 ^ k < 18446744073709551616) : r < 18446744073709551616 := Nat.lt_of_le_of_lt (Nat.le_mul_of_pos_right r (Nat.pow_pos (by decide))) h
theorem seven_k {r k : Nat} (h : r * 128 ^ k < 18446744073709551616) (hr : 128 ≤ r) : k + 1 ≤ 9 := by
  rcases Nat.lt_or_ge k 9 with h9 | h9
  · omega
  · have h1 : 128 * 128 ^ 9 ≤ r * 128 ^ k := Nat.mul_le_mul hr (Nat.pow_le_pow_right (by decide) h9)
    omega
theorem seven_next {r k : Nat} (h : r * 128 ^ k < 18446744073709551616) : (r / 128) * 128 ^ (k + 1) < 18446744073709551616 := by
  rw [Nat.pow_succ, Nat.mul_comm (128 ^ k), ← Nat.mul_assoc]
  exact Nat.lt_of_le_of_lt (Nat.mul_le_mul_right _ (Nat.div_mul_le_self r 128)) h

set_option maxHeartbeats 1000000 in
theorem sevens_any (n : Int) (w : World) :
    Calls Try.prog 81 #[.int .u64 n] w fun e w' => e = .returned (.func (.func 96) #[] #[.pointer (some ⟨w.heap.size, 0, none⟩)]) ∧ w' = w.alloc (.cells #[.int .u64 n] 86) := by
  go_enter Try.func81, Try.ntmps81
  go_wp2
  go_ret
  exact ⟨rfl, rfl⟩

set_option maxRecDepth 100000 in
set_option maxHeartbeats 2000000 in
theorem sevens1_in (n : Nat) (hn : 1 ≤ n) (l Bn n₀ m : Nat) (hm : m < 18446744073709551616) (J Jx : List (UInt8 × Bool) → World → Prop)
    (hY : ∀ pre x W, J pre W → pre.length < 10 → YieldAt Fence.wide (n - 1) Try.prog l #[.int .u8 (x.1.toNat : Int), .bool x.2] W fun e W' =>
      (e = .returned (.bool true) ∧ J (pre ++ [x]) W' ∧ Below n₀ W W') ∨ (e = .returned (.bool false) ∧ Jx (pre ++ [x]) W'))
    (W : World) (hc : W.cell? ⟨Bn, 0, none⟩ = some (.int .u64 m)) (h0 : J [] W) :
    CallsIn Fence.wide n Try.prog 96 #[.func (.yield l) #[] #[], .pointer (some ⟨Bn, 0, none⟩)] W fun e W' => (∃ v, e = .returned v) ∧
      ((∃ ys, ys = sevs m ∧ J ys W') ∨ (∃ pre, pre <+: sevs m ∧ Jx pre W')) := by
  refine callsIn_of_wp Try.func96 rfl trivial ?_ rfl
  simp only [Try.ntmps96, List.size_toArray, List.length_cons, List.length_nil, Nat.reduceAdd, Nat.reduceSub, Array.replicate_succ, Array.replicate_zero, List.push_toArray, List.append_toArray, List.nil_append, List.cons_append]
  gi_wp2
  gi_loopw [3] (fun i wr => ∃ (pre : List (UInt8 × Bool)) (r k : Nat), i = .int .u64 r ∧ Hid (sevs m = pre ++ sevs r) ∧ J pre wr ∧ pre.length = k ∧ k ≤ 9 ∧ Hid (r * 128 ^ k < 18446744073709551616))
    (fun i _ => (intOf i).toNat)
  case atStart => exact ⟨[], m, 0, rfl, Lib.hid rfl, h0, rfl, by omega, Lib.hid (by simpa using hm)⟩
  case round =>
    obtain ⟨pre, r, k, rfl, HS, hJs, hpl, hk9, HR⟩ := hrel
    have hr64 : r < 18446744073709551616 := seven_lt HR.out
    by_cases hlt : r < 128
    · have h1 : ¬ (127 : Int) < r := by omega
      have HL : Hid (sevs m = pre ++ [(UInt8.ofNat r, true)]) := Lib.hid (by rw [HS.out, sevs_lo hlt])
      have hd0 := ofNat_toNat r (by omega)
      generalize UInt8.ofNat r = d at *
      have hd : d.toNat = r := hd0
      obtain ⟨fn, tmps, assign, body, hy, hR⟩ := hY pre (d, true) wr hJs (by omega)
      dsimp only at hy
      rw [hd] at hy
      clear hd0 hd
      clear hpl
      gi_wp2
      refine hR.mono ?_
      rintro e W3 (⟨rfl, hJ3, _⟩ | ⟨rfl, hJx3⟩)
      · gi_wp2
        go_end0
        exact ⟨⟨_, rfl⟩, .inl ⟨_, HL.out.symm, hJ3⟩⟩
      · gi_wp2
        go_end0
        exact ⟨⟨_, rfl⟩, .inr ⟨_, by rw [HL.out]; exact List.prefix_refl _, hJx3⟩⟩
    · have h1 : (127 : Int) < r := by omega
      have HL : Hid (sevs m = pre ++ [(UInt8.ofNat (r % 128), false)] ++ sevs (r / 128)) := Lib.hid (by rw [HS.out, sevs_hi hlt]; simp)
      have e7 := and127 r
      generalize UInt8.ofNat (r % 128) = d at *
      have e8 : (d.toNat : Int) % 256 = d.toNat := by have := d.toNat_lt; omega
      obtain ⟨fn, tmps, assign, body, hy, hR⟩ := hY pre (d, false) wr hJs (by omega)
      dsimp only at hy
      have hk8 : k + 1 ≤ 9 := seven_k HR.out (by omega)
      have HR' : Hid ((r / 128) * 128 ^ (k + 1) < 18446744073709551616) := Lib.hid (seven_next HR.out)
      have HP := Lib.hid hpl
      clear hpl
      gi_wp2
      refine hR.mono ?_
      rintro e W3 (⟨rfl, hJ3, _⟩ | ⟨rfl, hJx3⟩)
      · gi_wp2
        go_roundw
        case rel => exact ⟨_, r / 128, k + 1, by simp, HL, hJ3, by simp [HP.out], hk8, HR'⟩
        case measure => simp [intOf]; omega
      · gi_wp2
        refine bodyPost_ret (results_none rfl _ _ _) rfl ?_
        exact ⟨⟨_, rfl⟩, .inr ⟨_, by rw [HL.out]; exact List.prefix_append _ _, hJx3⟩⟩

/-- The number's digits, for a loop's body that keeps what lay below n₀. -/
theorem sevens_stops (n : Nat) (hn : 1 ≤ n) (Bn n₀ m : Nat) (hm : m < 18446744073709551616) (w : World) (hBn : Bn < w.heap.size) (hc : w.cell? ⟨Bn, 0, none⟩ = some (.int .u64 m)) :
    SeqStopsK Fence.wide n Try.prog 96 #[.pointer (some ⟨Bn, 0, none⟩)] (fun x : UInt8 × Bool => #[.int .u8 (x.1.toNat : Int), .bool x.2]) (Below n₀) (fun ys => ys = sevs m) (fun pre => pre <+: sevs m) 10 w := fun l J Jx W hW _ _ hY h0 =>
  sevens1_in n hn l Bn n₀ m hm J Jx hY W ((hW.cell (p := ⟨Bn, 0, none⟩) hBn).trans hc) h0
/-- Two blocks lie as they lay. -/
def Keeps2V (Ba Bb : Nat) (W W' : World) : Prop := W'.heap[Ba]? = W.heap[Ba]? ∧ W'.heap[Bb]? = W.heap[Bb]?
theorem keeps2_tV {Ba Bb : Nat} {A B C : World} (h : Keeps2V Ba Bb A B) (k : Keeps2V Ba Bb B C) : Keeps2V Ba Bb A C := ⟨k.1.trans h.1, k.2.trans h.2⟩
theorem keeps2_bV {Ba Bb B : Nat} (ha : Ba < B) (hb : Bb < B) (W : World) (l : Nat) (o o' : Obj) (hl : B ≤ l) (_ : W.heap[l]? = some o) (_ : o.isCells = false) (_ : o.isWalk = false) : Keeps2V Ba Bb W (W.putObj l o') :=
  ⟨World.putObj_heap_other (by omega), World.putObj_heap_other (by omega)⟩
theorem keeps2_setV {Ba Bb : Nat} (W : World) (p : Addr) (v : Value) (ha : Ba ≠ p.block) (hb : Bb ≠ p.block) : Keeps2V Ba Bb W (W.setCell p v) :=
  ⟨Below.heap_setCell W p v Ba ha, Below.heap_setCell W p v Bb hb⟩
theorem keeps2_drew {Ba Bb : Nat} {A B : World} (h : Keeps2V Ba Bb A B) : Keeps2V Ba Bb A B.drew := h
end Go.Proofs.Ytbfchlfagdhglaa
/- varint.put: the varints of numbers, one behind the other; Put. -/
namespace Go.Proofs.Ytbfchlfagdhglaa
open Go.RowKit
attribute [local go_sem] Oper.semAt_some

/-- The byte that is put for seven digits: 128 more, if others follow. -/
def putB (x : UInt8 × Bool) : Int := if x.2 then (x.1.toNat : Int) else bits .or .u8 (x.1.toNat : Int) 128
def putVs (l : List (UInt8 × Bool)) : List Value := l.map fun x => Value.int .u8 (putB x)
def byteVsV (l : List UInt8) : List Value := l.map fun b => Value.int .u8 (b.toNat : Int)
theorem or128 (r : Nat) (h : r < 128) : bits .or .u8 (r : Int) 128 = ((128 + r : Nat) : Int) := by
  show IntKind.u8.wrap ((BitVec.ofInt 8 r ||| BitVec.ofInt 8 128).toNat : Int) = _
  have e : r ||| 128 = 128 + r := by
    rw [Nat.or_comm, show (128 : Nat) = 2 ^ 7 * 1 from rfl, ← Nat.two_pow_add_eq_or_of_lt (by simpa using h)]
  rw [BitVec.toNat_or, BitVec.ofInt_natCast, BitVec.toNat_ofNat, show (BitVec.ofInt 8 128).toNat = 128 from rfl, Nat.mod_eq_of_lt (by omega), e]
  simp [IntKind.wrap, IntKind.bits, IntKind.signed]
  omega
theorem putVs_sevs (n : Nat) : putVs (sevs n) = byteVsV (vput n) := by
  induction n using Nat.strongRecOn with
  | _ n ih =>
    by_cases h : n < 128
    · rw [sevs_lo h, vput_lo h]; rfl
    · rw [sevs_hi h, vput_hi h]
      show Value.int .u8 (putB (UInt8.ofNat (n % 128), false)) :: putVs (sevs (n / 128)) = Value.int .u8 _ :: byteVsV (vput (n / 128))
      rw [ih (n / 128) (by omega)]
      congr 2
      show bits .or .u8 ((UInt8.ofNat (n % 128)).toNat : Int) 128 = _
      rw [ofNat_toNat _ (by omega), or128 _ (by omega), ofNat_toNat _ (by omega)]
theorem byteVs_appendV (a b : List UInt8) : byteVsV (a ++ b) = byteVsV a ++ byteVsV b := by simp [byteVsV]
theorem byteVs_lengthV (a : List UInt8) : (byteVsV a).length = a.length := by simp [byteVsV]
theorem putVs_length (a : List (UInt8 × Bool)) : (putVs a).length = a.length := by simp [putVs]
theorem putVs_snoc (a : List (UInt8 × Bool)) (x : UInt8 × Bool) : putVs (a ++ [x]) = putVs a ++ [Value.int .u8 (putB x)] := by simp [putVs]
theorem sevs_length (n : Nat) : (sevs n).length = (vput n).length := by rw [← putVs_length, putVs_sevs, byteVs_lengthV]
/-- The bytes of numbers. -/
def vputs (ns : List Nat) : List UInt8 := ns.flatMap vput
theorem vputs_snoc (ns : List Nat) (n : Nat) : vputs (ns ++ [n]) = vputs ns ++ vput n := by simp [vputs]
theorem vputs_length (ns : List Nat) (h : ∀ n ∈ ns, n < 18446744073709551616) : (vputs ns).length ≤ 10 * ns.length := by
  induction ns with
  | nil => simp [vputs]
  | cons n ns ih =>
    have h1 := length_put (h n (List.mem_cons_self ..))
    have h2 := ih (fun m hm => h m (List.mem_cons_of_mem _ hm))
    simp only [vputs, List.flatMap_cons, List.length_append, List.length_cons] at h2 ⊢
    omega

/-- Marks among the deferred calls, of loops over functions, none of which deferred anything. -/
def marks (Ds : List Nat) : List Deferred := Ds.map fun D => { target := .collected D, args := #[] }
def Shut (Ds : List Nat) (w : World) : Prop := Ds.Nodup ∧ ∀ D ∈ Ds, w.heap[D]? = some (.deferred (some []))
theorem Shut.keeps {Ds : List Nat} {w w' : World} (h : Shut Ds w) (hk : KeepsOthers w w') : Shut Ds w' := ⟨h.1, fun D hD => hk.same D _ (h.2 D hD) rfl⟩
theorem Shut.lt {Ds : List Nat} {w : World} (h : Shut Ds w) : ∀ D ∈ Ds, D < w.heap.size := fun D hD => (Array.getElem?_eq_some_iff.1 (h.2 D hD)).1
theorem Shut.cons {Ds : List Nat} {w : World} {D : Nat} (h : Shut Ds w) (hD : w.heap[D]? = some (.deferred (some []))) (hne : ∀ E ∈ Ds, E < D) : Shut (D :: Ds) w :=
  ⟨List.nodup_cons.2 ⟨fun hm => Nat.lt_irrefl _ (hne D hm), h.1⟩, fun E hE => by
    rcases List.mem_cons.1 hE with rfl | hE
    · exact hD
    · exact h.2 E hE⟩
theorem shut_own {β : Type} {Ds : List Nat} {B : Nat} (h : ∀ D ∈ Ds, D < B) : OwnFrom B (fun (_ : β) W => Shut Ds W) := fun _ X Y row hs hg hr =>
  ⟨hs.1, fun D hD => (hg.block D (Array.getElem?_eq_some_iff.1 (hs.2 D hD)).1 (fun e => by
    have h1 := h D hD
    have h2 := (hr D e.symm).1
    omega)).trans (hs.2 D hD)⟩
/-- A function leaves over its marks: its result stands, and below n₀ nothing turns. -/
theorem leaves_marks {n : Nat} {P : Program} {fn : Func} {tmps : Array Value} {R : Ending → World → Prop} {v : Value} {n₀ : Nat} (hv : ∀ w, (results fn tmps).run P w = .ok v w) :
    ∀ (Ds : List Nat) (w : World), Shut Ds w → (∀ D ∈ Ds, n₀ ≤ D) → (∀ w', Below n₀ w w' → R (.returned v) w') → LeavesInM Fence.wide n P fn tmps R (marks Ds) .returning w
  | [], w, _, _, hR => ⟨v, hv w, hR w (Below.refl _ _)⟩
  | D :: Ds, w, hS, hn, hR => by
    have hD := hS.2 D (List.mem_cons_self ..)
    have hnd := List.nodup_cons.1 hS.1
    refine ⟨by simp, .inl ⟨D, _, rfl, run_takeDeferred hD, leaves_marks hv Ds _ ⟨hnd.2, fun E hE => ?_⟩ (fun E hE => hn E (List.mem_cons_of_mem _ hE)) (fun w' hb => hR w' ?_)⟩⟩
    · have hne : E ≠ D := fun e => hnd.1 (e ▸ hE)
      exact (World.putObj_heap_other (by omega)).trans (hS.2 E (List.mem_cons_of_mem _ hE))
    · have hDn := hn D (List.mem_cons_self ..)
      exact ((Below.refl n₀ w).grown (grownBy_putObj' w D (.deferred none)) (by have := (Array.getElem?_eq_some_iff.1 hD).1; omega) (fun k e => by cases e; omega)).trans hb

theorem info_u8V : (Try.prog.info? 5).map (fun i => (i.zero, i.size, i.bytes)) = some (some (.int .u8 0), 1, 1) := by kernel_rfl

theorem conv_ownV {wr : World} {n₀ : Nat} {v : Value} {l : List UInt8} (h : wr.ownsRow n₀ 5 1 v l.length (byteVsV l)) : (convert 84 9 v).run Try.prog wr = .ok (.string ⟨l.toArray⟩) wr := by
  rcases h.2 with ⟨rfl, h0⟩ | ⟨g, cap, cur, rfl, _⟩
  · obtain rfl : l = [] := List.eq_nil_of_length_eq_zero h0
    exact Lib.run_convert_nil_bytes wr _ _ _ 0 Try.underlying84 Try.underlying5 Try.underlying9
  · refine run_convert_bytes_back wr _ _ _ _ cap l Try.underlying84 Try.underlying5 Try.underlying9 (fun j hj => ?_)
    exact h.cells (g := g) rfl j _ (by simp [byteVsV, List.getElem?_eq_getElem hj])
theorem nums_get {ns : List Nat} (h : ∀ n ∈ ns, n < 18446744073709551616) (k : Nat) : ns.getD k 0 < 18446744073709551616 := by
  rw [List.getD_eq_getElem?_getD]
  cases e : ns[k]? with
  | none => decide
  | some n => exact h n (List.mem_of_getElem? e)
theorem vputs_take {ns : List Nat} {k : Nat} (h : k < ns.length) : vputs (ns.take (k + 1)) = vputs (ns.take k) ++ vput (ns.getD k 0) := by
  rw [List.take_succ_eq_append_getElem h, vputs_snoc, List.getD_eq_getElem?_getD, List.getElem?_eq_getElem h]; rfl
/-- What holds at the head of put's loop. -/
def PutInv (b len cap : Nat) (ns : List Nat) (w : World) (a : Act) (wr : World) : Prop := ∃ (k : Nat) (Ds : List Nat) (u5 u15 u16 u17 u18 u19 u30 : Value), k ≤ len ∧
  a = { tmps := #[.slice (some ⟨b, 0, none⟩) len cap, undef, .string ⟨#[]⟩, .pointer (some ⟨w.heap.size + 1, 0, none⟩), undef, u5, undef, undef, .slice (some ⟨b, 0, none⟩) len cap, .int .i64 len, .int .i64 (2 * (len : Int)), .slice (some ⟨w.heap.size, 0, none⟩) 0 (2 * len), .slice (some ⟨b, 0, none⟩) len cap, .int .i64 len, .int .i64 k, u15, u16, u17, u18, u19, undef, undef, undef, undef, undef, undef, undef, undef, undef, undef, u30, undef, undef], defers := marks Ds } ∧ Shut Ds wr ∧ (∀ D ∈ Ds, w.heap.size ≤ D) ∧
  (∃ v, Boxed wr (w.heap.size + 1) 84 v ∧ wr.ownsRow w.heap.size 5 1 v (vputs (ns.take k)).length (byteVsV (vputs (ns.take k)))) ∧ Below w.heap.size w wr

set_option maxRecDepth 100000 in
set_option maxHeartbeats 2000000 in
theorem put_anyV (b len cap : Nat) (ns : List Nat) (hlen : ns.length = len) (hns : ∀ n ∈ ns, n < 18446744073709551616) (hl : len ≤ 2000) (w : World) (hb : b < w.heap.size) (hc : ∀ j, j < len → w.cell? ⟨b, j, none⟩ = some (.int .u64 (ns.getD j 0 : Nat))) :
    Calls Try.prog 65 #[.slice (some ⟨b, 0, none⟩) len cap] w fun e w' => e = .returned (.string ⟨(vputs ns).toArray⟩) ∧ Below w.heap.size w w' := by
  obtain ⟨i0, hi, hz0, hz1, hz2⟩ := info_parts info_u8V
  have hmk : ∀ W : World, (Instr.makeSlice 84 (.int .i64 0) (.int .i64 (2 * (len : Int)))).run Try.prog W = .ok (.slice (some ⟨W.heap.size, 0, none⟩) 0 (2 * len)) (W.alloc (.cells (madeCells #[.int .u8 0] (2 * len)) 5)) := fun W => by
    have h := run_make (P := Try.prog) W 84 5 i0 (.int .u8 0) Try.underlying84 hi hz0 .i64 .i64 0 (2 * (len : Int)) (by omega) (by omega) (by rw [hz2]; omega) (by omega)
    rw [hz1] at h
    rw [h]
    have e : (2 * (len : Int)).toNat = 2 * len := by omega
    rw [e]
    simp [Value.cells]
  have HC := Lib.hid hc; have HN := Lib.hid hns; have HL := Lib.hid hlen
  have HI := Lib.hid hi; have HZ0 := Lib.hid hz0; have HZ1 := Lib.hid hz1; have HZ2 := Lib.hid hz2
  clear hc hns hlen hi hz0 hz1 hz2
  refine (callsIn_wide (n := 4)).1 ?_
  refine callsIn_of_wp_marks Try.func65 rfl trivial ?_ rfl
  simp only [Try.ntmps65, List.size_toArray, List.length_cons, List.length_nil, Nat.reduceAdd, Nat.reduceSub, Array.replicate_succ, Array.replicate_zero, List.push_toArray, List.append_toArray, List.nil_append, List.cons_append]
  gi_wp2
  refine wpIn_loop (PutInv b len cap ns w) (fun a _ => len - (intOf (a.tmps.getD 14 undef)).toNat) ?start ?round
  case start =>
    refine ⟨0, [], undef, undef, undef, undef, undef, undef, undef, Nat.zero_le _, rfl, ⟨List.nodup_nil, fun D h => by cases h⟩, (fun D h => by cases h), ⟨_, (by simpa using Boxed.new (w.alloc (.cells (madeCells #[.int .u8 0] (2 * len)) 5)) 84 (.slice (some ⟨w.heap.size, 0, none⟩) 0 (2 * len))), ?_⟩, ?_⟩
    · exact (World.ownsRow_made (base := w.heap.size) (e := 5) (size := 1) w (madeCells #[.int .u8 0] (2 * len)) (2 * len) (Nat.le_refl _) (by unfold maxLen; omega) (by simp [madeCells])).alloc _
    · exact ((Below.refl _ w).alloc (Nat.le_refl _) _).alloc (by simp) _
  case round =>
    rintro a wr ⟨k, Ds, u5, u15, u16, u17, u18, u19, u30, hk, rfl, hSh, hDs, ⟨v, hv, hrow⟩, hB⟩
    by_cases hlt : k < len
    · have hck : wr.cell? ⟨b, k, none⟩ = some (.int .u64 (ns.getD k 0 : Nat)) := (hB.cell (p := ⟨b, k, none⟩) hb).trans (HC.out k hlt)
      have hm64 : ns.getD k 0 < 18446744073709551616 := nums_get HN.out k
      have HS : Hid (vputs (ns.take (k + 1)) = vputs (ns.take k) ++ vput (ns.getD k 0)) := Lib.hid (vputs_take (by rw [HL.out]; exact hlt))
      have HM : (vputs (ns.take k)).length ≤ 20000 := by
        have h1 := vputs_length (ns.take k) (fun n hn => HN.out n (List.mem_of_mem_take hn))
        simp at h1
        omega
      generalize ns.getD k 0 = m at *
      gi_wp2_with (refine ⟨trivial, ?_⟩; gi_at_call 81; refine (callsIn_wide.2 (sevens_any _ _)).mono ?_; rintro e w' ⟨rfl, rfl⟩)
      have hW0 : Below wr.heap.size wr (wr.alloc (.cells #[.int .u64 m] 86)) := (Below.refl _ wr).alloc (Nat.le_refl _) _
      have hbx := (Boxed.new wr 86 (.int .u64 m)).cell
      have hv0 := hv.alloc (.cells #[.int .u64 m] 86)
      have hrow0 := hrow.alloc (.cells #[.int .u64 m] 86)
      have hSh0 : Shut Ds (wr.alloc (.cells #[.int .u64 m] 86)) := hSh.keeps (KeepsOthers.alloc _ _)
      have hB0 := hB.alloc hB.size (.cells #[.int .u64 m] 86)
      have hsz : (wr.alloc (.cells #[.int .u64 m] 86)).heap.size = wr.heap.size + 1 := by simp
      have hDl := hSh0.lt
      have hwn := hB.size
      generalize wr.alloc (.cells #[.int .u64 m] 86) = W0 at *
      refine wpIn_rangeFunc_ownF (n := 4) rfl (by decide) (gf := 96) (lb := #[.pointer (some ⟨wr.heap.size, 0, none⟩)]) rfl trivial (enters_of Try.func96 (by kernel_rfl) rfl)
        (sevens_stops 3 (by decide) wr.heap.size w.heap.size m hm64 W0 (by omega) hbx) belowK_t (belowK_b (by omega)) (Below.refl _ _) (fun _ => rfl)
        (fun pre W => ((∃ v, Boxed W (w.heap.size + 1) 84 v ∧ W.ownsRow w.heap.size 5 1 v ((vputs (ns.take k)).length + pre.length) (byteVsV (vputs (ns.take k)) ++ putVs pre) ∧ True) ∧ Shut Ds W) ∧ Below w.heap.size w W)
        (fun _ _ _ => False)
        (OwnFrom.and (OwnFrom.and (Own.from (holdsRow_own w.heap.size (w.heap.size + 1) 84 5 1 (fun pre => (vputs (ns.take k)).length + pre.length) (fun pre => byteVsV (vputs (ns.take k)) ++ putVs pre) (fun _ _ => True)) _) (shut_own hDl)) (ownFrom_below (Nat.le_refl _) (by omega)))
        (fun _ _ _ _ _ hs _ _ => hs)
        ⟨⟨⟨v, hv0, by simpa [putVs] using hrow0, trivial⟩, hSh0⟩, hB0⟩
        (fun x => { tmps := #[.slice (some ⟨b, 0, none⟩) len cap, undef, .string ⟨#[]⟩, .pointer (some ⟨w.heap.size + 1, 0, none⟩), undef, .int .u64 m, .int .u8 (x.1.toNat : Int), .bool x.2, .slice (some ⟨b, 0, none⟩) len cap, .int .i64 len, .int .i64 (2 * (len : Int)), .slice (some ⟨w.heap.size, 0, none⟩) 0 (2 * len), .slice (some ⟨b, 0, none⟩) len cap, .int .i64 len, .int .i64 k, .bool true, .pointer (some ⟨b, k, none⟩), .int .u64 m, .int .u64 m, .func (.func 96) #[] #[.pointer (some ⟨wr.heap.size, 0, none⟩)], .int .u8 (x.1.toNat : Int), .bool x.2, undef, undef, undef, undef, undef, undef, undef, undef, u30, undef, undef], defers := [] }) ?assign ?body ?done ?stop
      case assign =>
        intro l x W K hK
        gi_wp2
        exact hK
      case body =>
        rintro l pre ⟨d, la⟩ W ⟨⟨⟨v, hv, hrow, _⟩, hSh⟩, hB⟩ hlt10
        have hc := hv.cell
        cases la
        · dsimp only
          gi_wp2_with (gi_at_builtin; refine wpListIn_append_own _ rfl _ _ 84 rfl w.heap.size 5 i0 (.int .u8 0) 1 1 Try.underlying84 HI.out HZ0.out HZ1.out HZ2.out rfl (by decide) _ _ _ rfl (hrow.alloc _) ⟨W.heap.size, 0, none⟩ 1 1 [.int .u8 (bits .or .u8 (d.toNat : Int) 128)] rfl rfl (cell_one_new _ _ _) (by simp [Value.oneCell']) (by unfold maxLen; omega) (by omega) (by have := hB.size; simp; omega) ?_; intro v' w1 hown' hgrow _; obtain ⟨g', cap', rfl⟩ := ownsRow_succ hown'; obtain ⟨hv1, hv2, hr2, hk2, hb2⟩ := hv.appended (by decide) hrow hB.size (by omega) hown' hgrow; have hc1 := hv1.cell; have hf1 := hv1.frozen)
          exact ⟨hk2, hb2, ⟨⟨_, hv2, by rw [putVs_snoc]; simpa [Nat.add_assoc, putB] using hr2, trivial⟩, hSh.keeps hk2⟩, hB.trans hb2⟩
        · dsimp only
          gi_wp2_with (gi_at_builtin; refine wpListIn_append_own _ rfl _ _ 84 rfl w.heap.size 5 i0 (.int .u8 0) 1 1 Try.underlying84 HI.out HZ0.out HZ1.out HZ2.out rfl (by decide) _ _ _ rfl (hrow.alloc _) ⟨W.heap.size, 0, none⟩ 1 1 [.int .u8 (d.toNat : Int)] rfl rfl (cell_one_new _ _ _) (by simp [Value.oneCell']) (by unfold maxLen; omega) (by omega) (by have := hB.size; simp; omega) ?_; intro v' w1 hown' hgrow _; obtain ⟨g', cap', rfl⟩ := ownsRow_succ hown'; obtain ⟨hv1, hv2, hr2, hk2, hb2⟩ := hv.appended (by decide) hrow hB.size (by omega) hown' hgrow; have hc1 := hv1.cell; have hf1 := hv1.frozen)
          exact ⟨hk2, hb2, ⟨⟨_, hv2, by rw [putVs_snoc]; simpa [Nat.add_assoc, putB] using hr2, trivial⟩, hSh.keeps hk2⟩, hB.trans hb2⟩
      case done =>
        rintro D ys W hD rfl ⟨⟨⟨v, hv, hrow, _⟩, hSh⟩, hB⟩ hK
        gi_wp2
        refine ⟨⟨k + 1, D :: Ds, _, _, _, _, _, _, _, by omega, rfl, hSh.cons hK (fun E hE => by have := hDl E hE; omega), ?_, ⟨v, hv, ?_⟩, hB⟩, ?_⟩
        · intro E hE
          rcases List.mem_cons.1 hE with rfl | hE
          · omega
          · exact hDs E hE
        · rw [HS.out, byteVs_appendV, ← putVs_sevs, List.length_append, ← sevs_length]
          exact hrow
        · simp [intOf]; omega
      case stop =>
        rintro D c pre W _ _ h _
        exact h.elim
    · have hkl : k = len := by omega
      have hcv := conv_ownV hrow
      rw [hkl, ← HL.out, List.take_length] at hcv
      have hc := hv.cell
      have hge : ¬ (k : Int) < len := by omega
      clear hkl
      gi_wp2
      exact leaves_marks (v := .string ⟨(vputs ns).toArray⟩) (fun w => results_tmp (t := 2) rfl _ _ _) Ds wr hSh hDs (fun w' hb => ⟨rfl, hB.trans hb⟩)

set_option maxRecDepth 100000 in
set_option maxHeartbeats 1000000 in
/-- Put: the varint of n. -/
theorem put1_any (n : Nat) (h : n < 18446744073709551616) (w : World) :
    Calls Try.prog 49 #[.int .u64 n] w fun e w' => e = .returned (.string ⟨(vput n).toArray⟩) ∧ Below w.heap.size w w' := by
  have hp := put_anyV w.heap.size 1 1 [n] rfl (by simpa using h) (by decide) (w.alloc (.cells #[.int .u64 n] 86)) (by simp) (fun j hj => by
    obtain rfl : j = 0 := by omega
    simp)
  rw [show vputs [n] = vput n by simp [vputs]] at hp
  have HP := Lib.hid hp
  clear hp
  go_enter Try.func49, Try.ntmps49
  go_wp2_with (go_at_call 65; refine HP.out.mono ?_; rintro e w' ⟨rfl, hb⟩)
  go_ret
  exact ⟨rfl, ((Below.refl _ w).alloc (Nat.le_refl _) _).trans (hb.mono (by simp))⟩
end Go.Proofs.Ytbfchlfagdhglaa
