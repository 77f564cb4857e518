/- Lists of texts: few; the document's Join, Split, Texts. -/
import Derived.Test.YtkjiinhcmhoejaaDoorFRead
import Derived.Deep.AppendLies
import Derived.Deep.RegionHeld3
import Derived.Maps.AppendAt
import Derived.Laws.OwnMore
namespace Go.Proofs.YtkjiinhcmhoejaaDoor
open Go.RowKit

theorem info_str : (Tryd.prog.info? 9).map (fun i => (i.zero, i.size, i.bytes)) = some (some (.string ⟨#[]⟩), 1, 16) := by kernel_rfl
def strVs (ls : List (List UInt8)) : List Value := ls.map fun l => Value.string ⟨l.toArray⟩
theorem strVs_snoc (ls : List (List UInt8)) (l : List UInt8) : strVs (ls ++ [l]) = strVs ls ++ [Value.string ⟨l.toArray⟩] := by simp [strVs]
theorem strVs_length (ls : List (List UInt8)) : (strVs ls).length = ls.length := by simp [strVs]
/-- Texts in a row that the call owns. -/
abbrev OwnS (n₀ : Nat) (W : World) (v : Value) (ls : List (List UInt8)) : Prop := W.ownsRow n₀ 9 1 v ls.length (strVs ls)
theorem strs_own {n₀ : Nat} {W : World} {v : Value} {ls : List (List UInt8)} (h : OwnS n₀ W v ls) : Strs W.heap.size W v ls ∧ ∃ x cap, v = .slice x ls.length cap := by
  rcases h.2 with ⟨rfl, h0⟩ | ⟨g, cap, cur, rfl, _⟩
  · have : ls = [] := List.eq_nil_of_length_eq_zero h0
    subst this
    exact ⟨.inl ⟨⟨none, 0, rfl⟩, rfl⟩, none, 0, rfl⟩
  · refine ⟨.inr ⟨g, 0, cap, rfl, (h.lt g rfl).2, fun j hj => ?_⟩, _, cap, rfl⟩
    have := h.cells (g := g) rfl j (.string ⟨(ls[j]?.getD []).toArray⟩) (by simp [strVs, List.getElem?_map, List.getElem?_eq_getElem hj])
    rw [Nat.zero_add]
    rwa [show (⟨g, 0, none⟩ : Addr).add j = ⟨g, j, none⟩ by unfold Addr.add; split <;> simp_all] at this

/-- The first twenty texts, of at most three hundred bytes. -/
def fewS (ls : List (List UInt8)) : List (List UInt8) := (ls.take 20).map (·.take 300)
theorem fewS_length (ls : List (List UInt8)) : (fewS ls).length = min ls.length 20 := by simp [fewS]; omega
theorem fewS_le (ls : List (List UInt8)) : ∀ l ∈ fewS ls, l.length ≤ 300 := by
  intro l hl
  obtain ⟨x, _, rfl⟩ := List.mem_map.1 hl
  exact List.length_take_le _ _
theorem few_snoc {ls : List (List UInt8)} {k : Nat} (h : k < ls.length) (h2 : k < 20) : ((ls.take 20).take (k + 1)).map (·.take 300) = ((ls.take 20).take k).map (·.take 300) ++ [(ls[k]?.getD []).take 300] := by
  have h' : k < (ls.take 20).length := by rw [List.length_take]; omega
  rw [List.take_succ_eq_append_getElem h', List.map_append, List.getElem?_eq_getElem h]
  simp

set_option maxRecDepth 100000 in
set_option maxHeartbeats 4000000 in
theorem few_any (x : Option Addr) (len cap : Nat) (ls : List (List UInt8)) (hlen : ls.length = len) (hcm : len ≤ 9223372036854775807) (hls : ∀ j : Nat, (ls[j]?.getD []).length ≤ 9223372036854775807) (w : World) (hI : Strs w.heap.size w (.slice x len cap) ls) :
    Calls Tryd.prog 19 #[.slice x len cap] w fun e w' => ∃ v, e = .returned v ∧ OwnS w.heap.size w' v (fewS ls) ∧ Below w.heap.size w w' := by
  obtain ⟨i0, hi, hz0, hz1, hz2⟩ := info_parts info_str
  have HI0 := Lib.hid hi; have HZ0 := Lib.hid hz0; have HZ1 := Lib.hid hz1; have HZ2 := Lib.hid hz2
  have HL := Lib.hid hlen; have HLS := Lib.hid hls; have HI := Lib.hid hI
  clear hi hz0 hz1 hz2 hlen hls hI
  go_enter Tryd.func19, Tryd.ntmps19
  go_wp2
  go_loopw [3, 4] (fun v i wr => ∃ k : Nat, k ≤ len ∧ k ≤ 20 ∧ i = .int .i64 k ∧ Hid (OwnS w.heap.size wr v (((ls.take 20).take k).map (·.take 300))) ∧ Below w.heap.size w wr)
    (fun _ i _ => len - (intOf i).toNat)
  case atStart => exact ⟨0, Nat.zero_le _, by decide, rfl, Lib.hid (World.ownsRow_nil w _ _ _), Below.refl _ _⟩
  case round =>
    obtain ⟨k, hk, hk20, rfl, HO, hB⟩ := hrel
    by_cases hlt : k < len
    · by_cases hlt2 : k < 20
      · obtain ⟨b, off, rfl, hb, hcell⟩ := HI.out.at_ hlt
        have hc1 : wr.cell? ⟨b, off + k, none⟩ = some (.string ⟨(ls[k]?.getD []).toArray⟩) := (hB.cell (p := ⟨b, off + k, none⟩) hb).trans hcell
        have HN := Lib.hid (few_snoc (ls := ls) (k := k) (by rw [HL.out]; exact hlt) hlt2)
        have htl := HLS.out k
        clear hcell
        have hkl : (((ls.take 20).take k).map (·.take 300)).length = k := by simp; have := HL.out; omega
        have hown := HO.out
        unfold OwnS at hown
        rw [hkl] at hown
        generalize ls[k]?.getD [] = t at *
        generalize ((ls.take 20).take k).map (·.take 300) = acc at *
        have hlt' : (k : Int) < len := by omega
        have hlt2' : (k : Int) < 20 := by omega
        obtain ⟨m, hm⟩ : ∃ m : Nat, m = min t.length 300 := ⟨_, rfl⟩
        have hx : (ByteArray.mk t.toArray).extract 0 m = ⟨(t.take 300).toArray⟩ := (ext_mk t 0 m).trans (mk_str (by
          rw [List.drop_zero, hm]
          rcases Nat.le_total t.length 300 with h | h
          · rw [Nat.min_eq_left h, List.take_length, List.take_of_length_le h]
          · rw [Nat.min_eq_right h]))
        have hm1 : min (t.length : Int) 300 = (m : Int) := by omega
        have hm2 : (m : Int) ≤ t.length := by omega
        clear hm
        have hr : wr.drew.cell? ⟨b, off + k, none⟩ = some (.string ⟨t.toArray⟩) := hc1
        have hra : ∀ o : Obj, (wr.alloc o).drew.cell? ⟨b, off + k, none⟩ = some (.string ⟨t.toArray⟩) := fun o => (((Below.refl w.heap.size wr).alloc hB.size o).cell (p := ⟨b, off + k, none⟩) hb).trans hc1
        generalize t.take 300 = t3 at *
        have hownA : ((wr.alloc (.cells #[.string ⟨t3.toArray⟩] 9)).drew).ownsRow w.heap.size 9 1 _ k (strVs acc) := hown.alloc _
        have hBA : Below w.heap.size w ((wr.alloc (.cells #[.string ⟨t3.toArray⟩] 9)).drew) := (hB.alloc hB.size _).drew
        have hnews : ∀ j u, [Value.string ⟨t3.toArray⟩][j]? = some u → ((wr.alloc (.cells #[.string ⟨t3.toArray⟩] 9)).drew).cell? ((⟨wr.heap.size, 0, none⟩ : Addr).add j) = some u := World.news_of_block (cs := #[.string ⟨t3.toArray⟩]) (Blk.new wr 9 #[.string ⟨t3.toArray⟩]).drew
        go_wp2
        go_region_held3 (fun W => W.cell? ⟨b, off + k, none⟩ = some (.string ⟨t.toArray⟩)) (first | exact hr | exact hra _ | assumption)
          (first | (refine step_append_lies _ rfl (.tmp 15) (.tmp 27) 32 rfl w.heap.size 9 i0 (.string ⟨#[]⟩) 1 16 Tryd.underlying32 HI0.out HZ0.out HZ1.out HZ2.out rfl (by decide) _ _ _ rfl hownA ⟨wr.heap.size, 0, none⟩ 1 1 [.string ⟨t3.toArray⟩] rfl rfl hnews (by simp [Value.oneCell']) (by decide) (by unfold maxLen; omega) (by omega) hBA.size _ rfl ?_; intro g cap2 w2 hown2 hgrow2 _ _; have hB2 : Below w.heap.size w w2 := hBA.grown hgrow2 hBA.size (fun j e => (hown.lt j e).1); have hc2 : w2.cell? ⟨b, off + k, none⟩ = some (.string ⟨t.toArray⟩) := (((Below.refl w.heap.size _).grown hgrow2 hBA.size (fun j e => (hown.lt j e).1)).cell (p := ⟨b, off + k, none⟩) hb).trans (hra _)))
        all_goals
          go_wp2
          go_roundw
          case rel =>
            refine ⟨k + 1, by omega, by omega, by simp, Lib.hid ?_, hB2⟩
            rw [HN.out]
            unfold OwnS
            rw [List.length_append, hkl, strVs_snoc]
            exact hown2
          case measure => simp [intOf]; omega
      · have hge : ¬ (k : Int) < 20 := by omega
        have hlt' : (k : Int) < len := by omega
        have HE : Hid (((ls.take 20).take k).map (·.take 300) = fewS ls) := Lib.hid (by rw [List.take_of_length_le (by rw [List.length_take]; omega)]; rfl)
        go_wp2
        go_ret
        exact ⟨_, rfl, by rw [← HE.out]; exact HO.out, hB⟩
    · have hge : ¬ (k : Int) < len := by omega
      have HE : Hid (((ls.take 20).take k).map (·.take 300) = fewS ls) := Lib.hid (by rw [List.take_of_length_le (by rw [List.length_take, HL.out]; omega)]; rfl)
      go_wp2
      go_ret
      exact ⟨_, rfl, by rw [← HE.out]; exact HO.out, hB⟩

set_option maxRecDepth 100000 in
set_option maxHeartbeats 4000000 in
theorem join_ref (x : Option Addr) (len cap : Nat) (ls : List (List UInt8)) (hlen : ls.length = len) (hs : ∀ j : Nat, (ls[j]?.getD []).length ≤ 60000) (hl : len ≤ 100000) (w : World) (hI : Strs w.heap.size w (.slice x len cap) ls) :
    Calls Tryd.prog 20 #[.slice x len cap] w fun e w' => e = .returned (.tuple #[.string ⟨(joinB ls).toArray⟩, .int .i64 0]) ∧ Below w.heap.size w w' := by
  have HL := Lib.hid hlen; have HS := Lib.hid hs; have HI := Lib.hid hI
  clear hlen hs hI
  go_enter Tryd.func20, Tryd.ntmps20
  go_wp2
  go_loopw [4, 5] (fun v i wr => ∃ (k : Nat) (p : List UInt8), k ≤ len ∧ i = .int .i64 k ∧ v = .string ⟨p.toArray⟩ ∧ Hid (p = joinB (ls.take k)) ∧ Hid (p.length ≤ 60008 * k) ∧ Below w.heap.size w wr)
    (fun _ i _ => len - (intOf i).toNat)
  case atStart => exact ⟨0, [], Nat.zero_le _, rfl, rfl, Lib.hid rfl, Lib.hid (by decide), Below.refl _ _⟩
  case round =>
    obtain ⟨k, p, hk, rfl, rfl, HP, HJ, hB⟩ := hrel
    by_cases hlt : k < len
    · obtain ⟨b, off, rfl, hb, hcell⟩ := HI.out.at_ hlt
      have hc1 := (hB.cell (p := ⟨b, off + k, none⟩) hb).trans hcell
      have HN : Hid (joinB (ls.take (k + 1)) = p ++ frameB (ls[k]?.getD [])) := Lib.hid (by rw [take_snoc (by rw [HL.out]; exact hlt), joinB_snoc, HP.out])
      have ht := HS.out k
      clear hcell
      generalize ls[k]?.getD [] = t at *
      have hlt' : (k : Int) < len := by omega
      have hpl : p.length ≤ 60008 * 100000 := Nat.le_trans HJ.out (Nat.mul_le_mul_left _ (by omega))
      have hfl := frameB_length t
      have HM := Lib.hid (make_ref t ht)
      have hadd : ∀ W : World, (Op.stringOp .add ⟨p.toArray⟩ ⟨(frameB t).toArray⟩).run Tryd.prog W = .ok (.string ⟨(p ++ frameB t).toArray⟩) W := fun W => by
        rw [run_string_add_sum W _ _ (by simp [ByteArray.size]; omega), app_mk]
      have HJ2 : Hid ((p ++ frameB t).length ≤ 60008 * (k + 1)) := Lib.hid (by rw [List.length_append, hfl]; have := HJ.out; omega)
      clear hfl hpl
      generalize frameB t = f at *
      generalize p ++ f = q at *
      go_wp2_with fail
      refine (HM.out _).mono ?_
      rintro e w1 ⟨rfl, hb1⟩
      go_wp2
      go_roundw
      case rel => exact ⟨k + 1, q, by omega, by simp, rfl, Lib.hid HN.out.symm, HJ2, hB.trans (hb1.mono hB.size)⟩
      case measure => simp [intOf]; omega
    · obtain rfl : k = len := by omega
      have HE : Hid (p = joinB ls) := Lib.hid (by rw [HP.out, ← HL.out, List.take_length])
      go_wp2
      go_ret2
      exact ⟨by rw [← HE.out]; rfl, hB⟩

set_option maxRecDepth 100000 in
set_option maxHeartbeats 2000000 in
theorem texts_same (x1 x2 : Option Addr) (len c1 c2 : Nat) (ls : List (List UInt8)) (hlen : len ≤ 9223372036854775807) (w : World) (h1 : Strs w.heap.size w (.slice x1 len c1) ls) (h2 : Strs w.heap.size w (.slice x2 len c2) ls) :
    Calls Tryd.prog 23 #[.slice x1 len c1, .slice x2 len c2] w fun e w' => e = .returned (.bool true) ∧ Below w.heap.size w w' := by
  go_enter Tryd.func23, Tryd.ntmps23
  go_wp2
  go_loopw [5] (fun i wr => ∃ k : Nat, k ≤ len ∧ i = .int .i64 k ∧ Below w.heap.size w wr) (fun i _ => len - (intOf i).toNat)
  case atStart => exact ⟨0, Nat.zero_le _, rfl, Below.refl _ _⟩
  case round =>
    obtain ⟨k, hk, rfl, hB⟩ := hrel
    by_cases hlt : k < len
    · obtain ⟨b1, o1, rfl, hb1, hc1⟩ := h1.at_ hlt
      obtain ⟨b2, o2, rfl, hb2, hc2⟩ := h2.at_ hlt
      have hd1 := (hB.cell (p := ⟨b1, o1 + k, none⟩) hb1).trans hc1
      have hd2 := (hB.cell (p := ⟨b2, o2 + k, none⟩) hb2).trans hc2
      generalize ls[k]?.getD [] = z at *
      have hlt' : (k : Int) < len := by omega
      clear hc1 hc2
      go_wp2
      go_region
      all_goals
        go_wp2
        go_roundw
        case rel => exact ⟨k + 1, by omega, by simp, hB.drew⟩
        case measure => simp [intOf]; omega
    · obtain rfl : k = len := by omega
      have hge : ¬ (k : Int) < k := by omega
      go_wp2
      go_ret
      exact ⟨rfl, hB⟩

theorem grownBy_of_below {a w : World} (h : Below a.heap.size a w) (row : Option Nat) : a.grownBy w row := ⟨h.os, h.tape, h.output, h.size, fun i hi _ => h.block i hi⟩
theorem own_below {n₀ : Nat} {W W' : World} {v : Value} {ls : List (List UInt8)} (h : OwnS n₀ W v ls) (hb : Below W.heap.size W W') : OwnS n₀ W' v ls :=
  h.kept (grownBy_of_below hb none) (by
    cases e : v.ownBlock with
    | none => exact .inl rfl
    | some g => exact .inr (by simp))
/-- The texts of the frames that s begins with, up to what is none; what is told of the rest: 0, or the number of what is wrong. -/
def slist (s : List UInt8) : List (List UInt8) := if h : rcode s = 0 then rbytes s :: slist (s.drop (8 + num4 s)) else []
termination_by s.length
decreasing_by have := rcode_long h; simp; omega
def scode (s : List UInt8) : Int := if s = [] then 0 else if h : rcode s = 0 then scode (s.drop (8 + num4 s)) else rcode s
termination_by s.length
decreasing_by have := rcode_long h; simp; omega
theorem slist_ok {s : List UInt8} (h : rcode s = 0) : slist s = rbytes s :: slist (rrest s) := by rw [slist, dif_pos h, rrest_ok h]
theorem slist_bad {s : List UInt8} (h : rcode s ≠ 0) : slist s = [] := by rw [slist, dif_neg h]
theorem code_nil : rcode [] = 21 := rcode_short (by decide)
theorem slist_nil : slist [] = [] := slist_bad (by rw [code_nil]; decide)
theorem scode_nil : scode [] = 0 := by rw [scode, if_pos rfl]
theorem ok_ne {s : List UInt8} (h : rcode s = 0) : s ≠ [] := fun e => by rw [e, code_nil] at h; cases h
theorem scode_ok {s : List UInt8} (h : rcode s = 0) : scode s = scode (rrest s) := by rw [scode, if_neg (ok_ne h), dif_pos h, rrest_ok h]
theorem scode_bad {s : List UInt8} (h0 : s ≠ []) (h : rcode s ≠ 0) : scode s = rcode s := by rw [scode, if_neg h0, dif_neg h]
theorem rest_shorter {s : List UInt8} (h : rcode s = 0) : (rrest s).length + 8 ≤ s.length := by
  have := rcode_long h
  rw [rrest_ok h, List.length_drop]
  omega
theorem slist_length (s : List UInt8) : 8 * (slist s).length ≤ s.length := by
  induction hn : s.length using Nat.strongRecOn generalizing s with
  | _ n ih =>
    by_cases h : rcode s = 0
    · have h1 := rest_shorter h
      have := ih (rrest s).length (by omega) (rrest s) rfl
      rw [slist_ok h, List.length_cons]
      omega
    · rw [slist_bad h]; simp
/-- What Split answers. -/
def SplitPost (s : List UInt8) (w : World) (e : Ending) (w' : World) : Prop :=
  Below w.heap.size w w' ∧ ((scode s = 0 ∧ ∃ v, e = .returned (.tuple #[v, .int .i64 0]) ∧ OwnS w.heap.size w' v (slist s)) ∨ (scode s ≠ 0 ∧ e = .returned (.tuple #[.slice none 0 0, .int .i64 (scode s)])))

set_option maxRecDepth 100000 in
set_option maxHeartbeats 4000000 in
theorem split_ref (s : List UInt8) (hs : s.length ≤ 1000000) (w : World) : Calls Tryd.prog 22 #[.string ⟨s.toArray⟩] w (SplitPost s w) := by
  obtain ⟨i0, hi, hz0, hz1, hz2⟩ := info_parts info_str
  have HI0 := Lib.hid hi; have HZ0 := Lib.hid hz0; have HZ1 := Lib.hid hz1; have HZ2 := Lib.hid hz2
  clear hi hz0 hz1 hz2
  go_enter Tryd.func22, Tryd.ntmps22
  go_wp2
  go_loopw [0, 4] (fun c v wr => ∃ (r : List UInt8) (acc : List (List UInt8)), c = .string ⟨r.toArray⟩ ∧ r.length ≤ s.length ∧ Hid (OwnS w.heap.size wr v acc) ∧ Hid (slist s = acc ++ slist r) ∧ Hid (scode s = scode r) ∧ Below w.heap.size w wr)
    (fun c _ _ => match c with | .string b => b.size | _ => 0)
  case atStart => exact ⟨s, [], rfl, Nat.le_refl _, Lib.hid (World.ownsRow_nil w _ _ _), Lib.hid rfl, Lib.hid rfl, Below.refl _ _⟩
  case round =>
    obtain ⟨r, acc, rfl, hr, HO, HA, HC, hB⟩ := hrel
    by_cases h0 : r = []
    · subst h0
      have HS : Hid (SplitPost s w = fun e w' => Below w.heap.size w w' ∧ ((scode s = 0 ∧ ∃ v, e = .returned (.tuple #[v, .int .i64 0]) ∧ OwnS w.heap.size w' v (slist s)) ∨ (scode s ≠ 0 ∧ e = .returned (.tuple #[.slice none 0 0, .int .i64 (scode s)])))) := Lib.hid rfl
      go_wp2
      go_ret2
      refine ⟨hB, .inl ⟨by rw [HC.out, scode_nil], _, rfl, ?_⟩⟩
      rw [HA.out, slist_nil, List.append_nil]
      exact HO.out
    · have hne : r.isEmpty = false := by simpa using h0
      have HR := Lib.hid (read_ref r (by omega))
      unfold RPost at HR
      by_cases hc : rcode r = 0
      · have h1 := rest_shorter hc
        have HA2 : Hid (slist s = (acc ++ [rbytes r]) ++ slist (rrest r)) := Lib.hid (by rw [HA.out, slist_ok hc, List.append_assoc]; rfl)
        have HC2 : Hid (scode s = scode (rrest r)) := Lib.hid (by rw [HC.out, scode_ok hc])
        have hal : acc.length ≤ 1000000 := by
          have h2 := slist_length s
          rw [HA.out, List.length_append] at h2
          omega
        rw [hc] at HR
        generalize rbytes r = b at *
        generalize rrest r = q at *
        clear hc
        go_wp2_with fail
        refine (HR.out _).mono ?_
        rintro e w1 ⟨rfl, hb1⟩
        have hB1 := hB.trans (hb1.mono hB.size)
        have hown1 := own_below HO.out hb1
        go_wp2_with (at_builtin; refine wpList_append_own _ rfl _ _ 32 rfl w.heap.size 9 i0 (.string ⟨#[]⟩) 1 16 Tryd.underlying32 HI0.out HZ0.out HZ1.out HZ2.out rfl (by decide) _ _ _ rfl (hown1.alloc _) ⟨w1.heap.size, 0, none⟩ 1 1 [.string ⟨b.toArray⟩] rfl rfl (cell_one_new _ _ _) (by simp [Value.oneCell']) (by unfold maxLen; omega) (by omega) (by have := hB1.size; simp; omega) ?_; intro v2 w2 hown2 hgrow2 _)
        have hB2 : Below w.heap.size w w2 := (hB1.alloc hB1.size _).grown hgrow2 (by have := hB1.size; simp; omega) (fun j e => (hown1.lt j e).1)
        go_roundw
        case rel =>
          refine ⟨q, acc ++ [b], rfl, by omega, Lib.hid ?_, HA2, HC2, hB2⟩
          unfold OwnS
          rw [List.length_append, strVs_snoc]
          exact hown2
        case measure => simp [ByteArray.size]; omega
      · have hne2 : (rcode r == 0) = false := by simpa using hc
        have HC2 : Hid (scode s = rcode r) := Lib.hid (by rw [HC.out, scode_bad h0 hc])
        have HNE : Hid (rcode r ≠ 0) := Lib.hid hc
        generalize rcode r = k at *
        clear hc
        go_wp2_with fail
        refine (HR.out _).mono ?_
        rintro e w1 ⟨rfl, hb1⟩
        have hB1 := hB.trans (hb1.mono hB.size)
        go_wp2
        go_ret2
        exact ⟨hB1, .inr ⟨by rw [HC2.out]; exact HNE.out, by rw [HC2.out]; rfl⟩⟩
end Go.Proofs.YtkjiinhcmhoejaaDoor
