import Derived.Test.YtbfchlfagdhglaaDoorMG16
import Derived.Test.YtbfchlfagdhglaaDoorMG18
import Derived.Deep.AppendLies
import Derived.Deep.RegionLaw
import Derived.Test.YtbfchlfagdhglaaDoorMG13
import Derived.Test.YtbfchlfagdhglaaDoorMG17
import Derived.Test.YtbfchlfagdhglaaDoorMG15
/- The document's answer: Decode (tesseraeref07.Decode). -/
namespace Go.Proofs.YtbfchlfagdhglaaDoor
open Go.RowKit

/-- A bitmap, what is behind it, and an error that are answered. -/
def DecRes (w : World) (p : List Ch × List UInt8 × Int) (e : Ending) (w' : World) : Prop :=
  ∃ y c, e = .returned (.tuple #[.agg #[.slice y p.1.length c], .string ⟨p.2.1.toArray⟩, .int .i64 p.2.2]) ∧ p.1.length ≤ c ∧ c ≤ maxLen ∧ Chs w'.heap.size w' (.slice y p.1.length c) p.1 ∧ Below w.heap.size w w' ∧ ∀ b o, y = some ⟨b, o, none⟩ → w.heap.size ≤ b
theorem dec_none {w w' : World} {p : List Ch × List UInt8 × Int} {s : List UInt8} {n : Int} (hp : p = ([], s, n)) {e : Ending} (he : e = .returned (.tuple #[.agg #[.slice none 0 0], .string ⟨s.toArray⟩, .int .i64 n])) (hb : Below w.heap.size w w') : DecRes w p e w' := by
  subst hp
  exact ⟨none, 0, he, Nat.le_refl _, by decide, .inl ⟨⟨none, 0, rfl⟩, rfl⟩, hb, fun _ _ e => by cases e⟩
theorem dec_some {w w' : World} {p : List Ch × List UInt8 × Int} {r : List Ch} {q : List UInt8} (hp : p = (r, q, 0)) {e : Ending} {y : Option Addr} {c : Nat} (he : e = .returned (.tuple #[.agg #[.slice y r.length c], .string ⟨q.toArray⟩, .int .i64 0])) (h1 : r.length ≤ c) (h2 : c ≤ maxLen) (hc : Chs w'.heap.size w' (.slice y r.length c) r) (hb : Below w.heap.size w w') (hf : ∀ b o, y = some ⟨b, o, none⟩ → w.heap.size ≤ b) : DecRes w p e w' := by
  subst hp
  exact ⟨y, c, he, h1, h2, hc, hb, hf⟩
theorem results_cell3 {fn : Func} {t u v : Tmp} {ty : TypeId} (h : fn.results = #[.cell t ty, .tmp u, .tmp v]) {tmps : Array Value} {w : World} {g : Nat} {x : Value} (hp : tmps.getD t undef = .pointer (some ⟨g, 0, none⟩)) (hv : (loadVar ty ⟨g, 0, none⟩).run Tryd.prog w = .ok x w) :
    (results fn tmps).run Tryd.prog w = .ok (.tuple #[x, tmps.getD u undef, tmps.getD v undef]) w := by
  rw [Array.getD_eq_getD_getElem?] at hp
  simp [results, h, hp, asAddr, hv, Result.andThen]
theorem ret_roar3 {fn : Func} {t u v : Tmp} {Q : Ending → World → Prop} {a : Act} {w : World} {g : Nat} {x : Value} (h : fn.results = #[.cell t 24, .tmp u, .tmp v]) (hp : a.tmps.getD t undef = .pointer (some ⟨g, 0, none⟩)) (hb : Blk w g 24 #[x]) (hd : a.defers = []) (hQ : Q (.returned (.tuple #[.agg #[x], a.tmps.getD u undef, a.tmps.getD v undef])) w) : bodyPost Tryd.prog fn Q .ret a w :=
  bodyPost_ret (results_cell3 h hp (load_roar hb)) hd hQ
/-- The state of the walk: the two boxes, the chunks that have come. -/
def DcSt (w : World) (g : Nat) (v : Value) (r : List Ch) (W : World) : Prop :=
  Blk W w.heap.size 24 #[.slice none 0 0] ∧ Blk W g 24 #[v] ∧ W.ownsRow (g + 1) 48 3 v r.length (chsCells r) ∧ w.heap.size < g ∧ Below w.heap.size w W
theorem DcSt.lt {w a : World} {g : Nat} {v : Value} {r : List Ch} (h : DcSt w g v r a) : g + 1 ≤ a.heap.size := h.2.1.lt
theorem DcSt.below {w a b : World} {n g : Nat} {v : Value} {r : List Ch} (h : DcSt w g v r a) (hb : Below n a b) (hn : a.heap.size ≤ n) : DcSt w g v r b :=
  ⟨h.1.below hb (Nat.lt_of_lt_of_le h.1.lt hn), h.2.1.below hb (Nat.lt_of_lt_of_le h.2.1.lt hn), rows_below h.2.2.1 hb hn, h.2.2.2.1, h.2.2.2.2.trans (hb.mono (Nat.le_trans h.2.2.2.2.size hn))⟩
theorem DcSt.app {w a w4 : World} {g : Nat} {v v2 : Value} {q : List Ch} {c : Ch} {o : Obj} (h : DcSt w g v q a) (hown : w4.ownsRow (g + 1) 48 3 v2 (q.length + 1) (chsCells q ++ chCells c)) (hg : (a.alloc o).grownBy w4 v.ownBlock) :
    w4.cell? ⟨g, 0, none⟩ = some v ∧ w4.frozen? ⟨g, 0, none⟩ = false ∧ DcSt w g v2 (q ++ [c]) (w4.setCell ⟨g, 0, none⟩ v2) := by
  have hb : Below (g + 1) a w4 := ((Below.refl _ a).alloc h.lt _).grown hg (by rw [World.size_alloc]; have := h.lt; omega) (fun k e => (h.2.2.1.lt k e).1)
  have hgw := h.2.2.2.1
  have b0 := h.1.below hb (by omega)
  have b1 := h.2.1.below hb (by omega)
  refine ⟨b1.cell 0, b1.frozen 0, b0.far (by show w.heap.size ≠ g; omega) _, b1.set_ 0 v2, ?_, hgw, (h.2.2.2.2.trans (hb.mono (by omega))).setCell (by show w.heap.size ≤ g; omega) _⟩
  rw [List.length_append, chsCells_append, chsCells_one]
  exact rows_far hown (by simp) v2
theorem DcSt.store {w wr : World} {g : Nat} {v : Value} {r : List Ch} (h : DcSt w g v r wr) (u : Value) : Blk (wr.setCell ⟨w.heap.size, 0, none⟩ u) w.heap.size 24 #[u] ∧ Below w.heap.size w (wr.setCell ⟨w.heap.size, 0, none⟩ u) :=
  ⟨h.1.set_ 0 u, h.2.2.2.2.setCell (Nat.le_refl _) u⟩

set_option maxRecDepth 100000 in
set_option maxHeartbeats 8000000 in
theorem ref_decz_any (s : List UInt8) (hs : s.length ≤ 9223372036854775807) (w : World) : Calls Tryd.prog 11 #[.string ⟨s.toArray⟩] w (DecRes w (decZ s)) := by
  have HGet := Lib.hid (fun W => ref_get_any s hs W)
  unfold GetPost at HGet
  have HE := Lib.hid (@decZ_err s)
  have HBg := Lib.hid (@decZ_big s)
  have HGo := Lib.hid (@decZ_go s)
  have hb0 := Blk.new w 24 #[.slice none 0 0]
  have hB0 := (Below.refl _ w).alloc (Nat.le_refl _) (.cells #[.slice none 0 0] 24)
  have hz0 : (w.alloc (.cells #[.slice none 0 0] 24)).heap.size = w.heap.size + 1 := by simp
  obtain ⟨j0, hj, hy0, hy1, hy2⟩ := info_parts info_chunk
  have HJ := Lib.hid hj; have HY0 := Lib.hid hy0; have HY1 := Lib.hid hy1; have HY2 := Lib.hid hy2
  clear hj hy0 hy1 hy2
  go_enter Tryd.func11, Tryd.ntmps11
  go_wp2_with fail
  refine (HGet.out _).mono ?_
  rintro e w1 ⟨rfl, hb1⟩
  generalize w.alloc (.cells #[.slice none 0 0] 24) = w0 at *
  have hb := hb0.below hb1 (by omega)
  have hB := hB0.trans (hb1.mono hB0.size)
  have hgt : w.heap.size < w1.heap.size := hb.lt
  clear HGet hb0 hB0 hz0 hb1
  have c0 := hb.cell 0
  have f0 := hb.frozen 0
  dsimp at c0
  by_cases hcode : vcode s = 0
  · by_cases hbig : 256 < vnum s
    · have HV := Lib.hid (HBg.out hcode hbig)
      have hE := hb.set_ 0 (.slice none 0 0)
      have hD := hB.setCell (p := ⟨w.heap.size, 0, none⟩) (Nat.le_refl _) (.slice none 0 0)
      rw [hcode]
      have hbig' : ((vnum s : Nat) : Int) > 256 := by omega
      clear HE HBg HGo hcode hbig hB
      generalize vnum s = n at *
      go_wp2
      exact ret_roar3 rfl rfl hE rfl (dec_none HV.out rfl hD)
    · have HV := Lib.hid (HGo.out hcode hbig)
      rw [hcode]
      have hbig' : ¬ ((vnum s : Nat) : Int) > 256 := by omega
      have hn256 : vnum s ≤ 256 := by omega
      have hS0 : DcSt w w1.heap.size (.slice none 0 0) [] (w1.alloc (.cells #[.slice none 0 0] 24)) := ⟨hb.alloc _, Blk.new w1 _ _, World.ownsRow_nil _ _ _ _, hgt, hB.alloc hB.size _⟩
      have HS0 := Lib.hid hS0
      have hsl : (s.drop (vsize s)).length ≤ s.length := by rw [List.length_drop]; omega
      have HCm := Lib.hid (Come.start (vnum s) (s.drop (vsize s)))
      clear HE HBg HGo hcode hbig hS0 hb hB
      generalize vnum s = n at *
      generalize s.drop (vsize s) = s1 at *
      go_wp2
      generalize w1.alloc (.cells #[.slice none 0 0] 24) = W0 at *
      generalize w1.heap.size = g at *
      clear c0 f0
      go_loopw [6, 9] (fun q i wr => ∃ (k : Nat) (r : List Ch) (u : List UInt8) (v : Value), q = .string ⟨u.toArray⟩ ∧ i = .int .u64 k ∧ Come n s1 k r u ∧ u.length ≤ s.length ∧ DcSt w g v r wr) (fun _ i _ => n - (intOf i).toNat)
      case atStart => exact ⟨0, [], s1, _, rfl, rfl, HCm.out, hsl, HS0.out⟩
      case round =>
        obtain ⟨k, r, u, v, rfl, rfl, hC, hul, hS⟩ := hrel
        clear HS0 HCm
        have hkn := hC.1
        have hrl := hC.2.2.1
        by_cases hlt : k < n
        · have hlt' : (k : Int) < n := by omega
          by_cases hok : chOk u
          · have HC := Lib.hid (hC.step hlt hok)
            obtain ⟨o1, o2⟩ := hok
            have o1' : ¬ (u.length : Int) < 3 := by omega
            have i0 : 0 < u.length := by omega
            have i1 : 1 < u.length := by omega
            have i0' : (0 : Int) < u.length := by omega
            have i1' : (1 : Int) < u.length := by omega
            have b0 := byteC_get u 0 (by omega)
            have b1 := byteC_get u 1 (by omega)
            have b2 := byteC_get u 2 (by omega)
            have hg : chGet u = (((byteC u 0 : Nat) : Int), ((byteC u 1 : Nat) : Int), (u.take (chSize u)).drop 3) := rfl
            have hl0 := byteC_lt u 0
            have hl1 := byteC_lt u 1
            have hl2 := byteC_lt u 2
            obtain ⟨m, hm⟩ : ∃ m, m = chSize u := ⟨_, rfl⟩
            have hm2 : m = 4 + byteC u 2 := hm
            rw [← hm] at HC hg o2
            have e2 : IntKind.i64.wrap (4 + ((byteC u 2 : Nat) : Int)) = (m : Int) := by rw [IntKind.wrap_i64]; omega
            have e3 : IntKind.i64.wrap ((byteC u 0 : Nat) : Int) = ((byteC u 0 : Nat) : Int) := by rw [IntKind.wrap_i64]; omega
            have e4 : IntKind.i64.wrap ((byteC u 1 : Nat) : Int) = ((byteC u 1 : Nat) : Int) := by rw [IntKind.wrap_i64]; omega
            have o2' : ¬ (u.length : Int) < (m : Int) := by omega
            have o3' : (m : Int) ≤ u.length := by omega
            have o4' : (3 : Int) ≤ (m : Int) := by omega
            have x1 := ext_mk u 3 m
            have x2 := (ext_mk u m u.length).trans (mk_str (b := u.drop m) (by rw [List.take_length]))
            rw [hg] at HC
            have HL2 : Hid ((u.drop m).length ≤ s.length) := Lib.hid (by rw [List.length_drop]; omega)
            generalize byteC u 0 = q0 at *
            generalize byteC u 1 = q1 at *
            generalize byteC u 2 = q2 at *
            generalize (u.take m).drop 3 = d at *
            generalize u.drop m = u2 at *
            have c1 := hS.2.1.cell 0
            have f1 := hS.2.1.frozen 0
            dsimp at c1
            clear hC hg hm hm2
            have hlr : r.length ≤ 256 := by omega
            clear hrl
            have hown := hS.2.2.1
            have hownA : ((wr.alloc (.cells #[.int .i64 (q0 : Nat), .int .i64 (q1 : Nat), .string ⟨d.toArray⟩] 48)).drew).ownsRow (g + 1) 48 3 v r.length (chsCells r) := hown.alloc _
            have hnews : ∀ j u, [Value.int .i64 (q0 : Nat), .int .i64 (q1 : Nat), .string ⟨d.toArray⟩][j]? = some u → ((wr.alloc (.cells #[.int .i64 (q0 : Nat), .int .i64 (q1 : Nat), .string ⟨d.toArray⟩] 48)).drew).cell? ((⟨wr.heap.size, 0, none⟩ : Addr).add j) = some u := World.news_of_block (cs := #[.int .i64 (q0 : Nat), .int .i64 (q1 : Nat), .string ⟨d.toArray⟩]) (Blk.new wr 48 #[.int .i64 (q0 : Nat), .int .i64 (q1 : Nat), .string ⟨d.toArray⟩]).drew
            have hgs := hS.lt
            have hsz2 : g + 1 ≤ ((wr.alloc (.cells #[.int .i64 (q0 : Nat), .int .i64 (q1 : Nat), .string ⟨d.toArray⟩] 48)).drew).heap.size := by show g + 1 ≤ (wr.alloc _).heap.size; rw [World.size_alloc]; omega
            have c2 := (hS.2.1.alloc (.cells #[.int .i64 (q0 : Nat), .int .i64 (q1 : Nat), .string ⟨d.toArray⟩] 48)).cell 0
            dsimp at c2
            go_wp2
            go_region_law (refine step_append_lies _ rfl (.tmp 52) (.tmp 64) 22 rfl (g + 1) 48 j0 (.agg #[.int .i64 0, .int .i64 0, .string ⟨#[]⟩]) 3 32 Tryd.underlying22 HJ.out HY0.out HY1.out HY2.out rfl (by decide) _ _ _ rfl hownA ⟨wr.heap.size, 0, none⟩ 1 1 [.int .i64 (q0 : Nat), .int .i64 (q1 : Nat), .string ⟨d.toArray⟩] rfl rfl hnews (by simp [Value.oneCell']) (by decide) (by unfold maxLen; omega) (by omega) hsz2 _ rfl ?_; intro g2 cap2 w2 hown2 hgrow2 _ _; obtain ⟨d1, d2, hS9⟩ := DcSt.app (o := .cells #[.int .i64 (q0 : Nat), .int .i64 (q1 : Nat), .string ⟨d.toArray⟩] 48) (c := (((q0 : Nat) : Int), ((q1 : Nat) : Int), d)) hS hown2 ⟨hgrow2.os, hgrow2.tape, hgrow2.output, hgrow2.size, hgrow2.block⟩)
            all_goals
              clear hown2 hgrow2 hownA hnews
              have HS9 := Lib.hid hS9
              clear hS9 hS
              go_wp2
              go_roundw
              case rel => exact ⟨k + 1, _, u2, _, rfl, by simp, HC.out, HL2.out, HS9.out⟩
              case measure => simp [intOf]; omega
          · have HN := Lib.hid (hC.none hlt hok)
            have HV2 : Hid (decZ s = ([], s, 21)) := Lib.hid (by rw [HV.out, HN.out]; rfl)
            have c0 := hS.1.cell 0
            have f0 := hS.1.frozen 0
            dsimp at c0
            obtain ⟨hE, hD⟩ := hS.store (.slice none 0 0)
            by_cases h3 : u.length < 3
            · have h3' : (u.length : Int) < 3 := by omega
              clear hC hok hS
              go_wp2
              exact ret_roar3 rfl rfl hE rfl (dec_none HV2.out rfl hD)
            · have h3' : ¬ (u.length : Int) < 3 := by omega
              have i2 : 2 < u.length := by omega
              have b2 := byteC_get u 2 i2
              have hl2 := byteC_lt u 2
              have hmm : u.length < 4 + byteC u 2 := by
                unfold chOk chSize at hok; omega
              have e2 : IntKind.i64.wrap (4 + ((byteC u 2 : Nat) : Int)) = 4 + ((byteC u 2 : Nat) : Int) := by rw [IntKind.wrap_i64]; omega
              have o2' : (u.length : Int) < 4 + ((byteC u 2 : Nat) : Int) := by omega
              generalize byteC u 2 = q2 at *
              clear hC hok hS hmm
              go_wp2
              exact ret_roar3 rfl rfl hE rfl (dec_none HV2.out rfl hD)
        · obtain rfl : k = n := by omega
          have hge : ¬ (k : Int) < k := by omega
          have HDn := Lib.hid hC.done
          have hok3 := hC.2.2.2
          obtain ⟨x2, c2, rfl, h1, h2, h3, h4⟩ := chs_row rfl hS.2.2.1
          have HRt := Lib.hid (fun W h => ref_rightz_any x2 r.length c2 r (by omega) hok3 W h)
          have c1 := hS.2.1.cell 0
          dsimp at c1
          clear hC hrl
          go_wp2_with fail
          refine (HRt.out _ h3).mono ?_
          rintro e w5 ⟨rfl, hb5⟩
          have hS5 := hS.below hb5 (Nat.le_refl _)
          have hgw := hS.2.2.2.1
          clear hS HRt h3 c1
          have c0 := hS5.1.cell 0
          have f0 := hS5.1.frozen 0
          have c1 := hS5.2.1.cell 0
          dsimp at c0 c1
          by_cases hrr : RightZ r
          · have HV2 : Hid (decZ s = (r, u, 0)) := Lib.hid (by rw [HV.out, HDn.out]; show (if RightZ r then _ else _) = _; rw [if_pos hrr])
            rw [decide_eq_true hrr]
            obtain ⟨hE, hD⟩ := hS5.store (.slice x2 r.length c2)
            obtain ⟨y, c, e9, k1, k2, k3, k4⟩ := own_chs (g := w.heap.size) (u := .slice x2 r.length c2) hS5.2.2.1 (by omega)
            cases e9
            have H3 := Lib.hid k3
            have H4 : Hid (∀ b o, x2 = some ⟨b, o, none⟩ → w.heap.size ≤ b) := Lib.hid (fun b o e => by have := k4 b o e; omega)
            clear hS5 k3 k4 h4 hb5 hrr
            go_wp2
            exact ret_roar3 rfl rfl hE rfl (dec_some HV2.out rfl k1 k2 H3.out hD H4.out)
          · have HV2 : Hid (decZ s = ([], s, 70)) := Lib.hid (by rw [HV.out, HDn.out]; show (if RightZ r then _ else _) = _; rw [if_neg hrr])
            rw [decide_eq_false hrr]
            obtain ⟨hE, hD⟩ := hS5.store (.slice none 0 0)
            clear hS5 h4 hb5 hrr
            go_wp2
            exact ret_roar3 rfl rfl hE rfl (dec_none HV2.out rfl hD)
  · have HV := Lib.hid (HE.out hcode)
    have hE := hb.set_ 0 (.slice none 0 0)
    have hD := hB.setCell (p := ⟨w.heap.size, 0, none⟩) (Nat.le_refl _) (.slice none 0 0)
    rw [vnum_err hcode]
    clear HE HBg HGo hB
    generalize vcode s = c at *
    generalize s.drop (vsize s) = s1 at *
    go_wp2
    exact ret_roar3 rfl rfl hE rfl (dec_none HV.out rfl hD)
end Go.Proofs.YtbfchlfagdhglaaDoor
/- roar.Decode. -/
namespace Go.Proofs.YtbfchlfagdhglaaDoor
open Go.RowKit

set_option maxRecDepth 100000 in
set_option maxHeartbeats 4000000 in
theorem dec_roar {n₀ : Nat} (a b m v r : Addr) (s : List UInt8) (hs : s.length ≤ 9223372036854775807) (W : World) (hS : Sent n₀ W a b) (hn₀ : n₀ ≤ W.heap.size) (h : Sen3 n₀ W m v r) :
    Calls Tryd.prog 9 #[.string ⟨s.toArray⟩] W (DecRes W (decZ s)) := by
  have hA : Below W.heap.size W ((W.alloc (.cells #[.slice none 0 0] 24)).alloc (.cells #[.string ⟨s.toArray⟩] 52)) := ((Below.refl _ W).alloc (Nat.le_refl _) _).alloc (by simp) _
  have bR := (Blk.new W 24 #[.slice none 0 0]).alloc (.cells #[.string ⟨s.toArray⟩] 52)
  have bB := Blk.new (W.alloc (.cells #[.slice none 0 0] 24)) 52 #[.string ⟨s.toArray⟩]
  rw [World.size_alloc] at bB
  have hb := bitmap_any (n₀ := n₀) a b m v r s hs (W.heap.size + 1) _ (hS.below (hA.mono hn₀)) (by omega) (h.below (hA.mono hn₀)) bB
  have HBm := Lib.hid hb
  have hSw : ∀ w', Below W.heap.size W w' → Sen3 n₀ w' m v r := fun w' hw => h.below (hw.mono hn₀)
  have HSw := Lib.hid hSw
  have HA := Lib.hid hA; have HR := Lib.hid bR
  clear hA bR bB hb hSw hS h
  go_enter Tryd.func9, Tryd.ntmps9
  go_wp2_with fail
  generalize ((W.alloc (.cells #[.slice none 0 0] 24)).alloc (.cells #[.string ⟨s.toArray⟩] 52)) = W0 at *
  have hlt := HR.out.lt
  refine HBm.out.mono ?_
  rintro e w1 (⟨rs, q, y, c, hd, rfl, h1, h2, h3, h4, hw⟩ | ⟨c, ea, hd, he, rfl, q, hw⟩)
  · have HV := Lib.hid hd
    have hg : W.heap.size < W0.heap.size := hlt
    have bR1 : Blk w1 W.heap.size 24 #[.slice none 0 0] := (hw.2.block W.heap.size hg (fun e => by have := Option.some.inj e; omega)).trans HR.out
    have hB1 : Below W.heap.size W w1 := ⟨hw.2.os.trans HA.out.os, hw.2.tape.trans HA.out.tape, hw.2.output.trans HA.out.output, Nat.le_trans HA.out.size hw.2.size, fun k hk => (hw.2.block k (by omega) (fun e => by have := Option.some.inj e; omega)).trans (HA.out.block k hk)⟩
    have HBd := Lib.hid (hB1.alloc hB1.size (.cells #[.slice y rs.length c] 24))
    have hR2 := bR1.alloc (.cells #[.slice y rs.length c] 24)
    have hQ2 := hw.1.alloc (.cells #[.slice y rs.length c] 24)
    have c0 := hR2.cell 0; have f0 := hR2.frozen 0
    have d0 := hQ2.cell 0
    dsimp at c0 d0
    have HR2 := Lib.hid hR2
    have H3 := Lib.hid (h3.under ((Below.refl _ w1).alloc (Nat.le_refl _) (.cells #[.slice y rs.length c] 24)))
    have H4 : Hid (∀ b o, y = some ⟨b, o, none⟩ → W.heap.size + 1 ≤ b) := Lib.hid (fun b o e => by have := h4 b o e; omega)
    have HE := Lib.hid (show Blk ((w1.alloc (.cells #[.slice y rs.length c] 24)).setCell ⟨W.heap.size, 0, none⟩ (.slice y rs.length c)).drew W.heap.size _ _ from (HR2.out.set_ 0 (.slice y rs.length c)).drew)
    have HD := Lib.hid (show Below W.heap.size W ((w1.alloc (.cells #[.slice y rs.length c] 24)).setCell ⟨W.heap.size, 0, none⟩ (.slice y rs.length c)).drew from (HBd.out.setCell (p := ⟨W.heap.size, 0, none⟩) (Nat.le_refl _) (.slice y rs.length c)).drew)
    have HCs := Lib.hid ((chs_set (g := W.heap.size) (u := .slice y rs.length c) H3.out (fun b o l c e => by cases e; have := H4.out b o rfl; omega)).under ((Below.refl _ _).drew))
    have HF : Hid (∀ b o, y = some ⟨b, o, none⟩ → W.heap.size ≤ b) := Lib.hid (fun b o e => by have := H4.out b o e; omega)
    clear hd hw bR1 hB1 hR2 hQ2 h3 h4 HBm HR HA HR2 HBd H3 H4
    go_wp2
    go_region
    all_goals
      go_wp2
      exact ret_roar3 rfl rfl HE.out rfl (dec_some HV.out rfl h1 h2 HCs.out HD.out HF.out)
  · have HV := Lib.hid hd
    have hg : W.heap.size < W0.heap.size := hlt
    have bR1 : Blk w1 W.heap.size 24 #[.slice none 0 0] := (hw.2.block W.heap.size hg (fun e => by have := Option.some.inj e; omega)).trans HR.out
    have hB1 : Below W.heap.size W w1 := ⟨hw.2.os.trans HA.out.os, hw.2.tape.trans HA.out.tape, hw.2.output.trans HA.out.output, Nat.le_trans HA.out.size hw.2.size, fun k hk => (hw.2.block k (by omega) (fun e => by have := Option.some.inj e; omega)).trans (HA.out.block k hk)⟩
    have hB2 := hB1.alloc hB1.size (.cells #[.slice none 0 0] 24)
    have hR2 := bR1.alloc (.cells #[.slice none 0 0] 24)
    have hEr : Calls Tryd.prog 21 #[eV ea] (w1.alloc (.cells #[.slice none 0 0] 24)) fun e w' => e = .returned (.int .i64 c) ∧ w1.alloc (.cells #[.slice none 0 0] 24) = w' := by
      rcases he with ⟨rfl, rfl⟩ | ⟨rfl, rfl⟩ | ⟨rfl, rfl⟩
      · exact errnoR_more _ _ _ _ (HSw.out _ hB2)
      · exact errnoR_varint _ _ _ _ (HSw.out _ hB2)
      · exact errnoR_roar _ _ _ _ (HSw.out _ hB2)
    have c0 := hR2.cell 0; have f0 := hR2.frozen 0
    dsimp at c0
    have HE := Lib.hid (hR2.set_ 0 (.slice none 0 0))
    have HD := Lib.hid (hB2.setCell (p := ⟨W.heap.size, 0, none⟩) (Nat.le_refl _) (.slice none 0 0))
    unfold eV at hEr
    have HEr := Lib.hid hEr
    clear hd he hw bR1 hB1 hB2 hR2 hEr HBm HR HA
    unfold eV
    go_wp2_with (go_at_call 21; refine HEr.out.mono ?_; rintro e w' ⟨rfl, rfl⟩)
    exact ret_roar3 rfl rfl HE.out rfl (dec_none HV.out rfl HD.out)
end Go.Proofs.YtbfchlfagdhglaaDoor
/- The document's answer: Encode (tesseraeref07.Encode). -/
namespace Go.Proofs.YtbfchlfagdhglaaDoor
open Go.RowKit

theorem conv_three (x y z : UInt8) (c : Nat) (W : World) (b : Nat) (h0 : W.cell? ⟨b, 0, none⟩ = some (.int .u8 (x.toNat : Int))) (h1 : W.cell? ⟨b, 1, none⟩ = some (.int .u8 (y.toNat : Int))) (h2 : W.cell? ⟨b, 2, none⟩ = some (.int .u8 (z.toNat : Int))) : (convert 42 9 (.slice (some ⟨b, 0, none⟩) 3 c)).run Tryd.prog W = .ok (.string ⟨[x, y, z].toArray⟩) W :=
  run_convert_bytes_back W _ _ _ ⟨b, 0, none⟩ c [x, y, z] Tryd.underlying42 Tryd.underlying5 Tryd.underlying9 (fun j hj => by
    have hj : j < 3 := by simpa using hj
    match j, hj with
    | 0, _ => exact h0
    | 1, _ => exact h1
    | 2, _ => exact h2)
/-- The state of the walk: the bitmap's box, the chunk's. -/
def EnSt (w : World) (sv : Value) (r : List Ch) (g : Nat) (f : Int) (d : List UInt8) (W : World) : Prop := RtSt w sv r W ∧ Blk W g 46 #[.int .i64 f, .string ⟨d.toArray⟩]
theorem EnSt.under {w a b : World} {sv : Value} {r : List Ch} {g : Nat} {f : Int} {d : List UInt8} (h : EnSt w sv r g f d a) (hb : Below a.heap.size a b) : EnSt w sv r g f d b := ⟨h.1.under hb, h.2.under hb⟩
theorem EnSt.held {w a : World} {x : Option Addr} {len cap : Nat} {r : List Ch} {g k : Nat} {f : Int} {d : List UInt8} (h : EnSt w (.slice x len cap) r g f d a) {b o : Nat} (hx : x = some ⟨b, o, none⟩) (hk : k < len) :
    a.cell? ⟨w.heap.size, 0, none⟩ = some (.slice x len cap) ∧ a.cell? ⟨g, 0, none⟩ = some (.int .i64 f) ∧ a.cell? ⟨g, 1, none⟩ = some (.string ⟨d.toArray⟩) ∧ a.cell? ⟨b, o + k * 3, none⟩ = some (.int .i64 (r.getD k noCh).1) ∧ EnSt w (.slice x len cap) r g f d a := by
  obtain ⟨b', o', e, _, hc⟩ := h.1.2.1.at_ hk
  rw [hx] at e; cases e
  exact ⟨h.1.1.cell 0, h.2.cell 0, h.2.cell 1, hc.1, h⟩

set_option maxRecDepth 100000 in
set_option maxHeartbeats 8000000 in
theorem ref_encz_any (x : Option Addr) (len cap : Nat) (r : List Ch) (hm : len ≤ 9223372036854775807) (hd : Ok3 r) (w : World) (hr : Chs w.heap.size w (.slice x len cap) r) :
    Calls Tryd.prog 8 #[.agg #[.slice x len cap]] w fun e w' => e = .returned (.tuple #[.string ⟨(encZ r).1.toArray⟩, .int .i64 (encZ r).2]) ∧ Below w.heap.size w w' := by
  have hl := hr.len
  have HG := Lib.hid (@encZ_good r)
  have HB := Lib.hid (@encZ_bad r)
  have HRt := Lib.hid (fun W h => ref_rightz_any x len cap r hm hd W h)
  have HS0 := Lib.hid (RtSt.start hr)
  clear hr
  go_enter Tryd.func8, Tryd.ntmps8
  have c00 := HS0.out.1.cell 0
  dsimp at c00
  go_wp2_with fail
  refine (HRt.out _ HS0.out.2.1).mono ?_
  rintro e w1 ⟨rfl, hb1⟩
  have hS1 := HS0.out.under hb1
  clear HS0 HRt c00 hb1
  by_cases hrr : RightZ r
  · have HV := Lib.hid (HG.out hrr)
    have hl256 : len ≤ 256 := by rw [← hl]; exact hrr.1
    have HPut := Lib.hid (ref_put_any len (by omega))
    rw [decide_eq_true hrr]
    clear HG HB hrr
    have c0 := hS1.1.cell 0
    dsimp at c0
    have hw0 : IntKind.u64.wrap (len : Int) = (len : Int) := by rw [u64_wrap]; omega
    go_wp2_with fail
    refine (HPut.out _).mono ?_
    rintro e w2 ⟨rfl, hb2⟩
    have hS2 := hS1.under hb2
    have hac := accZ_zero r
    rw [hl] at hac
    rw [← hac]
    clear hS1 hb2 c0 HPut hac
    have hle := accZ_le hd (by omega)
    have HLe := Lib.hid hle
    have HD := Lib.hid hd
    clear hle hd
    go_wp2
    go_loopw [4, 5] (fun s i wr => ∃ k : Nat, k ≤ len ∧ i = .int .i64 k ∧ s = .string ⟨(accZ r k).toArray⟩ ∧ RtSt w (.slice x len cap) r wr) (fun _ i _ => len - (intOf i).toNat)
    case atStart => exact ⟨0, Nat.zero_le _, rfl, rfl, hS2⟩
    case round =>
      obtain ⟨k, hk, rfl, rfl, hS⟩ := hrel
      have c0 := hS.1.cell 0
      dsimp at c0
      clear hS2
      by_cases hlt : k < len
      · have hlt' : (k : Int) < len := by omega
        obtain ⟨b, o, rfl, hb, hc⟩ := hS.2.1.at_ hlt
        obtain ⟨d1, d2, d3⟩ := hc
        have hS6 : EnSt w (.slice (some ⟨b, o, none⟩) len cap) r wr.heap.size (r.getD k noCh).2.1 (r.getD k noCh).2.2 (wr.alloc (.cells #[.int .i64 (r.getD k noCh).2.1, .string ⟨(r.getD k noCh).2.2.toArray⟩] 46)) :=
          ⟨hS.under ((Below.refl _ wr).alloc (Nat.le_refl _) _), Blk.new wr _ _⟩
        have hac := accZ_succ (r := r) (k := k) (by omega)
        have hdk : (r.getD k noCh).2.2.length ≤ 300 := HD.out _ (by rw [List.getD_eq_getElem?_getD, List.getElem?_eq_getElem (by omega)]; exact List.getElem_mem _)
        have hle1 := HLe.out k
        have hle2 := HLe.out (k + 1)
        obtain ⟨c, hcc⟩ : ∃ c, r.getD k noCh = c := ⟨_, rfl⟩
        rw [hcc] at hac hdk d1 d2 d3 hS6
        have HE : Hid (∀ W, Below (wr.alloc (.cells #[.int .i64 c.2.1, .string ⟨c.2.2.toArray⟩] 46)).heap.size (wr.alloc (.cells #[.int .i64 c.2.1, .string ⟨c.2.2.toArray⟩] 46)) W →
          W.cell? ⟨w.heap.size, 0, none⟩ = some (.slice (some ⟨b, o, none⟩) len cap) ∧ W.cell? ⟨wr.heap.size, 0, none⟩ = some (.int .i64 c.2.1) ∧ W.cell? ⟨wr.heap.size, 1, none⟩ = some (.string ⟨c.2.2.toArray⟩) ∧ W.cell? ⟨b, o + k * 3, none⟩ = some (.int .i64 c.1)) := Lib.hid fun W hb => by
          have h := (hS6.under hb).held rfl hlt
          rw [hcc] at h
          exact ⟨h.1, h.2.1, h.2.2.1, h.2.2.2.1⟩
        have HR2 : Hid (∀ W, Below (wr.alloc (.cells #[.int .i64 c.2.1, .string ⟨c.2.2.toArray⟩] 46)).heap.size (wr.alloc (.cells #[.int .i64 c.2.1, .string ⟨c.2.2.toArray⟩] 46)) W → RtSt w (.slice (some ⟨b, o, none⟩) len cap) r W) := Lib.hid fun W hb => hS6.1.under hb
        obtain ⟨q0, f, d⟩ := c
        dsimp only at hdk d1 d2 d3 HE HR2
        have e1 := u8_wrap q0
        have e2 := u8_wrap f
        have e3 := u8_wrap ((d.length : Int) - 1)
        have e4 : IntKind.i64.wrap ((d.length : Int) - 1) = (d.length : Int) - 1 := by rw [IntKind.wrap_i64]; omega
        have hcv := conv_three (u8 q0) (u8 f) (u8 ((d.length : Int) - 1)) 3
        have hch : chBytes (q0, f, d) = [u8 q0, u8 f, u8 ((d.length : Int) - 1)] ++ d := rfl
        rw [hch] at hac
        have hla : (accZ r (k + 1)).length = (accZ r k).length + 3 + d.length := by rw [hac, List.length_append, List.length_append]; simp; omega
        generalize u8 q0 = x1 at *
        generalize u8 f = x2 at *
        generalize u8 ((d.length : Int) - 1) = x3 at *
        generalize hA : accZ r (k + 1) = acc2 at *
        have HAcc := Lib.hid hA
        clear hA
        generalize accZ r k = acc1 at *
        have hadd1 : ∀ W : World, (Op.stringOp .add ⟨acc1.toArray⟩ ⟨[x1, x2, x3].toArray⟩).run Tryd.prog W = .ok (.string ⟨(acc1 ++ [x1, x2, x3]).toArray⟩) W := fun W => by
          rw [run_string_add_sum W _ _ (by simp [ByteArray.size]; omega), app_mk]
        have hadd2 : ∀ W : World, (Op.stringOp .add ⟨(acc1 ++ [x1, x2, x3]).toArray⟩ ⟨d.toArray⟩).run Tryd.prog W = .ok (.string ⟨acc2.toArray⟩) W := fun W => by
          rw [run_string_add_sum W _ _ (by simp [ByteArray.size]; omega), app_mk, hac, List.append_assoc]
        have HLa := Lib.hid hla
        have hb0 : Below wr.heap.size wr (wr.alloc (.cells #[.int .i64 f, .string ⟨d.toArray⟩] 46)) := (Below.refl _ wr).alloc (Nat.le_refl _) _
        clear hac hla hch hS6 hcc hS hb HLe HD hl
        have HRf := Lib.hid (fun W (h : Below (wr.alloc (.cells #[.int .i64 f, .string ⟨d.toArray⟩] 46)).heap.size (wr.alloc (.cells #[.int .i64 f, .string ⟨d.toArray⟩] 46)) W) => HR2.out W h)
        clear HR2 hb0
        go_wp2
        generalize wr.alloc (.cells #[.int .i64 f, .string ⟨d.toArray⟩] 46) = W1 at *
        generalize wr.heap.size = g6 at *
        clear c0 d1 d2 d3
        have HK := Lib.hid (fun W hb => (⟨(HE.out W hb).1, (HE.out W hb).2.1, (HE.out W hb).2.2.1, (HE.out W hb).2.2.2, hb⟩ : W.cell? ⟨w.heap.size, 0, none⟩ = some (.slice (some ⟨b, o, none⟩) len cap) ∧ W.cell? ⟨g6, 0, none⟩ = some (.int .i64 f) ∧ W.cell? ⟨g6, 1, none⟩ = some (.string ⟨d.toArray⟩) ∧ W.cell? ⟨b, o + k * 3, none⟩ = some (.int .i64 q0) ∧ Below W1.heap.size W1 W))
        have HA : Hid (∀ (W : World) (x : Obj), (W.cell? ⟨w.heap.size, 0, none⟩ = some (.slice (some ⟨b, o, none⟩) len cap) ∧ W.cell? ⟨g6, 0, none⟩ = some (.int .i64 f) ∧ W.cell? ⟨g6, 1, none⟩ = some (.string ⟨d.toArray⟩) ∧ W.cell? ⟨b, o + k * 3, none⟩ = some (.int .i64 q0) ∧ Below W1.heap.size W1 W) → Below W1.heap.size W1 (W.alloc x)) := Lib.hid fun W x h => h.2.2.2.2.alloc h.2.2.2.2.size x
        clear HE
        try simp only [List.append_eq, List.cons_append, List.nil_append]
        go_region_held (fun W => W.cell? ⟨w.heap.size, 0, none⟩ = some (.slice (some ⟨b, o, none⟩) len cap) ∧ W.cell? ⟨g6, 0, none⟩ = some (.int .i64 f) ∧ W.cell? ⟨g6, 1, none⟩ = some (.string ⟨d.toArray⟩) ∧ W.cell? ⟨b, o + k * 3, none⟩ = some (.int .i64 q0) ∧ Below W1.heap.size W1 W) (first | assumption | exact HK.out _ (HA.out _ _ (by assumption)) | exact HK.out _ ((Below.refl _ _).drew) | exact HK.out _ (((Below.refl _ _).alloc (Nat.le_refl _) _).drew)) (fail)
        all_goals
          rename_i hS1
          have HF := Lib.hid (HRf.out _ hS1.2.2.2.2)
          clear hS1
          go_wp2
          go_roundw
          case rel => exact ⟨k + 1, by omega, by simp, by rw [HAcc.out], HF.out⟩
          case measure => simp [intOf]; omega
      · obtain rfl : k = len := by omega
        have hge : ¬ (k : Int) < k := by omega
        have hac := accZ_all r
        rw [hl] at hac
        have HV2 : Hid (encZ r = (accZ r k, 0)) := Lib.hid (by rw [hac]; exact HV.out)
        have HB2 := Lib.hid hS.2.2
        generalize accZ r k = acc at *
        clear hS hac
        go_wp2
        go_ret2
        exact ⟨by rw [HV2.out]; rfl, HB2.out⟩
  · have HV := Lib.hid (HB.out hrr)
    rw [decide_eq_false hrr]
    have HB2 := Lib.hid hS1.2.2
    clear HG HB hrr hS1
    go_wp2
    go_ret2
    exact ⟨by rw [HV.out]; rfl, HB2.out⟩
end Go.Proofs.YtbfchlfagdhglaaDoor
/- The laws' cut. -/
namespace Go.Proofs.YtbfchlfagdhglaaDoor
open Go.RowKit

theorem cut07_any (l : List UInt8) (w : World) : Calls Tryd.prog 10 #[.string ⟨l.toArray⟩] w fun e w' => e = .returned (.string ⟨(l.take 2000).toArray⟩) ∧ w = w' := by
  have H := Lib.hid (ext_mk l)
  by_cases h : (l.length : Int) ≤ 2000
  · go_enter Tryd.func10, Tryd.ntmps10
    go_wp2
    go_ret
    exact ⟨ret_bs ((H.out 0 _).trans (mk_str (by rw [List.drop_zero, List.take_of_length_le (by omega), List.take_of_length_le (by omega)]))), rfl⟩
  · go_enter Tryd.func10, Tryd.ntmps10
    go_wp2
    go_ret
    exact ⟨ret_bs ((H.out 0 _).trans (mk_str (by first | (rw [List.drop_zero, show (min (l.length : Int) 2000).toNat = 2000 by omega]; done) | rw [List.drop_zero]))), rfl⟩
end Go.Proofs.YtbfchlfagdhglaaDoor
/- Bitmaps and their bytes are one to one: pure mathematics. -/
namespace Go.Proofs.YtbfchlfagdhglaaDoor
open Go.RowKit

theorem u8_nat (z : Int) (h0 : 0 ≤ z) (h1 : z < 256) : ((u8 z).toNat : Int) = z := by
  unfold u8
  rw [UInt8.toNat_ofNat']
  omega
theorem byteC_u8 (s : List UInt8) (k : Nat) (h : k < s.length) : u8 ((byteC s k : Nat) : Int) = s[k] := by
  apply UInt8.toNat_inj.1
  have h1 := u8_nat ((byteC s k : Nat) : Int) (by omega) (by have := byteC_lt s k; omega)
  have h2 : byteC s k = (s[k]).toNat := by unfold byteC; rw [List.getElem?_eq_getElem h]; rfl
  omega
/-- A chunk that has bytes. -/
def Fit (c : Ch) : Prop := (0 ≤ c.1 ∧ c.1 < 256) ∧ (0 ≤ c.2.1 ∧ c.2.1 < 256) ∧ 1 ≤ c.2.2.length ∧ c.2.2.length ≤ 256
theorem ch_parts (c : Ch) (t : List UInt8) : chBytes c ++ t = u8 c.1 :: u8 c.2.1 :: u8 ((c.2.2.length : Int) - 1) :: (c.2.2 ++ t) := rfl
theorem ch_size {c : Ch} (h : Fit c) (t : List UInt8) : chSize (chBytes c ++ t) = 3 + c.2.2.length := by
  obtain ⟨_, _, h1, h2⟩ := h
  have h3 := u8_nat ((c.2.2.length : Int) - 1) (by omega) (by omega)
  have e : byteC (chBytes c ++ t) 2 = (u8 ((c.2.2.length : Int) - 1)).toNat := rfl
  unfold chSize
  rw [e]; omega
theorem ch_ok {c : Ch} (h : Fit c) (t : List UInt8) : chOk (chBytes c ++ t) := by
  unfold chOk
  rw [ch_size h, ch_parts]
  simp only [List.length_cons, List.length_append]
  omega
theorem ch_get {c : Ch} (h : Fit c) (t : List UInt8) : chGet (chBytes c ++ t) = c := by
  have h0 := u8_nat c.1 h.1.1 h.1.2
  have h1 := u8_nat c.2.1 h.2.1.1 h.2.1.2
  unfold chGet
  rw [ch_size h]
  obtain ⟨q, f, d⟩ := c
  refine Prod.ext h0 (Prod.ext h1 ?_)
  show (List.take (3 + d.length) (chBytes (q, f, d) ++ t)).drop 3 = d
  rw [ch_parts, show 3 + d.length = d.length + 1 + 1 + 1 by omega]
  simp only [List.take_succ_cons, List.drop_succ_cons, List.drop_zero]
  exact List.take_left' rfl
theorem ch_rest {c : Ch} (h : Fit c) (t : List UInt8) : (chBytes c ++ t).drop (chSize (chBytes c ++ t)) = t := by
  rw [ch_size h, ch_parts, show 3 + c.2.2.length = c.2.2.length + 1 + 1 + 1 by omega]
  simp only [List.drop_succ_cons]
  exact List.drop_left' rfl
theorem chunks_put : ∀ (r : List Ch) (t : List UInt8), (∀ c ∈ r, Fit c) → chunksB r.length (r.flatMap chBytes ++ t) = some (r, t)
  | [], t, _ => rfl
  | c :: r, t, h => by
    have hc := h c (List.mem_cons_self ..)
    rw [List.flatMap_cons, List.append_assoc, List.length_cons]
    show (if chOk _ then _ else _) = _
    rw [if_pos (ch_ok hc _), ch_rest hc, ch_get hc, chunks_put r t fun x hx => h x (List.mem_cons_of_mem _ hx)]
    rfl
theorem set_emptyB (f : Nat) (n : Nat) : setOf f [] n = false := by
  unfold setOf
  split
  · rfl
  · split
    · unfold setB; simp
    · split <;> rfl
theorem best_some {t : Bs} (h : vals t ≠ []) : 1 ≤ (bestD t).length := by
  rcases Nat.eq_zero_or_pos (bestD t).length with h0 | h0
  · exfalso
    apply h
    have e : bestD t = [] := List.eq_nil_of_length_eq_zero h0
    unfold vals valsTo
    rw [List.filter_eq_nil_iff]
    intro a ha
    have := best_set t a (List.mem_range.1 ha)
    rw [e, set_emptyB] at this
    rw [← this]; decide
  · exact h0
/-- The chunks of a bitmap have bytes. -/
theorem fit_right {r : List Ch} (h : RightZ r) : ∀ c ∈ r, Fit c := by
  rw [h.2]
  intro c hc
  obtain ⟨j, hj, rfl, hv⟩ := mem_ofTo hc
  have h1 := bestF_form (part (setZ r) j)
  have h2 := best_32 (part (setZ r) j)
  have h3 := best_some hv
  refine ⟨⟨?_, ?_⟩, ⟨?_, ?_⟩, ?_, ?_⟩
  · show (0 : Int) ≤ (j : Int); omega
  · show (j : Int) < 256; omega
  · show (0 : Int) ≤ ((bestF (part (setZ r) j) : Nat) : Int); omega
  · show ((bestF (part (setZ r) j) : Nat) : Int) < 256; omega
  · exact h3
  · show (bestD (part (setZ r) j)).length ≤ 256; omega
/-- What is encoded is decoded again, whatever stands behind. -/
theorem enc_dec {r : List Ch} (h : RightZ r) (t : List UInt8) : decZ (bytesZ r ++ t) = (r, t, 0) := by
  have hl := h.1
  unfold bytesZ
  rw [List.append_assoc]
  obtain ⟨h1, h2, h3⟩ := put_get (n := r.length) (by omega) (r.flatMap chBytes ++ t)
  rw [decZ_go h1 (by rw [h3]; omega), h2, h3, List.drop_left' rfl, chunks_put r t (fit_right h)]
  show (if RightZ r then _ else _) = _
  rw [if_pos h]
theorem ch_back {s : List UInt8} (h : chOk s) : chBytes (chGet s) ++ s.drop (chSize s) = s := by
  obtain ⟨h1, h2⟩ := h
  match s, h1 with
  | a :: b :: c :: q, _ =>
    have e0 : u8 ((byteC (a :: b :: c :: q) 0 : Nat) : Int) = a := byteC_u8 (a :: b :: c :: q) 0 (by simp)
    have e1 : u8 ((byteC (a :: b :: c :: q) 1 : Nat) : Int) = b := byteC_u8 (a :: b :: c :: q) 1 (by simp)
    have e2 : u8 ((byteC (a :: b :: c :: q) 2 : Nat) : Int) = c := byteC_u8 (a :: b :: c :: q) 2 (by simp)
    have hm : chSize (a :: b :: c :: q) = (byteC (a :: b :: c :: q) 2 + 1) + 1 + 1 + 1 := by unfold chSize; omega
    have hl : byteC (a :: b :: c :: q) 2 + 1 ≤ q.length := by rw [hm] at h2; simpa using h2
    rw [ch_parts]
    unfold chGet
    simp only [hm, List.take_succ_cons, List.drop_succ_cons, List.drop_zero, e0, e1]
    have hlen : ((q.take (byteC (a :: b :: c :: q) 2 + 1)).length : Int) - 1 = ((byteC (a :: b :: c :: q) 2 : Nat) : Int) := by rw [List.length_take]; omega
    rw [hlen, e2, List.take_append_drop]
theorem chunks_back : ∀ (n : Nat) (s : List UInt8) (r : List Ch) (q : List UInt8), chunksB n s = some (r, q) → r.length = n ∧ r.flatMap chBytes ++ q = s
  | 0, s, r, q, h => by
    simp only [chunksB, Option.some.injEq, Prod.mk.injEq] at h
    obtain ⟨rfl, rfl⟩ := h
    exact ⟨rfl, rfl⟩
  | n + 1, s, r, q, h => by
    have h' : (if chOk s then (chunksB n (s.drop (chSize s))).map (fun p => (chGet s :: p.1, p.2)) else none) = some (r, q) := h
    by_cases ho : chOk s
    · rw [if_pos ho] at h'
      obtain ⟨p, hp, e⟩ := Option.map_eq_some_iff.1 h'
      obtain ⟨p1, p2⟩ := p
      simp only [Prod.mk.injEq] at e
      obtain ⟨rfl, rfl⟩ := e
      obtain ⟨i1, i2⟩ := chunks_back n _ _ _ hp
      refine ⟨by rw [List.length_cons, i1], ?_⟩
      rw [List.flatMap_cons, List.append_assoc, i2, ch_back ho]
    · rw [if_neg ho] at h'; cases h'
/-- What is decoded is encoded as it stood. -/
theorem dec_enc {s : List UInt8} {r : List Ch} {q : List UInt8} (h : decZ s = (r, q, 0)) : RightZ r ∧ bytesZ r ++ q = s := by
  by_cases hc : vcode s = 0
  · by_cases hb : 256 < vnum s
    · rw [decZ_big hc hb] at h; simp at h
    · rw [decZ_go hc hb] at h
      cases e : chunksB (vnum s) (s.drop (vsize s)) with
      | none => rw [e] at h; simp [decTail] at h
      | some p =>
        obtain ⟨p1, p2⟩ := p
        rw [e] at h
        have h' : (if RightZ p1 then (p1, p2, (0 : Int)) else ([], s, 70)) = (r, q, 0) := h
        by_cases hr : RightZ p1
        · rw [if_pos hr] at h'
          simp only [Prod.mk.injEq, and_true] at h'
          obtain ⟨rfl, rfl⟩ := h'
          obtain ⟨i1, i2⟩ := chunks_back _ _ _ _ e
          refine ⟨hr, ?_⟩
          unfold bytesZ
          rw [i1, List.append_assoc, i2, get_put hc]
        · rw [if_neg hr] at h'; simp at h'
  · rw [decZ_err hc] at h
    simp only [Prod.mk.injEq] at h
    exact absurd h.2.2 hc
end Go.Proofs.YtbfchlfagdhglaaDoor
