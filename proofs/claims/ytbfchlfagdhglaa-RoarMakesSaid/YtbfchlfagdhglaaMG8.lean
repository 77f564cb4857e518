import Derived.Test.YtbfchlfagdhglaaMG7
import Derived.RegionIn
import Derived.Test.YtbfchlfagdhglaaMG2
import Derived.Test.YtbfchlfagdhglaaMG3
import Derived.RangeFuncBox
import Derived.OneCell
/- (*set).count; (*set).numbers: the numbers of a set, rising, for every loop's body that keeps the set. -/
namespace Go.Proofs.Ytbfchlfagdhglaa
open Go.RowKit
attribute [local go_sem] Oper.semAt_some

theorem and8 (a b : Nat) (ha : a < 256) (hb : b < 256) : bits .and .u8 (a : Int) (b : Int) = ((a &&& b : Nat) : Int) := by
  show IntKind.u8.wrap ((BitVec.ofInt 8 a &&& BitVec.ofInt 8 b).toNat : Int) = _
  rw [BitVec.toNat_and, BitVec.toNat_ofInt, BitVec.toNat_ofInt]
  rw [show ((a : Int) % ((2 ^ 8 : Nat) : Int)).toNat = a by omega, show ((b : Int) % ((2 ^ 8 : Nat) : Int)).toNat = b by omega]
  have := Nat.and_lt_two_pow (n := 8) a hb
  simp [IntKind.wrap, IntKind.bits, IntKind.signed]
  omega

/-- What an iterator leaves; hidden from the walk. -/
def SeqPost {α : Type} (S Sp : List α → Prop) (J Jx : List α → World → Prop) (e : Ending) (W' : World) : Prop := (∃ v, e = .returned v) ∧ ((∃ ys, S ys ∧ J ys W') ∨ (∃ pre, Sp pre ∧ Jx pre W'))
theorem SeqPost.all {α : Type} {S Sp : List α → Prop} {J Jx : List α → World → Prop} {v : Value} {W' : World} {ys : List α} (h : S ys) (hj : J ys W') : SeqPost S Sp J Jx (.returned v) W' := ⟨⟨_, rfl⟩, .inl ⟨ys, h, hj⟩⟩
theorem SeqPost.stop {α : Type} {S Sp : List α → Prop} {J Jx : List α → World → Prop} {v : Value} {W' : World} {ys : List α} (h : Sp ys) (hj : Jx ys W') : SeqPost S Sp J Jx (.returned v) W' := ⟨⟨_, rfl⟩, .inr ⟨ys, h, hj⟩⟩
/-- Two blocks lie as they lay. -/
def Keeps2 (Ba Bb : Nat) (W W' : World) : Prop := W'.heap[Ba]? = W.heap[Ba]? ∧ W'.heap[Bb]? = W.heap[Bb]?
theorem keeps2_t {Ba Bb : Nat} {A B C : World} (h : Keeps2 Ba Bb A B) (k : Keeps2 Ba Bb B C) : Keeps2 Ba Bb A C := ⟨k.1.trans h.1, k.2.trans h.2⟩
theorem keeps2_b {Ba Bb B : Nat} (ha : Ba < B) (hb : Bb < B) (W : World) (l : Nat) (o : Obj) (hl : B ≤ l) : Keeps2 Ba Bb W (W.putObj l o) :=
  ⟨World.putObj_heap_other (by omega), World.putObj_heap_other (by omega)⟩
theorem keeps2_set {Ba Bb : Nat} (W : World) (p : Addr) (v : Value) (ha : Ba ≠ p.block) (hb : Bb ≠ p.block) : Keeps2 Ba Bb W (W.setCell p v) :=
  ⟨Below.heap_setCell W p v Ba ha, Below.heap_setCell W p v Bb hb⟩
theorem keeps2_below {Ba Bb B : Nat} {W W' : World} (h : Below B W W') (ha : Ba < B) (hb : Bb < B) : Keeps2 Ba Bb W W' := ⟨h.block _ ha, h.block _ hb⟩

theorem blk_own {β : Type} (g : Nat) (t : TypeId) (f : β → Array Value) : Own (fun s W => Blk W g t (f s)) := fun s X Y row hs hg hr =>
  (hg.block g hs.lt (fun e => by
    obtain ⟨o, ho, hc⟩ := hr g e.symm
    rw [show X.heap[g]? = _ from hs] at ho; cases ho; cases hc)).trans hs
/-- A box of another type than a slice's elements, over an append to the slice and the store into the slice's box. -/
theorem keep_box {W w1 : World} {n₀ Bl C k : Nat} {t e : TypeId} {u v v' : Value} {xs : List Value} {tmp : Obj} (hb : Blk W Bl t #[u]) (hte : t ≠ e) (hrow : W.ownsRow n₀ e 1 v k xs) (hgrow : (W.alloc tmp).grownBy w1 v.ownBlock) (hne : Bl ≠ C) : (w1.setCell ⟨C, 0, none⟩ v').heap[Bl]? = W.heap[Bl]? :=
  (Below.heap_setCell _ _ _ _ hne).trans ((hgrow.block Bl (hb.alloc tmp).lt (fun e2 => Boxed.not_row (show Boxed W Bl t u from hb) hte hrow e2)).trans (Below.heap_alloc W tmp Bl hb.lt))

theorem keep_cell {W w1 : World} {n₀ Bl C k : Nat} {t e : TypeId} {u v : Value} {xs : List Value} {tmp : Obj} (hb : Blk W Bl t #[u]) (hte : t ≠ e) (hrow : W.ownsRow n₀ e 1 v k xs) (hgrow : (W.alloc tmp).grownBy w1 v.ownBlock) (hne : Bl ≠ C) (v' : Value) : (w1.setCell ⟨C, 0, none⟩ v').cell? ⟨Bl, 0, none⟩ = some u ∧ (w1.setCell ⟨C, 0, none⟩ v').frozen? ⟨Bl, 0, none⟩ = false := by
  have h : Blk (w1.setCell ⟨C, 0, none⟩ v') Bl t #[u] := (keep_box hb hte hrow hgrow hne).trans hb
  exact ⟨h.cell 0, h.frozen 0⟩

theorem numbers_any (p : Option Addr) (w : World) :
    Calls Try.prog 55 #[.pointer p] w fun e w' => e = .returned (.func (.func 70) #[] #[.pointer (some ⟨w.heap.size, 0, none⟩)]) ∧ w' = w.alloc (.cells #[.pointer p] 112) := by
  go_enter Try.func55, Try.ntmps55
  go_wp2
  go_ret
  exact ⟨rfl, rfl⟩

/-- What comes next: the next number. -/
def NextS (s : Bs) (pre : List Nat) (x : Nat) : Prop := x < 256 ∧ s x = true ∧ pre = valsTo s x
/-- The state between two numbers. -/
def NumSt (Bl B : Nat) (s : Bs) (J : List Nat → World → Prop) (p : Nat) (wr : World) : Prop := J (valsTo s p) wr ∧ Blk wr Bl 112 #[.pointer (some ⟨B, 0, none⟩)] ∧ Blk wr B 92 (scl s)

set_option maxRecDepth 100000 in
set_option maxHeartbeats 4000000 in
theorem numbers1_in (n : Nat) (hn : 1 ≤ n) (l Bl B : Nat) (s : Bs) (J Jx : List Nat → World → Prop)
    (hY : ∀ pre x W, J pre W → NextS s pre x → YieldAt Fence.wide (n - 1) Try.prog l #[.int .i64 (x : Nat)] W fun e W' =>
      (e = .returned (.bool true) ∧ J (pre ++ [x]) W' ∧ Keeps2 Bl B W W') ∨ (e = .returned (.bool false) ∧ Jx (pre ++ [x]) W'))
    (W : World) (bl : Blk W Bl 112 #[.pointer (some ⟨B, 0, none⟩)]) (bB : Blk W B 92 (scl s)) (h0 : J [] W) (hJd : ∀ pre W1, J pre W1 → J pre W1.drew) :
    CallsIn Fence.wide n Try.prog 70 #[.func (.yield l) #[] #[], .pointer (some ⟨Bl, 0, none⟩)] W (SeqPost (fun ys => ys = vals s) (fun pre => ∃ x, x < 256 ∧ s x = true ∧ pre = valsTo s (x + 1)) J Jx) := by
  have c0 := bl.cell 0
  dsimp at c0
  have HS0 : Hid (NumSt Bl B s J (8 * 0) W) := Lib.hid ⟨h0, bl, bB⟩
  have HY := Lib.hid hY
  clear bl bB h0 hY
  refine callsIn_of_wp Try.func70 rfl trivial ?_ rfl
  simp only [Try.ntmps70, List.size_toArray, List.length_cons, List.length_nil, Nat.reduceAdd, Nat.reduceSub, Array.replicate_succ, Array.replicate_zero, List.push_toArray, List.append_toArray, List.nil_append, List.cons_append]
  gi_wp2
  gi_loopw [6] (fun i wr => ∃ k : Nat, k ≤ 32 ∧ i = .int .i64 k ∧ NumSt Bl B s J (8 * k) wr)
    (fun i _ => 32 - (intOf i).toNat)
  case atStart => exact ⟨0, Nat.zero_le _, rfl, HS0.out⟩
  case round =>
    obtain ⟨k, hk, rfl, hS⟩ := hrel
    by_cases hlt : k < 32
    · have hlt' : (k : Int) < 32 := by omega
      have d0 := hS.2.2.cell k
      rw [scl_get hlt] at d0
      have HS := Lib.hid hS
      clear hS
      have hbs := byteS_start s k hlt
      have hbl := byteS_lt s 256 k
      obtain ⟨d, hd⟩ : ∃ d, d = byteS s 256 k := ⟨_, rfl⟩
      rw [← hd] at d0 hbs hbl
      have HD : Hid (d = byteS (fromS s (8 * k)) 256 k) := Lib.hid hbs.symm
      clear hd hbs
      gi_wp2
      gi_region
      all_goals
        have HSd : Hid (NumSt Bl B s J (8 * k) wr.drew) := Lib.hid ⟨hJd _ _ HS.out.1, HS.out.2.1, HS.out.2.2⟩
        clear HS
        gi_wp2
        gi_loopw [4] (fun i wi => ∃ p d : Nat, 8 * k ≤ p ∧ p ≤ 8 * k + 8 ∧ d < 256 ∧ i = .int .u8 d ∧ Hid (d = byteS (fromS s p) 256 k) ∧ NumSt Bl B s J p wi)
          (fun i _ => (intOf i).toNat)
        case atStart => exact ⟨8 * k, d, Nat.le_refl _, by omega, hbl, rfl, HD, HSd.out⟩
        case round =>
          obtain ⟨p, d, hp1, hp2, hd, rfl, HDp, hSi⟩ := hrel
          by_cases hd0 : d = 0
          · have HN : Hid (NumSt Bl B s J (8 * (k + 1)) wr) := Lib.hid ⟨by
              rw [valsTo_skip (s := s) (p := p) (x := 8 * (k + 1)) (by omega) (fun n h1 h2 => byteS_none hlt hp1 (by rw [← HDp.out, hd0]) n h1 h2)]
              exact hSi.1, hSi.2.1, hSi.2.2⟩
            clear hSi HDp
            have hd0' : ((d : Int) == 0) = true := by rw [hd0]; rfl
            gi_wp2
            refine ⟨⟨k + 1, by omega, by simp, HN.out⟩, by simp [intOf]; omega⟩
          · obtain ⟨g1, g2, g3, g4, g5⟩ := byteS_next (s := s) hlt hp1 (by rw [← HDp.out]; exact hd0)
            rw [← HDp.out] at g1 g2 g3 g4 g5
            have hx : 8 * k + tz d < 256 := by omega
            have hpre : valsTo s (8 * k + tz d) = valsTo s p := valsTo_skip g2 g4
            have hsucc : valsTo s (8 * k + tz d + 1) = valsTo s p ++ [8 * k + tz d] := by rw [valsTo_succ, if_pos g3, hpre]
            obtain ⟨fn, tmps, assign, body, hy, hR⟩ := HY.out (valsTo s p) (8 * k + tz d) wr hSi.1 ⟨hx, g3, hpre.symm⟩
            have HT := Lib.hid (tz_any d hd wr)
            have hand := and8 d (d - 1) hd (by omega)
            have hlt2 : d &&& (d - 1) < d := Nat.lt_of_le_of_lt Nat.and_le_right (by omega)
            have HG5 := Lib.hid g5
            have HX : Hid (tz d < 8 ∧ 8 * k ≤ 8 * k + tz d + 1) := Lib.hid ⟨g1, by omega⟩
            have HSucc := Lib.hid hsucc
            have HSi := Lib.hid hSi
            have HG3 := Lib.hid g3
            have hdc : ((d - 1 : Nat) : Int) = (d : Int) - 1 := by omega
            have hd0' : ((d : Int) == 0) = false := by simpa using hd0
            have h255 : ((d : Int) - 1) % 256 = (d : Int) - 1 := by omega
            rw [hdc] at hand
            rw [show ((8 * k + tz d : Nat) : Int) = 8 * (k : Int) + (tz d : Nat) by omega] at hy
            clear g5 hsucc hpre g4 hSi g3 HDp
            generalize htz : tz d = t at *
            generalize d &&& (d - 1) = d2 at *
            clear htz hdc
            gi_wp2_with (refine ⟨trivial, ?_⟩; gi_at_call 71; refine (callsIn_wide.2 HT.out).mono ?_; rintro e w' ⟨rfl, rfl⟩)
            refine hR.mono ?_
            rintro e W3 (⟨rfl, hJ3, hk3⟩ | ⟨rfl, hJx3⟩)
            · gi_wp2
              go_roundw
              case rel => exact ⟨8 * k + t + 1, d2, HX.out.2, by omega, by omega, rfl, HG5, by rw [HSucc.out]; exact hJ3, hk3.1.trans HSi.out.2.1, hk3.2.trans HSi.out.2.2⟩
              case measure => simp [intOf]; omega
            · gi_wp2
              refine bodyPost_ret (results_none rfl _ _ _) rfl ?_
              exact .stop ⟨8 * k + t, hx, HG3.out, HSucc.out.symm⟩ hJx3
    · have hge : ¬ (k : Int) < 32 := by omega
      have HE : Hid (J (vals s) wr) := Lib.hid (by obtain rfl : k = 32 := by omega
                                                   exact hS.1)
      clear hS
      gi_wp2
      all_goals
        go_end0
        exact .all rfl HE.out

/-- The numbers, for a loop's body that keeps the set and the box that its address was boxed in. -/
theorem numbers_seq (n : Nat) (hn : 1 ≤ n) (Bl B : Nat) (s : Bs) (w : World) (bl : Blk w Bl 112 #[.pointer (some ⟨B, 0, none⟩)]) (bB : Blk w B 92 (scl s)) :
    SeqD Fence.wide n Try.prog 70 #[.pointer (some ⟨Bl, 0, none⟩)] (fun x : Nat => #[.int .i64 (x : Nat)]) (NextS s) (Keeps2 Bl B) (fun ys => ys = vals s) (fun pre => ∃ x, x < 256 ∧ s x = true ∧ pre = valsTo s (x + 1)) w := fun l J Jx W hW hY h0 hJd =>
  numbers1_in n hn l Bl B s J Jx hY W (bl.under hW) (bB.under hW) h0 hJd

set_option maxRecDepth 100000 in
set_option maxHeartbeats 2000000 in
theorem count_any (B : Nat) (s : Bs) (w : World) (bB : Blk w B 92 (scl s)) :
    Calls Try.prog 56 #[.pointer (some ⟨B, 0, none⟩)] w fun e w' => e = .returned (.int .i64 ((vals s).length : Nat)) ∧ Below w.heap.size w w' := by
  have HB := Lib.hid bB
  clear bB
  go_enter Try.func56, Try.ntmps56
  go_wp2
  go_loopw [3, 7] (fun c i wr => ∃ k : Nat, k ≤ 32 ∧ i = .int .i64 k ∧ c = .int .i64 ((valsTo s (8 * k)).length : Nat) ∧ wr = w)
    (fun _ i _ => 32 - (intOf i).toNat)
  case atStart => exact ⟨0, Nat.zero_le _, rfl, rfl, rfl⟩
  case round =>
    obtain ⟨k, hk, rfl, rfl, rfl⟩ := hrel
    by_cases hlt : k < 32
    · have hlt' : (k : Int) < 32 := by omega
      have d0 := HB.out.cell k
      rw [scl_get hlt] at d0
      have HV := Lib.hid (valsTo_eight s k hlt)
      have hle := valsTo_le s (8 * k)
      have hbl := byteS_lt s 256 k
      have HO := Lib.hid (ones_any (byteS s 256 k) hbl wr)
      have ho := ones_le ⟨byteS s 256 k, hbl⟩
      simp only at ho
      generalize byteS s 256 k = b at *
      generalize ones b = o at *
      generalize (valsTo s (8 * k)).length = c at *
      go_wp2_with (go_at_call 72; refine HO.out.mono ?_; rintro e w' ⟨rfl, rfl⟩)
      go_roundw
      case rel => exact ⟨k + 1, by omega, by simp, by rw [HV.out]; simp, trivial⟩
      case measure => simp [intOf]; omega
    · obtain rfl : k = 32 := by omega
      have hge : ¬ ((32 : Nat) : Int) < 32 := by omega
      go_wp2
      go_ret
      exact ⟨rfl, Below.refl _ _⟩
end Go.Proofs.Ytbfchlfagdhglaa
/- The return of a set. -/
namespace Go.Proofs.Ytbfchlfagdhglaa
open Go.RowKit
section
variable {fn : Func} {t u : Tmp} {Q : Ending → World → Prop} {a : Act} {w : World} {g : Nat}
/-- The return of a set, and whether it is one. -/
theorem ret_set2 {s : Bs} (h : fn.results = #[.cell t 92, .tmp u]) (hp : a.tmps.getD t undef = .pointer (some ⟨g, 0, none⟩)) (hb : Blk w g 92 (scl s)) (hd : a.defers = []) (hQ : Q (.returned (.tuple #[.agg (scl s), a.tmps.getD u undef])) w) : bodyPost Try.prog fn Q .ret a w :=
  bodyPost_ret (results_cell2 h hp (ldv_set hb)) hd hQ
end
end Go.Proofs.Ytbfchlfagdhglaa
/- (*set).asArray. -/
namespace Go.Proofs.Ytbfchlfagdhglaa
open Go.RowKit
attribute [local go_sem] Oper.semAt_some

set_option maxRecDepth 100000 in
set_option maxHeartbeats 4000000 in
theorem asArray_any (B : Nat) (s : Bs) (w : World) (bB : Blk w B 92 (scl s)) :
    Calls Try.prog 83 #[.pointer (some ⟨B, 0, none⟩)] w fun e w' => ∃ v, e = .returned v ∧ w'.ownsRow w.heap.size 5 1 v (arrTo s 256).length (byteVs (arrTo s 256)) ∧ Below w.heap.size w w' := by
  obtain ⟨i0, hi, hz0, hz1, hz2⟩ := info_parts info_u8
  have HInf := Lib.hid hi; have HZ0 := Lib.hid hz0; have HZ1 := Lib.hid hz1; have HZ2 := Lib.hid hz2
  clear hi hz0 hz1 hz2
  have hbl0 := Blk.new (w.alloc (.cells #[.slice none 0 0] 84)) 112 #[.pointer (some ⟨B, 0, none⟩)]
  have hbx0 := (Boxed.new w 84 (.slice none 0 0)).alloc (.cells #[.pointer (some ⟨B, 0, none⟩)] 112)
  have hB0 : Below w.heap.size w ((w.alloc (.cells #[.slice none 0 0] 84)).alloc (.cells #[.pointer (some ⟨B, 0, none⟩)] 112)) := ((Below.refl _ w).alloc (Nat.le_refl _) _).alloc (by simp) _
  have hsz0 : ((w.alloc (.cells #[.slice none 0 0] 84)).alloc (.cells #[.pointer (some ⟨B, 0, none⟩)] 112)).heap.size = w.heap.size + 1 + 1 := by simp
  have hrow0 := World.ownsRow_nil ((w.alloc (.cells #[.slice none 0 0] 84)).alloc (.cells #[.pointer (some ⟨B, 0, none⟩)] 112)) w.heap.size 5 1
  rw [World.size_alloc] at hbl0
  have bB0 := bB.under hB0
  have hBlt := bB.lt
  refine (callsIn_wide (n := 4)).1 ?_
  refine callsIn_of_wp_marks Try.func83 rfl trivial ?_ rfl
  simp only [Try.ntmps83, List.size_toArray, List.length_cons, List.length_nil, Nat.reduceAdd, Nat.reduceSub, Array.replicate_succ, Array.replicate_zero, List.push_toArray, List.append_toArray, List.nil_append, List.cons_append]
  rw [wpIn_wide]
  go_wp2_with (go_at_call 55; refine (numbers_any _ _).mono ?_; rintro e w' ⟨rfl, rfl⟩)
  generalize ((w.alloc (.cells #[.slice none 0 0] 84)).alloc (.cells #[.pointer (some ⟨B, 0, none⟩)] 112)) = W0 at *
  refine (wpIn_wide (n := 4)).1 ?_
  refine wpIn_rangeFunc_nextD (n := 4) rfl (by decide) (gf := 70) (lb := #[.pointer (some ⟨w.heap.size + 1, 0, none⟩)]) rfl trivial (enters_of Try.func70 (by kernel_rfl) rfl)
    (numbers_seq 3 (by decide) (w.heap.size + 1) B s W0 hbl0 bB0) keeps2_t (fun W l o hl => keeps2_b (B := W0.heap.size) (by omega) (by omega) W l o hl) (fun _ => rfl)
    (fun pre W => ((∃ v, Boxed W w.heap.size 84 v ∧ W.ownsRow w.heap.size 5 1 v pre.length (byteVs (pre.map UInt8.ofNat)) ∧ True) ∧ Blk W (w.heap.size + 1) 112 #[.pointer (some ⟨B, 0, none⟩)]) ∧ Below w.heap.size w W)
    (fun _ _ _ => False)
    (OwnFrom.and (OwnFrom.and (Own.from (holdsRow_own w.heap.size w.heap.size 84 5 1 (fun (pre : List Nat) => pre.length) (fun pre => byteVs (pre.map UInt8.ofNat)) (fun _ _ => True)) _) (Own.from (blk_own _ _ (fun _ => #[.pointer (some ⟨B, 0, none⟩)])) _)) (ownFrom_below (Nat.le_refl _) (by omega)))
    (fun _ _ _ _ _ hs _ _ => hs)
    ⟨⟨⟨_, hbx0, by simpa [byteVs] using hrow0, trivial⟩, hbl0⟩, hB0⟩
    (fun x => { tmps := #[.pointer (some ⟨B, 0, none⟩), undef, .slice none 0 0, .pointer (some ⟨w.heap.size, 0, none⟩), .int .i64 (x : Nat), .pointer (some ⟨B, 0, none⟩), .func (.func 70) #[] #[.pointer (some ⟨w.heap.size + 1, 0, none⟩)], .int .i64 (x : Nat), undef, undef, undef, undef, undef, undef], defers := [] }) ?assign ?body ?done ?stop
  case assign =>
    intro l x W K hK
    gi_wp2
    exact hK
  case body =>
    rintro l pre x W ⟨⟨⟨v, hv, hrow, _⟩, hbl⟩, hB⟩ ⟨hx, hsx, hpre⟩
    have hc := hv.cell
    have hlp : pre.length ≤ 256 := by rw [hpre]; exact Nat.le_trans (valsTo_le s x) (by omega)
    have HB := Lib.hid hB
    have HBl := Lib.hid hbl
    have e8 : (x : Int) % 256 = x := by omega
    have HT : Hid (byteVs ((pre ++ [x]).map UInt8.ofNat) = byteVs (pre.map UInt8.ofNat) ++ [Value.int .u8 (x : Nat)] ∧ (pre ++ [x]).length = pre.length + 1) := Lib.hid ⟨by
      rw [List.map_append, byteVs_append]
      show _ ++ [Value.int .u8 ((UInt8.ofNat x).toNat : Int)] = _
      rw [ofNat_toNat x (by omega)], by simp⟩
    clear hpre hsx hB hbl
    gi_wp2_with (gi_at_builtin; refine wpListIn_append_own _ rfl _ _ 84 rfl w.heap.size 5 i0 (.int .u8 0) 1 1 Try.underlying84 HInf.out HZ0.out HZ1.out HZ2.out rfl (by decide) _ _ _ rfl (hrow.alloc _) ⟨W.heap.size, 0, none⟩ 1 1 [.int .u8 x] rfl rfl (cell_one_new _ _ _) (by simp [Value.oneCell']) (by unfold maxLen; omega) (by omega) (by have := HB.out.size; simp; omega) ?_; intro v' w1 hown' hgrow _; obtain ⟨g', cap', rfl⟩ := ownsRow_succ hown'; obtain ⟨hv1, hv2, hr2, hk2, hb2⟩ := hv.appended (by decide) hrow HB.out.size (Nat.le_refl _) hown' hgrow; have hc1 := hv1.cell; have hf1 := hv1.frozen)
    have hbl2 := keep_box (C := w.heap.size) (v' := .slice (some ⟨g', 0, none⟩) (pre.length + 1) cap') HBl.out (by decide) hrow hgrow (by omega)
    refine ⟨hk2, ⟨hbl2, hb2.block B hBlt⟩, ⟨⟨⟨_, hv2, ?_, trivial⟩, hbl2.trans HBl.out⟩, HB.out.trans hb2⟩⟩
    rw [HT.out.1, HT.out.2]; exact hr2
  case done =>
    rintro D ys W hD rfl ⟨⟨⟨v, hv, hrow, _⟩, hbl⟩, hB⟩ hK
    have hc := hv.cell
    rw [show byteVs ((vals s).map UInt8.ofNat) = byteVs (arrTo s 256) from rfl, show (vals s).length = (arrTo s 256).length from (arrTo_length s 256).symm] at hrow
    have HN : Hid (∃ v', Ending.returned v = .returned v' ∧ (W.putObj D (.deferred none)).ownsRow w.heap.size 5 1 v' (arrTo s 256).length (byteVs (arrTo s 256)) ∧ Below w.heap.size w (W.putObj D (.deferred none))) := Lib.hid ⟨v, rfl, ownsRow_putObj hrow _ hK rfl, hB.grown (grownBy_putObj' W D _) hB.size (fun k e => by cases e; omega)⟩
    clear hbl hB hv hrow
    go_wp2
    try rw [Exit.noGoto_ret]
    exact ⟨by simp, .inl ⟨_, _, rfl, run_takeDeferred hK, _, results_tmp (t := 2) rfl _ _ _, HN.out⟩⟩
  case stop =>
    rintro D cd pre W hD hSp h hK
    exact h.elim
end Go.Proofs.Ytbfchlfagdhglaa
/- (*set).asRuns. -/
namespace Go.Proofs.Ytbfchlfagdhglaa
open Go.RowKit
attribute [local go_sem] Oper.semAt_some

/-- The number behind the last one that has come. -/
def nxt (pre : List Nat) : Nat := match pre.getLast? with | none => 0 | some x => x + 1
theorem nxt_snoc (pre : List Nat) (x : Nat) : nxt (pre ++ [x]) = x + 1 := by unfold nxt; simp
theorem nxt_vals (s : Bs) (x : Nat) : nxt (valsTo s x) ≤ x ∧ (∀ n, nxt (valsTo s x) ≤ n → n < x → s n = false) ∧ (0 < nxt (valsTo s x) → s (nxt (valsTo s x) - 1) = true) := by
  induction x with
  | zero => exact ⟨by simp [valsTo, nxt], fun n _ h => by omega, fun h => by simp [valsTo, nxt] at h⟩
  | succ x ih =>
    by_cases h : s x = true
    · rw [valsTo_succ, if_pos h, nxt_snoc]
      exact ⟨Nat.le_refl _, fun n h1 h2 => by omega, fun _ => by simpa using h⟩
    · rw [valsTo_succ, if_neg h]
      refine ⟨by omega, fun n h1 h2 => ?_, ih.2.2⟩
      by_cases e : n = x
      · rw [e]; exact Bool.eq_false_iff.2 h
      · exact ih.2.1 n h1 (by omega)
theorem runs_gap {s : Bs} {p x : Nat} (h : p ≤ x) (hs : ∀ n, p ≤ n → n < x → s n = false) : runTo s x = runTo s p := by
  induction x with
  | zero => obtain rfl : p = 0 := by omega
            rfl
  | succ x ih =>
    by_cases e : p = x + 1
    · rw [e]
    · rw [runs_skip (hs x (by omega) (by omega)), ih (by omega) fun n h1 h2 => hs n h1 (by omega)]
theorem runs_nxt (s : Bs) (x : Nat) : runTo s (nxt (valsTo s x)) = runTo s x := by
  obtain ⟨h1, h2, _⟩ := nxt_vals s x
  exact (runs_gap h1 h2).symm
theorem nxt_join {s : Bs} {x : Nat} (h0 : 0 < x) (hp : s (x - 1) = true) : nxt (valsTo s x) = x := by
  obtain ⟨h1, h2, _⟩ := nxt_vals s x
  rcases Nat.lt_or_ge (nxt (valsTo s x)) x with h | h
  · have := h2 (x - 1) (by omega) (by omega)
    rw [hp] at this; cases this
  · omega
theorem nxt_new {s : Bs} {x : Nat} (hp : x = 0 ∨ s (x - 1) = false) : nxt (valsTo s x) ≠ x ∨ (nxt (valsTo s x) = x ∧ (flat (runTo s x)).length = 0) := by
  obtain ⟨h1, h2, h3⟩ := nxt_vals s x
  rcases Nat.lt_or_ge (nxt (valsTo s x)) x with h | h
  · exact .inl (by omega)
  · have e : nxt (valsTo s x) = x := by omega
    rcases hp with rfl | hp
    · exact .inr ⟨e, rfl⟩
    · rcases Nat.eq_zero_or_pos x with rfl | h0
      · exact .inr ⟨e, rfl⟩
      · rw [e] at h3
        have := h3 h0
        rw [hp] at this; cases this

/-- What holds between two rounds. -/
def RunI (w : World) (B : Nat) (s : Bs) (pre : List Nat) (W : World) : Prop :=
  (((∃ v, Boxed W w.heap.size 84 v ∧ W.ownsRow w.heap.size 5 1 v (flat (runTo s (nxt pre))).length (byteVs (flat (runTo s (nxt pre)))) ∧ True) ∧ Blk W (w.heap.size + 1) 3 #[.int .i64 (nxt pre : Nat)]) ∧ Blk W (w.heap.size + 1 + 1) 112 #[.pointer (some ⟨B, 0, none⟩)]) ∧ Below w.heap.size w W
theorem runI_own (w : World) (B : Nat) (s : Bs) (n : Nat) (hn : w.heap.size ≤ n) : OwnFrom n (RunI w B s) :=
  OwnFrom.and (OwnFrom.and (OwnFrom.and (Own.from (holdsRow_own w.heap.size w.heap.size 84 5 1 (fun (pre : List Nat) => (flat (runTo s (nxt pre))).length) (fun pre => byteVs (flat (runTo s (nxt pre)))) (fun _ _ => True)) _) (Own.from (blk_own _ _ (fun pre => #[.int .i64 (nxt pre : Nat)])) _)) (Own.from (blk_own _ _ (fun _ => #[.pointer (some ⟨B, 0, none⟩)])) _)) (ownFrom_below (Nat.le_refl _) hn)

/-- Behind the round that joins a number to the last run. -/
theorem RunI.join {w W : World} {B g cap m : Nat} {s : Bs} {x : Nat} {fr : List UInt8} (h : RunI w B s (valsTo s x) W) (hB : B < w.heap.size) (hv : Boxed W w.heap.size 84 (.slice (some ⟨g, 0, none⟩) (fr.length + 1) cap))
    (hrow : W.ownsRow w.heap.size 5 1 (.slice (some ⟨g, 0, none⟩) (fr.length + 1) cap) (fr.length + 1) (byteVs (fr ++ [UInt8.ofNat m]))) (hm : m < 255)
    (e2 : flat (runTo s (x + 1)) = fr ++ [UInt8.ofNat (m + 1)]) :
    KeepsOthers W ((W.setCell ⟨g, fr.length, none⟩ (.int .u8 ((m : Int) + 1))).setCell ⟨w.heap.size + 1, 0, none⟩ (.int .i64 ((x : Int) + 1))) ∧
    Keeps2 (w.heap.size + 1 + 1) B W ((W.setCell ⟨g, fr.length, none⟩ (.int .u8 ((m : Int) + 1))).setCell ⟨w.heap.size + 1, 0, none⟩ (.int .i64 ((x : Int) + 1))) ∧
    RunI w B s (valsTo s x ++ [x]) ((W.setCell ⟨g, fr.length, none⟩ (.int .u8 ((m : Int) + 1))).setCell ⟨w.heap.size + 1, 0, none⟩ (.int .i64 ((x : Int) + 1))) := by
  obtain ⟨⟨⟨_, hbn⟩, hbl⟩, hBel⟩ := h
  have hg := (hrow.lt g rfl).1
  have hgv : w.heap.size ≠ g := fun e => by
    have := hv.not_row (by decide) hrow
    exact this (by rw [e]; rfl)
  have hgn : w.heap.size + 1 ≠ g := fun e => by
    have := Boxed.not_row (show Boxed W (w.heap.size + 1) 3 _ from hbn) (by decide) hrow
    exact this (by rw [e]; rfl)
  have hgl : w.heap.size + 1 + 1 ≠ g := fun e => by
    have := Boxed.not_row (show Boxed W (w.heap.size + 1 + 1) 112 _ from hbl) (by decide) hrow
    exact this (by rw [e]; rfl)
  obtain ⟨hst, _⟩ := hrow.stored fr.length (.int .u8 ((m : Int) + 1))
  have hst2 := ownsRow_setCell_other hst (a := ⟨w.heap.size + 1, 0, none⟩) (by simp [Value.ownBlock]; omega) (.int .i64 ((x : Int) + 1))
  have hbel2 : Below w.heap.size w ((W.setCell ⟨g, fr.length, none⟩ (.int .u8 ((m : Int) + 1))).setCell ⟨w.heap.size + 1, 0, none⟩ (.int .i64 ((x : Int) + 1))) := (hBel.setCell (p := ⟨g, fr.length, none⟩) hg _).setCell (p := ⟨w.heap.size + 1, 0, none⟩) (by simp) _
  have hbl2 := (hbl.far (p := ⟨g, fr.length, none⟩) hgl (.int .u8 ((m : Int) + 1))).far (p := ⟨w.heap.size + 1, 0, none⟩) (by simp) (.int .i64 ((x : Int) + 1))
  refine ⟨(KeepsOthers.setCell _ _ _).trans (KeepsOthers.setCell _ _ _), ⟨hbl2.trans (Eq.symm hbl), ?_⟩, ⟨⟨⟨.slice (some ⟨g, 0, none⟩) (fr.length + 1) cap, ?_, ?_, trivial⟩, ?_⟩, hbl2⟩, hbel2⟩
  · rw [Below.heap_setCell _ _ _ _ (by simp; omega), Below.heap_setCell _ _ _ _ (by simp; omega)]
  · exact Blk.far (Blk.far hv (p := ⟨g, fr.length, none⟩) hgv _) (p := ⟨w.heap.size + 1, 0, none⟩) (by simp) _
  · rw [nxt_snoc, e2, List.length_append, ← byteVs_set fr (UInt8.ofNat m), ofNat_toNat (m + 1) (by omega)]
    exact hst2
  · have h1 := (hbn.far (p := ⟨g, fr.length, none⟩) hgn (.int .u8 ((m : Int) + 1))).set_ 0 (.int .i64 ((x : Int) + 1))
    rw [nxt_snoc]
    exact h1
/-- Behind the round that begins a run. -/
theorem RunI.new_ {w W w1 : World} {B g k cap : Nat} {s : Bs} {x : Nat} {v : Value} {bv : List Value} {tmp : Obj} (h : RunI w B s (valsTo s x) W) (hB : B < w.heap.size) (hv : Boxed W w.heap.size 84 v)
    (hrow : W.ownsRow w.heap.size 5 1 v k bv) (hown : w1.ownsRow w.heap.size 5 1 (.slice (some ⟨g, 0, none⟩) (k + 2) cap) (k + 2) (byteVs (flat (runTo s (x + 1))))) (hgrow : (W.alloc tmp).grownBy w1 v.ownBlock) (e2 : (flat (runTo s (x + 1))).length = k + 2) :
    KeepsOthers W ((w1.setCell ⟨w.heap.size, 0, none⟩ (.slice (some ⟨g, 0, none⟩) (k + 2) cap)).setCell ⟨w.heap.size + 1, 0, none⟩ (.int .i64 ((x : Int) + 1))) ∧
    Keeps2 (w.heap.size + 1 + 1) B W ((w1.setCell ⟨w.heap.size, 0, none⟩ (.slice (some ⟨g, 0, none⟩) (k + 2) cap)).setCell ⟨w.heap.size + 1, 0, none⟩ (.int .i64 ((x : Int) + 1))) ∧
    RunI w B s (valsTo s x ++ [x]) ((w1.setCell ⟨w.heap.size, 0, none⟩ (.slice (some ⟨g, 0, none⟩) (k + 2) cap)).setCell ⟨w.heap.size + 1, 0, none⟩ (.int .i64 ((x : Int) + 1))) := by
  obtain ⟨⟨⟨_, hbn⟩, hbl⟩, hBel⟩ := h
  obtain ⟨hv1, hv2, hr2, hk2, hb2⟩ := hv.appended (by decide) hrow hBel.size (Nat.le_refl _) hown hgrow
  have hbl2 := keep_box (C := w.heap.size) (v' := .slice (some ⟨g, 0, none⟩) (k + 2) cap) hbl (by decide) hrow hgrow (by omega)
  have hbn2 : Blk (w1.setCell ⟨w.heap.size, 0, none⟩ (.slice (some ⟨g, 0, none⟩) (k + 2) cap)) (w.heap.size + 1) 3 #[.int .i64 (nxt (valsTo s x) : Nat)] := (keep_box (C := w.heap.size) (v' := .slice (some ⟨g, 0, none⟩) (k + 2) cap) hbn (by decide) hrow hgrow (by omega)).trans hbn
  have hgn : w.heap.size + 1 ≠ g := fun e => by
    have := Boxed.not_row (show Boxed _ (w.heap.size + 1) 3 _ from hbn2) (by decide) hr2
    exact this (by rw [e]; rfl)
  have hbl3 : Blk (w1.setCell ⟨w.heap.size, 0, none⟩ (.slice (some ⟨g, 0, none⟩) (k + 2) cap)) (w.heap.size + 1 + 1) 112 #[.pointer (some ⟨B, 0, none⟩)] := hbl2.trans hbl
  have hbl4 := hbl3.far (p := ⟨w.heap.size + 1, 0, none⟩) (by simp) (.int .i64 ((x : Int) + 1))
  have hb3 := hb2.setCell (p := ⟨w.heap.size + 1, 0, none⟩) (by simp) (.int .i64 ((x : Int) + 1))
  refine ⟨hk2.trans (KeepsOthers.setCell _ _ _), ⟨hbl4.trans (Eq.symm hbl), hb3.block B hB⟩, ⟨⟨⟨.slice (some ⟨g, 0, none⟩) (k + 2) cap, ?_, ?_, trivial⟩, ?_⟩, hbl4⟩, hBel.trans hb3⟩
  · exact Blk.far hv2 (p := ⟨w.heap.size + 1, 0, none⟩) (by simp) _
  · rw [nxt_snoc, e2]
    exact ownsRow_setCell_other hr2 (a := ⟨w.heap.size + 1, 0, none⟩) (by simp [Value.ownBlock]; omega) _
  · have h1 := hbn2.set_ 0 (.int .i64 ((x : Int) + 1))
    rw [nxt_snoc]
    exact h1

set_option maxRecDepth 100000 in
set_option maxHeartbeats 4000000 in
theorem asRuns_any (B : Nat) (s : Bs) (w : World) (bB : Blk w B 92 (scl s)) :
    Calls Try.prog 84 #[.pointer (some ⟨B, 0, none⟩)] w fun e w' => ∃ v, e = .returned v ∧ w'.ownsRow w.heap.size 5 1 v (flat (runTo s 256)).length (byteVs (flat (runTo s 256))) ∧ Below w.heap.size w w' := by
  obtain ⟨i0, hi, hz0, hz1, hz2⟩ := info_parts info_u8
  have HInf := Lib.hid hi; have HZ0 := Lib.hid hz0; have HZ1 := Lib.hid hz1; have HZ2 := Lib.hid hz2
  clear hi hz0 hz1 hz2
  have hbx0 := (((Boxed.new w 84 (.slice none 0 0)).alloc (.cells #[.int .i64 0] 3))).alloc (.cells #[.pointer (some ⟨B, 0, none⟩)] 112)
  have hbn0 := (Blk.new (w.alloc (.cells #[.slice none 0 0] 84)) 3 #[.int .i64 0]).alloc (.cells #[.pointer (some ⟨B, 0, none⟩)] 112)
  have hbl0 := Blk.new ((w.alloc (.cells #[.slice none 0 0] 84)).alloc (.cells #[.int .i64 0] 3)) 112 #[.pointer (some ⟨B, 0, none⟩)]
  have hB0 : Below w.heap.size w (((w.alloc (.cells #[.slice none 0 0] 84)).alloc (.cells #[.int .i64 0] 3)).alloc (.cells #[.pointer (some ⟨B, 0, none⟩)] 112)) := (((Below.refl _ w).alloc (Nat.le_refl _) _).alloc (by simp) _).alloc (by simp; omega) _
  have hsz0 : (((w.alloc (.cells #[.slice none 0 0] 84)).alloc (.cells #[.int .i64 0] 3)).alloc (.cells #[.pointer (some ⟨B, 0, none⟩)] 112)).heap.size = w.heap.size + 1 + 1 + 1 := by simp
  have hrow0 := World.ownsRow_nil (((w.alloc (.cells #[.slice none 0 0] 84)).alloc (.cells #[.int .i64 0] 3)).alloc (.cells #[.pointer (some ⟨B, 0, none⟩)] 112)) w.heap.size 5 1
  rw [World.size_alloc] at hbn0
  rw [World.size_alloc, World.size_alloc] at hbl0
  have bB0 := bB.under hB0
  have hBlt := bB.lt
  clear bB
  refine (callsIn_wide (n := 4)).1 ?_
  refine callsIn_of_wp_marks Try.func84 rfl trivial ?_ rfl
  simp only [Try.ntmps84, List.size_toArray, List.length_cons, List.length_nil, Nat.reduceAdd, Nat.reduceSub, Array.replicate_succ, Array.replicate_zero, List.push_toArray, List.append_toArray, List.nil_append, List.cons_append]
  rw [wpIn_wide]
  go_wp2_with (go_at_call 55; refine (numbers_any _ _).mono ?_; rintro e w' ⟨rfl, rfl⟩)
  generalize (((w.alloc (.cells #[.slice none 0 0] 84)).alloc (.cells #[.int .i64 0] 3)).alloc (.cells #[.pointer (some ⟨B, 0, none⟩)] 112)) = W0 at *
  refine (wpIn_wide (n := 4)).1 ?_
  refine wpIn_rangeFunc_nextD (n := 4) rfl (by decide) (gf := 70) (lb := #[.pointer (some ⟨w.heap.size + 1 + 1, 0, none⟩)]) rfl trivial (enters_of Try.func70 (by kernel_rfl) rfl)
    (numbers_seq 3 (by decide) (w.heap.size + 1 + 1) B s W0 hbl0 bB0) keeps2_t (fun W l o hl => keeps2_b (B := W0.heap.size) (by omega) (by omega) W l o hl) (fun _ => rfl)
    (RunI w B s) (fun _ _ _ => False) (runI_own w B s _ (by omega)) (fun _ _ _ _ _ hs _ _ => hs)
    ⟨⟨⟨⟨_, hbx0, hrow0, trivial⟩, hbn0⟩, hbl0⟩, hB0⟩
    (fun x => { tmps := #[.pointer (some ⟨B, 0, none⟩), undef, .slice none 0 0, .pointer (some ⟨w.heap.size, 0, none⟩), .pointer (some ⟨w.heap.size + 1, 0, none⟩), .int .i64 (x : Nat), .pointer (some ⟨B, 0, none⟩), .func (.func 70) #[] #[.pointer (some ⟨w.heap.size + 1 + 1, 0, none⟩)], .int .i64 (x : Nat), undef, undef, undef, undef, undef, undef, undef, undef, undef, undef, undef, undef, undef, undef, undef, undef, undef, undef, undef, undef, undef, undef, undef, undef], defers := [] }) ?assign ?body ?done ?stop
  case assign =>
    intro l x W K hK
    gi_wp2
    exact hK
  case body =>
    rintro l pre x W hI ⟨hx, hsx, rfl⟩
    have HI := Lib.hid hI
    obtain ⟨⟨⟨⟨v, hv, hrow, _⟩, hbn⟩, hbl⟩, hB⟩ := hI
    have hc := hv.cell
    have hc2 := hbn.cell 0
    dsimp at hc2
    rw [runs_nxt] at hrow
    have hl := flat_le s x
    have hsW := hB.size
    clear hB hbl
    by_cases hj : 0 < x ∧ s (x - 1) = true
    · obtain ⟨fr, m, hm, e1, e2⟩ := runs_join hx hsx hj.1 hj.2
      rw [nxt_join hj.1 hj.2] at hc2
      rw [e1] at hrow hl
      have hfl : (fr ++ [UInt8.ofNat m]).length = fr.length + 1 := by simp
      rw [hfl] at hrow hl
      obtain ⟨g, cap, rfl⟩ := ownsRow_succ hrow
      have HP := Lib.hid (HI.out.join hBlt hv hrow hm e2)
      have b0 := hrow.cellAt fr.length (by omega)
      rw [byteVs_append, List.getElem?_append_right (by rw [byteVs_length]; exact Nat.le_refl _), byteVs_length, Nat.sub_self] at b0
      have b1 : W.cell? ⟨g, fr.length, none⟩ = some (.int .u8 (m : Int)) := by
        rw [b0]
        show some (Value.int .u8 ((UInt8.ofNat m).toNat : Int)) = _
        rw [ofNat_toNat m (by omega)]
      have f0 := hrow.frozenAt fr.length
      have f1 := hbn.frozen 0
      have hgn : w.heap.size + 1 ≠ g := fun e => by
        have := Boxed.not_row (show Boxed W (w.heap.size + 1) 3 _ from hbn) (by decide) hrow
        exact this (by rw [e]; rfl)
      have hgn2 : g ≠ w.heap.size + 1 := fun e => hgn e.symm
      have hm1 : ((m : Int) + 1) % 256 = (m : Int) + 1 := by omega
      have hx0 : (x : Int) = (x : Int) := rfl
      have c3 : (W.setCell ⟨g, fr.length, none⟩ (.int .u8 ((m : Int) + 1))).cell? ⟨w.heap.size + 1, 0, none⟩ = some (.int .i64 x) := (World.cell?_setCell_other _ _ _ _ (by simp)).trans hc2
      clear hv hrow hbn b0 e1 e2 hfl hj hsx hx0
      generalize fr.length = n at *
      gi_wp2
      exact HP.out
    · have hp : x = 0 ∨ s (x - 1) = false := by
        rcases Nat.eq_zero_or_pos x with h | h
        · exact .inl h
        · exact .inr (Bool.eq_false_iff.2 fun e => hj ⟨h, e⟩)
      have hN := runs_new hsx hp
      have HT : Hid (byteVs (flat (runTo s (x + 1))) = byteVs (flat (runTo s x)) ++ [Value.int .u8 (x : Nat), Value.int .u8 0] ∧ (flat (runTo s (x + 1))).length = (flat (runTo s x)).length + 2) := Lib.hid (by
        rw [hN, byteVs_append, List.length_append]
        refine ⟨?_, rfl⟩
        show _ ++ [Value.int .u8 ((UInt8.ofNat x).toNat : Int), Value.int .u8 0] = _
        rw [ofNat_toNat x hx])
      have hcase := nxt_new hp
      have e8 : (x : Int) % 256 = x := by omega
      obtain ⟨y, hy⟩ : ∃ y, y = nxt (valsTo s x) := ⟨_, rfl⟩
      rw [← hy] at hc2 hbn hcase
      generalize hbv : byteVs (flat (runTo s x)) = bv at *
      generalize hk : (flat (runTo s x)).length = k at *
      clear hN hp hj hbv hk hsx hy
      rcases hcase with h1 | ⟨h1, h2⟩
      · have h1' : ((x : Int) == (y : Int)) = false := by rw [beq_eq_false_iff_ne]; omega
        clear h1
        gi_wp2_with (gi_at_builtin; refine wpListIn_append_own _ rfl _ _ 84 rfl w.heap.size 5 i0 (.int .u8 0) 1 1 Try.underlying84 HInf.out HZ0.out HZ1.out HZ2.out rfl (by decide) _ _ _ rfl (hrow.alloc _) ⟨W.heap.size, 0, none⟩ 2 2 [.int .u8 x, .int .u8 0] rfl rfl (cell_two_new _ _ _ _) (by simp [Value.oneCell']) (by unfold maxLen; omega) (by omega) (by simp; omega) ?_; intro v' w1 hown' hgrow _; obtain ⟨g', cap', rfl⟩ := ownsRow_succ hown'; obtain ⟨hv1, hv2, hr2, hk2, hb2⟩ := hv.appended (by decide) hrow hsW (Nat.le_refl _) hown' hgrow; have hc1 := hv1.cell; have hf1 := hv1.frozen; have hc3 := fun v2 => (keep_cell (C := w.heap.size) hbn (by decide) hrow hgrow (by omega) v2).1; have hf3 := fun v2 => (keep_cell (C := w.heap.size) hbn (by decide) hrow hgrow (by omega) v2).2; clear hv1 hv2 hr2 hk2 hb2)
        rw [← HT.out.1] at hown'
        exact HI.out.new_ hBlt hv hrow hown' hgrow HT.out.2
      · obtain rfl : x = y := h1.symm
        subst h2
        obtain ⟨xv, cv, rfl⟩ := own_form hrow
        gi_wp2_with (gi_at_builtin; refine wpListIn_append_own _ rfl _ _ 84 rfl w.heap.size 5 i0 (.int .u8 0) 1 1 Try.underlying84 HInf.out HZ0.out HZ1.out HZ2.out rfl (by decide) _ _ _ rfl (hrow.alloc _) ⟨W.heap.size, 0, none⟩ 2 2 [.int .u8 x, .int .u8 0] rfl rfl (cell_two_new _ _ _ _) (by simp [Value.oneCell']) (by unfold maxLen; omega) (by omega) (by simp; omega) ?_; intro v' w1 hown' hgrow _; obtain ⟨g', cap', rfl⟩ := ownsRow_succ hown'; obtain ⟨hv1, hv2, hr2, hk2, hb2⟩ := hv.appended (by decide) hrow hsW (Nat.le_refl _) hown' hgrow; have hc1 := hv1.cell; have hf1 := hv1.frozen; have hc3 := fun v2 => (keep_cell (C := w.heap.size) hbn (by decide) hrow hgrow (by omega) v2).1; have hf3 := fun v2 => (keep_cell (C := w.heap.size) hbn (by decide) hrow hgrow (by omega) v2).2; clear hv1 hv2 hr2 hk2 hb2)
        rw [← HT.out.1] at hown'
        exact HI.out.new_ hBlt hv hrow hown' hgrow HT.out.2
  case done =>
    rintro D ys W hD rfl ⟨⟨⟨⟨v, hv, hrow, _⟩, hbn⟩, hbl⟩, hB⟩ hK
    have hc := hv.cell
    rw [show vals s = valsTo s 256 from rfl, runs_nxt] at hrow
    have HN : Hid (∃ v', Ending.returned v = .returned v' ∧ (W.putObj D (.deferred none)).ownsRow w.heap.size 5 1 v' (flat (runTo s 256)).length (byteVs (flat (runTo s 256))) ∧ Below w.heap.size w (W.putObj D (.deferred none))) := Lib.hid ⟨v, rfl, ownsRow_putObj hrow _ hK rfl, hB.grown (grownBy_putObj' W D _) hB.size (fun k e => by cases e; omega)⟩
    clear hbl hB hv hrow hbn
    go_wp2
    try rw [Exit.noGoto_ret]
    exact ⟨by simp, .inl ⟨_, _, rfl, run_takeDeferred hK, _, results_tmp (t := 2) rfl _ _ _, HN.out⟩⟩
  case stop =>
    rintro D cd pre W hD hSp h hK
    exact h.elim
end Go.Proofs.Ytbfchlfagdhglaa
/- (*set).as, (*set).best. -/
namespace Go.Proofs.Ytbfchlfagdhglaa
open Go.RowKit

/-- What a call of as answers. -/
def okF (f : Int) : Prop := 1 ≤ f ∧ f ≤ 3
instance (f : Int) : Decidable (okF f) := by unfold okF; infer_instance
def asV (s : Bs) (f : Int) : Value := if okF f then .tuple #[contV f (formS s f.toNat), .int .i64 0] else .tuple #[contV 0 [], .int .i64 60]
/-- The result's cell, over the walk. -/
def ResSt (w wr : World) : Prop := Blk wr w.heap.size 52 #[.int .i64 0, .string ⟨#[]⟩] ∧ Below w.heap.size w wr
theorem ResSt.start (w : World) : ResSt w (w.alloc (.cells #[.int .i64 0, .string ⟨#[]⟩] 52)) := ⟨Blk.new w _ _, (Below.refl _ w).alloc (Nat.le_refl _) _⟩
theorem ResSt.under {w wr w2 : World} (h : ResSt w wr) (hb : Below wr.heap.size wr w2) : ResSt w w2 := ⟨h.1.under hb, h.2.trans (hb.mono h.2.size)⟩
theorem ResSt.done {w wr : World} (h : ResSt w wr) (x y : Value) : Blk ((wr.setCell ⟨w.heap.size, 0, none⟩ x).setCell ⟨w.heap.size, 1, none⟩ y) w.heap.size 52 #[x, y] ∧ Below w.heap.size w ((wr.setCell ⟨w.heap.size, 0, none⟩ x).setCell ⟨w.heap.size, 1, none⟩ y) :=
  ⟨h.1.set2 x y, (h.2.setCell (Nat.le_refl _) _).setCell (Nat.le_refl _) _⟩
theorem conv_set {w : World} {B : Nat} {s : Bs} (h : Blk w B 92 (scl s)) : (convert 84 9 (.slice (some ⟨B, 0, none⟩) 32 32)).run Try.prog w = .ok (.string ⟨(bitsTo s 256).toArray⟩) w := by
  have := run_convert_bytes_back w 84 9 5 ⟨B, 0, none⟩ 32 (bitsTo s 256) Try.underlying84 Try.underlying5 Try.underlying9 (fun j hj => by
    have hj' : j < 32 := by rw [bitsTo_length] at hj; exact hj
    rw [show (⟨B, 0, none⟩ : Addr).add j = ⟨B, j, none⟩ by unfold Addr.add; split <;> simp_all, h.cell j, scl_get hj']
    have e : ((UInt8.ofNat (byteS s 256 j)).toNat : Int) = byteS s 256 j := by rw [ofNat_toNat _ (byteS_lt s 256 j)]
    rw [← e]
    simp only [bitsTo, List.getElem_map, List.getElem_range])
  rwa [bitsTo_length] at this

set_option maxRecDepth 100000 in
set_option maxHeartbeats 4000000 in
theorem as_any (B : Nat) (s : Bs) (f : Int) (hf1 : -9223372036854775808 ≤ f) (hf2 : f ≤ 9223372036854775807) (w : World) (bB : Blk w B 92 (scl s)) :
    Calls Try.prog 69 #[.pointer (some ⟨B, 0, none⟩), .int .i64 f] w fun e w' => e = .returned (asV s f) ∧ Below w.heap.size w w' := by
  have hS0 := ResSt.start w
  have bB0 := bB.under hS0.2
  have hBlt := bB.lt
  have HS0 := Lib.hid hS0
  have c0 := hS0.1.cell 0; have c1 := hS0.1.cell 1; have f0 := hS0.1.frozen 0; have f1 := hS0.1.frozen 1
  dsimp at c0 c1
  clear bB hS0
  by_cases h1 : f = 1
  · have HV : Hid (asV s f = .tuple #[.agg #[.int .i64 1, .string ⟨(arrTo s 256).toArray⟩], .int .i64 0]) := Lib.hid (by subst h1; rfl)
    subst h1
    have HA := Lib.hid (asArray_any B s _ bB0)
    go_enter Try.func69, Try.ntmps69
    go_wp2_with fail
    refine HA.out.mono ?_
    rintro e w1 ⟨v, rfl, hown, hb1⟩
    have hS1 := HS0.out.under hb1
    have hcv := conv_own hown rfl
    have c0 := hS1.1.cell 0; have c1 := hS1.1.cell 1; have f0 := hS1.1.frozen 0; have f1 := hS1.1.frozen 1
    dsimp at c0 c1
    have hD := hS1.done (.int .i64 1) (.string ⟨(arrTo s 256).toArray⟩)
    clear hown hS1 hb1
    go_wp2
    exact ret_cont2 rfl rfl hD.1 rfl ⟨by rw [HV.out]; rfl, hD.2⟩
  by_cases h2 : f = 2
  · have HV : Hid (asV s f = .tuple #[.agg #[.int .i64 2, .string ⟨(bitsTo s 256).toArray⟩], .int .i64 0]) := Lib.hid (by subst h2; rfl)
    subst h2
    have hcv := conv_set bB0
    have hD : Blk (w.alloc (.cells #[.int .i64 2, .string ⟨(bitsTo s 256).toArray⟩] 52)) w.heap.size 52 #[.int .i64 2, .string ⟨(bitsTo s 256).toArray⟩] ∧ Below w.heap.size w (w.alloc (.cells #[.int .i64 2, .string ⟨(bitsTo s 256).toArray⟩] 52)) := ⟨Blk.new w _ _, (Below.refl _ w).alloc (Nat.le_refl _) _⟩
    clear h1
    go_enter Try.func69, Try.ntmps69
    go_wp2
    exact ret_cont2 rfl rfl hD.1 rfl ⟨by rw [HV.out]; rfl, hD.2⟩
  by_cases h3 : f = 3
  · have HV : Hid (asV s f = .tuple #[.agg #[.int .i64 3, .string ⟨(flat (runTo s 256)).toArray⟩], .int .i64 0]) := Lib.hid (by subst h3; rfl)
    subst h3
    have HA := Lib.hid (asRuns_any B s _ bB0)
    clear h1 h2
    go_enter Try.func69, Try.ntmps69
    go_wp2_with fail
    refine HA.out.mono ?_
    rintro e w1 ⟨v, rfl, hown, hb1⟩
    have hS1 := HS0.out.under hb1
    have hcv := conv_own hown rfl
    have c0 := hS1.1.cell 0; have c1 := hS1.1.cell 1; have f0 := hS1.1.frozen 0; have f1 := hS1.1.frozen 1
    dsimp at c0 c1
    have hD := hS1.done (.int .i64 3) (.string ⟨(flat (runTo s 256)).toArray⟩)
    clear hown hS1 hb1
    go_wp2
    exact ret_cont2 rfl rfl hD.1 rfl ⟨by rw [HV.out]; rfl, hD.2⟩
  have HV : Hid (asV s f = .tuple #[.agg #[.int .i64 0, .string ⟨#[]⟩], .int .i64 60]) := Lib.hid (by unfold asV; rw [if_neg (by unfold okF; omega)]; rfl)
  have h1' : (f == 1) = false := by simpa using h1
  have h2' : (f == 2) = false := by simpa using h2
  have h3' : (f == 3) = false := by simpa using h3
  have hD : Blk (w.alloc (.cells #[.int .i64 0, .string ⟨#[]⟩] 52)) w.heap.size 52 #[.int .i64 0, .string ⟨#[]⟩] ∧ Below w.heap.size w (w.alloc (.cells #[.int .i64 0, .string ⟨#[]⟩] 52)) := ResSt.start w
  clear h1 h2 h3
  go_enter Try.func69, Try.ntmps69
  go_wp2
  exact ret_cont2 rfl rfl hD.1 rfl ⟨by rw [HV.out]; rfl, hD.2⟩
end Go.Proofs.Ytbfchlfagdhglaa
