/- (*set).count; (*set).numbers: the numbers of a set, rising, for every loop's body that keeps the set. -/
import Derived.Test.YtpjcndfamhehlaaCBits
import Derived.Test.YtpjcndfamhehlaaLNextD
import Derived.RegionIn
namespace Go.Proofs.Ytpjcndfamhehlaa
open Go.RowKit
attribute [local go_sem] Oper.semAt_some

theorem and8 (a b : Nat) (ha : a < 256) (hb : b < 256) : bits .and .u8 (a : Int) (b : Int) = ((a &&& b : Nat) : Int) := by
  show IntKind.u8.wrap ((BitVec.ofInt 8 a &&& BitVec.ofInt 8 b).toNat : Int) = _
  rw [BitVec.toNat_and, BitVec.toNat_ofInt, BitVec.toNat_ofInt]
  rw [show ((a : Int) % ((2 ^ 8 : Nat) : Int)).toNat = a by omega, show ((b : Int) % ((2 ^ 8 : Nat) : Int)).toNat = b by omega]
  have := Nat.and_lt_two_pow (n := 8) a hb
  simp [IntKind.wrap, IntKind.bits, IntKind.signed]
  omega

/-- What an iterator leaves; hidden from the walk. -/
def SeqPost {α : Type} (S Sp : List α → Prop) (J Jx : List α → World → Prop) (e : Ending) (W' : World) : Prop := (∃ v, e = .returned v) ∧ ((∃ ys, S ys ∧ J ys W') ∨ (∃ pre, Sp pre ∧ Jx pre W'))
theorem SeqPost.all {α : Type} {S Sp : List α → Prop} {J Jx : List α → World → Prop} {v : Value} {W' : World} {ys : List α} (h : S ys) (hj : J ys W') : SeqPost S Sp J Jx (.returned v) W' := ⟨⟨_, rfl⟩, .inl ⟨ys, h, hj⟩⟩
theorem SeqPost.stop {α : Type} {S Sp : List α → Prop} {J Jx : List α → World → Prop} {v : Value} {W' : World} {ys : List α} (h : Sp ys) (hj : Jx ys W') : SeqPost S Sp J Jx (.returned v) W' := ⟨⟨_, rfl⟩, .inr ⟨ys, h, hj⟩⟩
/-- Two blocks lie as they lay. -/
def Keeps2 (Ba Bb : Nat) (W W' : World) : Prop := W'.heap[Ba]? = W.heap[Ba]? ∧ W'.heap[Bb]? = W.heap[Bb]?
theorem keeps2_t {Ba Bb : Nat} {A B C : World} (h : Keeps2 Ba Bb A B) (k : Keeps2 Ba Bb B C) : Keeps2 Ba Bb A C := ⟨k.1.trans h.1, k.2.trans h.2⟩
theorem keeps2_b {Ba Bb B : Nat} (ha : Ba < B) (hb : Bb < B) (W : World) (l : Nat) (o : Obj) (hl : B ≤ l) : Keeps2 Ba Bb W (W.putObj l o) :=
  ⟨World.putObj_heap_other (by omega), World.putObj_heap_other (by omega)⟩
theorem keeps2_set {Ba Bb : Nat} (W : World) (p : Addr) (v : Value) (ha : Ba ≠ p.block) (hb : Bb ≠ p.block) : Keeps2 Ba Bb W (W.setCell p v) :=
  ⟨Below.heap_setCell W p v Ba ha, Below.heap_setCell W p v Bb hb⟩
theorem keeps2_below {Ba Bb B : Nat} {W W' : World} (h : Below B W W') (ha : Ba < B) (hb : Bb < B) : Keeps2 Ba Bb W W' := ⟨h.block _ ha, h.block _ hb⟩

theorem blk_own {β : Type} (g : Nat) (t : TypeId) (f : β → Array Value) : Own (fun s W => Blk W g t (f s)) := fun s X Y row hs hg hr =>
  (hg.block g hs.lt (fun e => by
    obtain ⟨o, ho, hc⟩ := hr g e.symm
    rw [show X.heap[g]? = _ from hs] at ho; cases ho; cases hc)).trans hs
/-- A box of another type than a slice's elements, over an append to the slice and the store into the slice's box. -/
theorem keep_box {W w1 : World} {n₀ Bl C k : Nat} {t e : TypeId} {u v v' : Value} {xs : List Value} {tmp : Obj} (hb : Blk W Bl t #[u]) (hte : t ≠ e) (hrow : W.ownsRow n₀ e 1 v k xs) (hgrow : (W.alloc tmp).grownBy w1 v.ownBlock) (hne : Bl ≠ C) : (w1.setCell ⟨C, 0, none⟩ v').heap[Bl]? = W.heap[Bl]? :=
  (Below.heap_setCell _ _ _ _ hne).trans ((hgrow.block Bl (hb.alloc tmp).lt (fun e2 => Boxed.not_row (show Boxed W Bl t u from hb) hte hrow e2)).trans (Below.heap_alloc W tmp Bl hb.lt))

theorem keep_cell {W w1 : World} {n₀ Bl C k : Nat} {t e : TypeId} {u v : Value} {xs : List Value} {tmp : Obj} (hb : Blk W Bl t #[u]) (hte : t ≠ e) (hrow : W.ownsRow n₀ e 1 v k xs) (hgrow : (W.alloc tmp).grownBy w1 v.ownBlock) (hne : Bl ≠ C) (v' : Value) : (w1.setCell ⟨C, 0, none⟩ v').cell? ⟨Bl, 0, none⟩ = some u ∧ (w1.setCell ⟨C, 0, none⟩ v').frozen? ⟨Bl, 0, none⟩ = false := by
  have h : Blk (w1.setCell ⟨C, 0, none⟩ v') Bl t #[u] := (keep_box hb hte hrow hgrow hne).trans hb
  exact ⟨h.cell 0, h.frozen 0⟩

theorem numbers_any (p : Option Addr) (w : World) :
    Calls Try.prog 37 #[.pointer p] w fun e w' => e = .returned (.func (.func 45) #[] #[.pointer (some ⟨w.heap.size, 0, none⟩)]) ∧ w' = w.alloc (.cells #[.pointer p] 67) := by
  go_enter Try.func37, Try.ntmps37
  go_wp2
  go_ret
  exact ⟨rfl, rfl⟩

/-- What comes next: the next number. -/
def NextS (s : Bs) (pre : List Nat) (x : Nat) : Prop := x < 256 ∧ s x = true ∧ pre = valsTo s x
/-- The state between two numbers. -/
def NumSt (Bl B : Nat) (s : Bs) (J : List Nat → World → Prop) (p : Nat) (wr : World) : Prop := J (valsTo s p) wr ∧ Blk wr Bl 67 #[.pointer (some ⟨B, 0, none⟩)] ∧ Blk wr B 48 (scl s)

set_option maxRecDepth 100000 in
set_option maxHeartbeats 4000000 in
theorem numbers1_in (n : Nat) (hn : 1 ≤ n) (l Bl B : Nat) (s : Bs) (J Jx : List Nat → World → Prop)
    (hY : ∀ pre x W, J pre W → NextS s pre x → YieldAt Fence.wide (n - 1) Try.prog l #[.int .i64 (x : Nat)] W fun e W' =>
      (e = .returned (.bool true) ∧ J (pre ++ [x]) W' ∧ Keeps2 Bl B W W') ∨ (e = .returned (.bool false) ∧ Jx (pre ++ [x]) W'))
    (W : World) (bl : Blk W Bl 67 #[.pointer (some ⟨B, 0, none⟩)]) (bB : Blk W B 48 (scl s)) (h0 : J [] W) (hJd : ∀ pre W1, J pre W1 → J pre W1.drew) :
    CallsIn Fence.wide n Try.prog 45 #[.func (.yield l) #[] #[], .pointer (some ⟨Bl, 0, none⟩)] W (SeqPost (fun ys => ys = vals s) (fun pre => ∃ x, x < 256 ∧ s x = true ∧ pre = valsTo s (x + 1)) J Jx) := by
  have c0 := bl.cell 0
  dsimp at c0
  have HS0 : Hid (NumSt Bl B s J (8 * 0) W) := Lib.hid ⟨h0, bl, bB⟩
  have HY := Lib.hid hY
  clear bl bB h0 hY
  refine callsIn_of_wp Try.func45 rfl trivial ?_ rfl
  simp only [Try.ntmps45, List.size_toArray, List.length_cons, List.length_nil, Nat.reduceAdd, Nat.reduceSub, Array.replicate_succ, Array.replicate_zero, List.push_toArray, List.append_toArray, List.nil_append, List.cons_append]
  gi_wp2
  gi_loopw [6] (fun i wr => ∃ k : Nat, k ≤ 32 ∧ i = .int .i64 k ∧ NumSt Bl B s J (8 * k) wr)
    (fun i _ => 32 - (intOf i).toNat)
  case atStart => exact ⟨0, Nat.zero_le _, rfl, HS0.out⟩
  case round =>
    obtain ⟨k, hk, rfl, hS⟩ := hrel
    by_cases hlt : k < 32
    · have hlt' : (k : Int) < 32 := by omega
      have d0 := hS.2.2.cell k
      rw [scl_get hlt] at d0
      have HS := Lib.hid hS
      clear hS
      have hbs := byteS_start s k hlt
      have hbl := byteS_lt s 256 k
      obtain ⟨d, hd⟩ : ∃ d, d = byteS s 256 k := ⟨_, rfl⟩
      rw [← hd] at d0 hbs hbl
      have HD : Hid (d = byteS (fromS s (8 * k)) 256 k) := Lib.hid hbs.symm
      clear hd hbs
      gi_wp2
      gi_region
      all_goals
        have HSd : Hid (NumSt Bl B s J (8 * k) wr.drew) := Lib.hid ⟨hJd _ _ HS.out.1, HS.out.2.1, HS.out.2.2⟩
        clear HS
        gi_wp2
        gi_loopw [4] (fun i wi => ∃ p d : Nat, 8 * k ≤ p ∧ p ≤ 8 * k + 8 ∧ d < 256 ∧ i = .int .u8 d ∧ Hid (d = byteS (fromS s p) 256 k) ∧ NumSt Bl B s J p wi)
          (fun i _ => (intOf i).toNat)
        case atStart => exact ⟨8 * k, d, Nat.le_refl _, by omega, hbl, rfl, HD, HSd.out⟩
        case round =>
          obtain ⟨p, d, hp1, hp2, hd, rfl, HDp, hSi⟩ := hrel
          by_cases hd0 : d = 0
          · have HN : Hid (NumSt Bl B s J (8 * (k + 1)) wr) := Lib.hid ⟨by
              rw [valsTo_skip (s := s) (p := p) (x := 8 * (k + 1)) (by omega) (fun n h1 h2 => byteS_none hlt hp1 (by rw [← HDp.out, hd0]) n h1 h2)]
              exact hSi.1, hSi.2.1, hSi.2.2⟩
            clear hSi HDp
            have hd0' : ((d : Int) == 0) = true := by rw [hd0]; rfl
            gi_wp2
            refine ⟨⟨k + 1, by omega, by simp, HN.out⟩, by simp [intOf]; omega⟩
          · obtain ⟨g1, g2, g3, g4, g5⟩ := byteS_next (s := s) hlt hp1 (by rw [← HDp.out]; exact hd0)
            rw [← HDp.out] at g1 g2 g3 g4 g5
            have hx : 8 * k + tz d < 256 := by omega
            have hpre : valsTo s (8 * k + tz d) = valsTo s p := valsTo_skip g2 g4
            have hsucc : valsTo s (8 * k + tz d + 1) = valsTo s p ++ [8 * k + tz d] := by rw [valsTo_succ, if_pos g3, hpre]
            obtain ⟨fn, tmps, assign, body, hy, hR⟩ := HY.out (valsTo s p) (8 * k + tz d) wr hSi.1 ⟨hx, g3, hpre.symm⟩
            have HT := Lib.hid (tz_any d hd wr)
            have hand := and8 d (d - 1) hd (by omega)
            have hlt2 : d &&& (d - 1) < d := Nat.lt_of_le_of_lt Nat.and_le_right (by omega)
            have HG5 := Lib.hid g5
            have HX : Hid (tz d < 8 ∧ 8 * k ≤ 8 * k + tz d + 1) := Lib.hid ⟨g1, by omega⟩
            have HSucc := Lib.hid hsucc
            have HSi := Lib.hid hSi
            have HG3 := Lib.hid g3
            have hdc : ((d - 1 : Nat) : Int) = (d : Int) - 1 := by omega
            have hd0' : ((d : Int) == 0) = false := by simpa using hd0
            have h255 : ((d : Int) - 1) % 256 = (d : Int) - 1 := by omega
            rw [hdc] at hand
            rw [show ((8 * k + tz d : Nat) : Int) = 8 * (k : Int) + (tz d : Nat) by omega] at hy
            clear g5 hsucc hpre g4 hSi g3 HDp
            generalize htz : tz d = t at *
            generalize d &&& (d - 1) = d2 at *
            clear htz hdc
            gi_wp2_with (refine ⟨trivial, ?_⟩; gi_at_call 46; refine (callsIn_wide.2 HT.out).mono ?_; rintro e w' ⟨rfl, rfl⟩)
            refine hR.mono ?_
            rintro e W3 (⟨rfl, hJ3, hk3⟩ | ⟨rfl, hJx3⟩)
            · gi_wp2
              go_roundw
              case rel => exact ⟨8 * k + t + 1, d2, HX.out.2, by omega, by omega, rfl, HG5, by rw [HSucc.out]; exact hJ3, hk3.1.trans HSi.out.2.1, hk3.2.trans HSi.out.2.2⟩
              case measure => simp [intOf]; omega
            · gi_wp2
              refine bodyPost_ret (results_none rfl _ _ _) rfl ?_
              exact .stop ⟨8 * k + t, hx, HG3.out, HSucc.out.symm⟩ hJx3
    · have hge : ¬ (k : Int) < 32 := by omega
      have HE : Hid (J (vals s) wr) := Lib.hid (by obtain rfl : k = 32 := by omega
                                                   exact hS.1)
      clear hS
      gi_wp2
      all_goals
        go_end0
        exact .all rfl HE.out

/-- The numbers, for a loop's body that keeps the set and the box that its address was boxed in. -/
theorem numbers_seq (n : Nat) (hn : 1 ≤ n) (Bl B : Nat) (s : Bs) (w : World) (bl : Blk w Bl 67 #[.pointer (some ⟨B, 0, none⟩)]) (bB : Blk w B 48 (scl s)) :
    SeqD Fence.wide n Try.prog 45 #[.pointer (some ⟨Bl, 0, none⟩)] (fun x : Nat => #[.int .i64 (x : Nat)]) (NextS s) (Keeps2 Bl B) (fun ys => ys = vals s) (fun pre => ∃ x, x < 256 ∧ s x = true ∧ pre = valsTo s (x + 1)) w := fun l J Jx W hW hY h0 hJd =>
  numbers1_in n hn l Bl B s J Jx hY W (bl.under hW) (bB.under hW) h0 hJd

set_option maxRecDepth 100000 in
set_option maxHeartbeats 2000000 in
theorem count_any (B : Nat) (s : Bs) (w : World) (bB : Blk w B 48 (scl s)) :
    Calls Try.prog 39 #[.pointer (some ⟨B, 0, none⟩)] w fun e w' => e = .returned (.int .i64 ((vals s).length : Nat)) ∧ Below w.heap.size w w' := by
  have HB := Lib.hid bB
  clear bB
  go_enter Try.func39, Try.ntmps39
  go_wp2
  go_loopw [3, 7] (fun c i wr => ∃ k : Nat, k ≤ 32 ∧ i = .int .i64 k ∧ c = .int .i64 ((valsTo s (8 * k)).length : Nat) ∧ wr = w)
    (fun _ i _ => 32 - (intOf i).toNat)
  case atStart => exact ⟨0, Nat.zero_le _, rfl, rfl, rfl⟩
  case round =>
    obtain ⟨k, hk, rfl, rfl, rfl⟩ := hrel
    by_cases hlt : k < 32
    · have hlt' : (k : Int) < 32 := by omega
      have d0 := HB.out.cell k
      rw [scl_get hlt] at d0
      have HV := Lib.hid (valsTo_eight s k hlt)
      have hle := valsTo_le s (8 * k)
      have hbl := byteS_lt s 256 k
      have HO := Lib.hid (ones_any (byteS s 256 k) hbl wr)
      have ho := ones_le ⟨byteS s 256 k, hbl⟩
      simp only at ho
      generalize byteS s 256 k = b at *
      generalize ones b = o at *
      generalize (valsTo s (8 * k)).length = c at *
      go_wp2_with (go_at_call 47; refine HO.out.mono ?_; rintro e w' ⟨rfl, rfl⟩)
      go_roundw
      case rel => exact ⟨k + 1, by omega, by simp, by rw [HV.out]; simp, trivial⟩
      case measure => simp [intOf]; omega
    · obtain rfl : k = 32 := by omega
      have hge : ¬ ((32 : Nat) : Int) < 32 := by omega
      go_wp2
      go_ret
      exact ⟨rfl, Below.refl _ _⟩
end Go.Proofs.Ytpjcndfamhehlaa
