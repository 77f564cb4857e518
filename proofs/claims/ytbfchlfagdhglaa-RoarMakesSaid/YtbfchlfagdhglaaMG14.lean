import Derived.Test.YtbfchlfagdhglaaMG13
/- roar.Rank. -/
namespace Go.Proofs.Ytbfchlfagdhglaa
open Go.RowKit
attribute [local go_sem] Oper.semAt_some

theorem num0_any (k : Nat) (hk : k ≤ 256) (w : World) :
    Calls Try.prog 36 #[.int .i64 (k : Nat), .int .i64 0] w fun e w' => e = .returned (.int .i64 (256 * (k : Int))) ∧ w = w' := by
  have := num_any k 0 hk (by decide) w
  rw [show ((256 * k + 0 : Nat) : Int) = 256 * (k : Int) by omega] at this
  exact this
/-- What holds between two rounds, and where the loop is left. -/
def RaB (w : World) (sv : Value) (n : Int) (q : Nat) (W : World) : Prop := (Blk W (w.heap.size + 1) 3 #[.int .i64 n] ∧ Blk W (w.heap.size + 1 + 1) 3 #[.int .i64 (q : Nat)]) ∧ Blk W (w.heap.size + 1 + 1 + 1) 24 #[sv]
def RaI (w : World) (sv : Value) (n : Int) (pre : List Ch) (W : World) : Prop := RaB w sv n (rankL (valsR pre) n) W ∧ Below w.heap.size w W
def RaX (w : World) (sv : Value) (n : Int) (z : Nat) (cd : Code) (_ : List Ch) (W : World) : Prop := (RaB w sv n z W ∧ cd = .exit 0) ∧ Below w.heap.size w W
theorem raI_own (w : World) (sv : Value) (n : Int) (m : Nat) (hm : w.heap.size ≤ m) : OwnFrom m (RaI w sv n) :=
  OwnFrom.and (Own.from (fun pre X Y row hs hg hr => ⟨⟨blk_own _ _ (fun _ => #[.int .i64 n]) pre X Y row hs.1.1 hg hr, blk_own _ _ (fun (pre : List Ch) => #[.int .i64 ((rankL (valsR pre) n : Nat) : Int)]) pre X Y row hs.1.2 hg hr⟩, blk_own _ _ (fun _ => #[sv]) pre X Y row hs.2 hg hr⟩) _) (ownFrom_below (Nat.le_refl _) hm)
theorem raX_own (w : World) (sv : Value) (n : Int) (z : Nat) (cd : Code) (m : Nat) (hm : w.heap.size ≤ m) : OwnFrom m (RaX w sv n z cd) :=
  OwnFrom.and (OwnFrom.and (Own.from (fun pre X Y row hs hg hr => ⟨⟨blk_own _ _ (fun _ => #[.int .i64 n]) pre X Y row hs.1.1 hg hr, blk_own _ _ (fun _ => #[.int .i64 (z : Nat)]) pre X Y row hs.1.2 hg hr⟩, blk_own _ _ (fun _ => #[sv]) pre X Y row hs.2 hg hr⟩) _) (ownFrom_pure _ _)) (ownFrom_below (Nat.le_refl _) hm)
theorem RaB.under {w a c : World} {sv : Value} {n : Int} {q : Nat} (h : RaB w sv n q a) (hb : Below a.heap.size a c) : RaB w sv n q c := ⟨⟨h.1.1.under hb, h.1.2.under hb⟩, h.2.under hb⟩
theorem RaB.set {w a : World} {sv : Value} {n : Int} {q : Nat} (h : RaB w sv n q a) {z : Nat} {v : Value} (hv : v = .int .i64 (z : Nat)) : RaB w sv n z (a.setCell ⟨w.heap.size + 1 + 1, 0, none⟩ v) := by
  subst hv
  exact ⟨⟨h.1.1.far (by simp) _, h.1.2.set_ 0 _⟩, h.2.far (by simp) _⟩
theorem RaI.under {w a b : World} {sv : Value} {n : Int} {pre : List Ch} (h : RaI w sv n pre a) (hb : Below a.heap.size a b) : RaI w sv n pre b := ⟨h.1.under hb, h.2.trans (hb.mono h.2.size)⟩
theorem RaI.lt {w a : World} {sv : Value} {n : Int} {pre : List Ch} (h : RaI w sv n pre a) : w.heap.size + 1 + 1 + 1 < a.heap.size := h.1.2.lt
theorem RaI.base {w a : World} {sv : Value} {n : Int} {pre : List Ch} (h : RaI w sv n pre a) : w.heap.size ≤ a.heap.size := h.2.size
/-- The cells that a round reads. -/
def RaS (w : World) (sv : Value) (n : Int) (q : Nat) (_ : List Ch) (g : Nat) (c : Ch) (W : World) : Prop := (RaB w sv n q W ∧ BoxC g c W) ∧ Below w.heap.size w W
theorem RaS.under {w a b : World} {sv : Value} {n : Int} {q : Nat} {pre : List Ch} {g : Nat} {c : Ch} (h : RaS w sv n q pre g c a) (hb : Below a.heap.size a b) : RaS w sv n q pre g c b := ⟨⟨h.1.1.under hb, Blk.under h.1.2 hb⟩, h.2.trans (hb.mono h.2.size)⟩
theorem RaS.held {w a : World} {sv : Value} {n : Int} {q : Nat} {pre : List Ch} {g : Nat} {c : Ch} (h : RaS w sv n q pre g c a) : a.cell? ⟨w.heap.size + 1, 0, none⟩ = some (.int .i64 n) ∧ a.cell? ⟨w.heap.size + 1 + 1, 0, none⟩ = some (.int .i64 (q : Nat)) ∧ a.cell? ⟨g, 0, none⟩ = some (.int .i64 c.1) ∧ a.cell? ⟨g, 1, none⟩ = some (.int .i64 c.2.1) ∧ a.cell? ⟨g, 2, none⟩ = some (.string ⟨c.2.2.toArray⟩) ∧ RaS w sv n q pre g c a := ⟨h.1.1.1.1.cell 0, h.1.1.1.2.cell 0, h.1.2.cell 0, h.1.2.cell 1, h.1.2.cell 2, h⟩
theorem rankL_le (l : List Nat) (n : Int) : rankL l n ≤ l.length := List.length_filter_le _ _
theorem rank_none (r : List Ch) (n : Int) : rankL (valsR (allC r)) n = rankN (readZ r) 65536 n := by
  unfold allC
  by_cases h : RightZ r
  · rw [if_pos h, rankL_right h]
  · rw [if_neg h, rank_bad h]; rfl
theorem rank_stop {r pre : List Ch} {c : Ch} (h : NextC r pre c) {n : Int} (hk : n / 256 < c.1) : rankL (valsR pre) n = rankN (readZ r) 65536 n := by
  obtain ⟨h1, k, hk2, rfl, rfl⟩ := h
  refine rank_break (post := r.drop (k + 1)) h1 ?_ hk
  rw [getD_get hk2, List.getElem_cons_drop, List.take_append_drop]

set_option maxRecDepth 100000 in
set_option maxHeartbeats 4000000 in
theorem rank_roar (x : Option Addr) (len cap : Nat) (r : List Ch) (hk : OkCs r) (hm : len ≤ 9223372036854775807) (w : World) (h : Chs w.heap.size w (.slice x len cap) r) (n : Int) (l : -9223372036854775808 ≤ n) (u : n ≤ 9223372036854775807) :
    Calls Try.prog 22 #[.agg #[.slice x len cap], .int .i64 n] w fun e w' => e = .returned (.int .i64 (rankN (readZ r) 65536 n : Nat)) ∧ Below w.heap.size w w' := by
  have hB0 : Below w.heap.size w ((((w.alloc (.cells #[.slice x len cap] 24)).alloc (.cells #[.int .i64 n] 3)).alloc (.cells #[.int .i64 0] 3)).alloc (.cells #[.slice x len cap] 24)) := ((((Below.refl _ w).alloc (Nat.le_refl _) _).alloc (by simp) _).alloc (by simp; omega) _).alloc (by simp; omega) _
  have hI0 : RaI w (.slice x len cap) n [] ((((w.alloc (.cells #[.slice x len cap] 24)).alloc (.cells #[.int .i64 n] 3)).alloc (.cells #[.int .i64 0] 3)).alloc (.cells #[.slice x len cap] 24)) := by
    have h1 := ((Blk.new (w.alloc (.cells #[.slice x len cap] 24)) 3 #[.int .i64 n]).alloc (.cells #[.int .i64 0] 3)).alloc (.cells #[.slice x len cap] 24)
    rw [World.size_alloc] at h1
    have h2 := (Blk.new ((w.alloc (.cells #[.slice x len cap] 24)).alloc (.cells #[.int .i64 n] 3)) 3 #[.int .i64 0]).alloc (.cells #[.slice x len cap] 24)
    rw [World.size_alloc, World.size_alloc] at h2
    have h3 := Blk.new (((w.alloc (.cells #[.slice x len cap] 24)).alloc (.cells #[.int .i64 n] 3)).alloc (.cells #[.int .i64 0] 3)) 24 #[.slice x len cap]
    rw [World.size_alloc, World.size_alloc, World.size_alloc] at h3
    exact ⟨⟨⟨h1, h2⟩, h3⟩, hB0⟩
  have HSq := Lib.hid (chunks_seq 3 (by decide) (w.heap.size + 1 + 1 + 1) x len cap r hk hm _ hI0.1.2 ((h.below hB0).more hB0.size))
  have HX := Lib.hid h.rowIn
  have HI0 := Lib.hid hI0
  have HO := Lib.hid hk
  have hsz0 := hI0.lt
  clear h hB0 hI0 hk
  refine (callsIn_wide (n := 4)).1 ?_
  refine callsIn_of_wp_marks Try.func22 rfl trivial ?_ rfl
  simp only [Try.ntmps22, List.size_toArray, List.length_cons, List.length_nil, Nat.reduceAdd, Nat.reduceSub, Array.replicate_succ, Array.replicate_zero, List.push_toArray, List.append_toArray, List.nil_append, List.cons_append]
  rw [wpIn_wide]
  go_wp2
  go_step3
  go_wp2
  go_step3
  go_wp2_with (go_at_call 34; refine (chunks_any _ _).mono ?_; rintro e w' ⟨rfl, rfl⟩)
  generalize ((((w.alloc (.cells #[.slice x len cap] 24)).alloc (.cells #[.int .i64 n] 3)).alloc (.cells #[.int .i64 0] 3)).alloc (.cells #[.slice x len cap] 24)) = W0 at *
  refine (wpIn_wide (n := 4)).1 ?_
  refine wpIn_rangeFunc_nextB (n := 4) rfl (by decide) (gf := 53) (lb := #[.pointer (some ⟨w.heap.size + 1 + 1 + 1, 0, none⟩)]) rfl trivial (enters_of Try.func53 (by kernel_rfl) rfl)
    HSq.out kpC_t (fun W l o hl => kpC_b (n := W0.heap.size) hsz0 (HX.out.mono (by omega)) W l o hl) (fun _ => rfl)
    (RaI w (.slice x len cap) n) (RaX w (.slice x len cap) n (rankN (readZ r) 65536 n)) (raI_own w _ _ _ (by omega)) (fun cd => raX_own w _ _ _ cd _ (by omega)) HI0.out
    (fun c a' W => ∃ g, a' = { tmps := #[.agg #[.slice x len cap], .int .i64 n, .pointer (some ⟨w.heap.size, 0, none⟩), .pointer (some ⟨w.heap.size + 1, 0, none⟩), .int .i64 0, .pointer (some ⟨w.heap.size + 1 + 1, 0, none⟩), .pointer (some ⟨g, 0, none⟩), .agg #[.slice x len cap], .func (.func 53) #[] #[.pointer (some ⟨w.heap.size + 1 + 1 + 1, 0, none⟩)], .agg #[.int .i64 c.1, .int .i64 c.2.1, .string ⟨c.2.2.toArray⟩], undef, undef, undef, undef, undef, undef, undef, undef, undef, undef, undef, undef, undef, undef, undef, undef], defers := [] } ∧ BoxC g c W)
    (fun c a' _ X Y row ⟨g, e, hb⟩ hg hr => ⟨g, e, boxC_own W0.heap.size g c () X Y row hb hg hr⟩) ?assign ?body ?done ?stop
  case assign =>
    intro l pre c W K hI hE hK
    have hIa := hI.under ((Below.refl _ W).alloc (Nat.le_refl _) (.cells #[.int .i64 c.1, .int .i64 c.2.1, .string ⟨c.2.2.toArray⟩] 54))
    have HK := Lib.hid (hK _ (W.alloc (.cells #[.int .i64 c.1, .int .i64 c.2.1, .string ⟨c.2.2.toArray⟩] 54)) (KeepsOthers.alloc _ _) (kpC_below ((Below.refl _ W).alloc (Nat.le_refl _) _) hI.lt (HX.out.mono hI.base)) hIa ⟨_, rfl, Blk.new W _ _⟩)
    clear hK hI hIa hE
    unfold chEnc
    gi_wp2
    exact HK.out
  case body =>
    rintro l pre c a' W hI hE ⟨g, rfl, hb⟩
    have hok := nextC_ok hE HO.out
    have hS0 : RaS w (.slice x len cap) n (rankL (valsR pre) n) pre g c W := ⟨⟨hI.1, hb⟩, hI.2⟩
    have hck := (right_rises hE.1).key c (nextC_mem hE)
    have HR := Lib.hid (fun (z : Int) W => rankC_any c.2.1 hok.2.1.1 hok.2.1.2 c.2.2 hok.2.2 z W)
    unfold contV at HR
    have HSt : Hid (n / 256 < c.1 → rankL (valsR pre) n = rankN (readZ r) 65536 n) := Lib.hid fun e => rank_stop hE e
    have HT : Hid (rankL (valsR (pre ++ [c])) n = rankL (valsR pre) n + rankS (readS c.2.1 c.2.2) (n - 256 * c.1)) := Lib.hid (by rw [valsR_snoc, rankL_append, rankL_chunk hck.1]; rfl)
    have hle := Nat.le_trans (rankL_le (valsR pre) n) (nextC_le hE)
    have HKp : Hid (∀ W2 : World, Below W.heap.size W W2 → KeepsOthers W W2 ∧ KpC (w.heap.size + 1 + 1 + 1) x len W W2) := Lib.hid fun W2 h => ⟨keepsB_below h, kpC_below h hI.lt (HX.out.mono hI.base)⟩
    have HKq : Hid (∀ (W2 : World) v, KpC (w.heap.size + 1 + 1 + 1) x len W2 (W2.setCell ⟨w.heap.size + 1 + 1, 0, none⟩ v)) := Lib.hid fun W2 v => kpC_set _ _ _ (by simp) (fun b o e hl => by have := HX.out b o e hl; show b ≠ w.heap.size + 1 + 1; omega)
    have HB := Lib.hid hI.2
    clear hE hI hb hok
    generalize rankL (valsR pre) n = q at *
    obtain ⟨ck, f, d⟩ := c
    dsimp only at *
    obtain ⟨k, rfl⟩ : ∃ k : Nat, ck = k := ⟨ck.toNat, by omega⟩
    gi_wp2
    by_cases hgt : n / 256 < (k : Int)
    · have HV := Lib.hid (HSt.out hgt)
      refine wpIn_region_roundH (S := fun W => W.cell? ⟨w.heap.size + 1, 0, none⟩ = some (.int .i64 n) ∧ W.cell? ⟨w.heap.size + 1 + 1, 0, none⟩ = some (.int .i64 (q : Nat)) ∧ W.cell? ⟨g, 0, none⟩ = some (.int .i64 (k : Nat)) ∧ W.cell? ⟨g, 1, none⟩ = some (.int .i64 f) ∧ W.cell? ⟨g, 2, none⟩ = some (.string ⟨d.toArray⟩) ∧ RaS w (.slice x len cap) n q pre g ((k : Nat), f, d) W) (by kernel_rfl) (by kernel_rfl) (fun ⟨_, _, h⟩ => h) ((hS0.under ((Below.refl _ _).drew)).held) (fun hH => ?_)
      refine wpAnyH_take (i := 0) (oi := { dst := some 10, op := Go.Op.fieldAddr 54 (Go.Operand.tmp 6) 0, type := 0, pos := "roar.go:99", after := #[], guard := none }) (v := ?_) rfl (by kernel_rfl) (by kernel_rfl) (by kernel_rfl) (fun _ _ _ h => h) (Or.inl ⟨by rfl, ?_⟩) hH ?_
      rotate_left
      · intro w hSw; (try dsimp only at hSw); go_simp; try with_reducible rfl
      try simp only [Act.put, List.setIfInBounds_toArray, List.set_cons_zero, List.set_cons_succ]
      refine wpAnyH_take (i := 1) (oi := { dst := some 11, op := Go.Op.load 3 (Go.Operand.tmp 10), type := 3, pos := "roar.go:99", after := #[{ on := 0, ground := Go.Ground.data }], guard := none }) (v := ?_) rfl (by kernel_rfl) (by kernel_rfl) (by kernel_rfl) (fun _ _ _ h => h) (Or.inl ⟨by rfl, ?_⟩) hH ?_
      rotate_left
      · intro w hSw; (try dsimp only at hSw); go_simp; try with_reducible rfl
      try simp only [Act.put, List.setIfInBounds_toArray, List.set_cons_zero, List.set_cons_succ]
      refine wpAnyH_take (i := 2) (oi := { dst := some 12, op := Go.Op.load 3 (Go.Operand.tmp 3), type := 3, pos := "roar.go:99", after := #[], guard := none }) (v := ?_) rfl (by kernel_rfl) (by kernel_rfl) (by kernel_rfl) (fun _ _ _ h => h) (Or.inl ⟨by rfl, ?_⟩) hH ?_
      rotate_left
      · intro w hSw; (try dsimp only at hSw); go_simp; try with_reducible rfl
      try simp only [Act.put, List.setIfInBounds_toArray, List.set_cons_zero, List.set_cons_succ]
      refine wpAnyH_ready (rs := [3]) (by kernel_rfl) (by simp) ?_
      refine AllReadyH.cons (o := { dst := some 13, op := Go.Op.call { callee := Go.Callee.value (Go.Operand.func 30), args := #[Go.Operand.tmp 12], argTypes := #[3] }, type := 3, pos := "roar.go:99", after := #[{ on := 2, ground := Go.Ground.data }], guard := none }) rfl (fun K hK => ?_) AllReadyH.nil
      go_simp
      go_at_call 30
      refine (key_any n _).mono ?_
      rintro e w5 ⟨rfl, rfl⟩
      first | refine hK.out _ _ (hH) (fun hH3 => ?_) | (go_wp2_with fail; refine hK.out _ _ (hH) (fun hH3 => ?_))
      clear hK K hH
      try simp only [Act.put, List.setIfInBounds_toArray, List.set_cons_zero, List.set_cons_succ]
      refine wpAnyH_take (i := 4) (oi := { dst := some 14, op := Go.Op.binOp Go.BinOp.gtr 3 (Go.Operand.tmp 11) (Go.Operand.tmp 13) 3, type := 4, pos := "roar.go:99", after := #[{ on := 1, ground := Go.Ground.data }, { on := 3, ground := Go.Ground.data }], guard := none }) (v := ?_) rfl (by kernel_rfl) (by kernel_rfl) (by kernel_rfl) (fun _ _ _ h => h) (Or.inl ⟨by rfl, ?_⟩) hH3 ?_
      rotate_left
      · intro w hSw; (try dsimp only at hSw); go_simp; try with_reducible rfl
      try simp only [Act.put, List.setIfInBounds_toArray, List.set_cons_zero, List.set_cons_succ]
      refine wpAnyH_done (by kernel_rfl) ?_ _
      have hWd := (Below.refl W.heap.size W).drew
      have HI5 : Hid (RaX w (.slice x len cap) n (rankN (readZ r) 65536 n) (.exit 0) (pre ++ [((k : Int), f, d)]) W.drew) := Lib.hid ⟨⟨by rw [← HV.out]; exact hH3.2.2.2.2.2.1.1, rfl⟩, hH3.2.2.2.2.2.2⟩
      have HK5 := Lib.hid (HKp.out _ hWd)
      clear hS0 hWd hH3 HI0 HSq
      generalize W.drew = W5 at *
      gi_wp2
      exact ⟨HK5.out.1, HI5.out⟩
    · have hgt2 : ¬ (k : Int) > n / 256 := by omega
      refine wpIn_region_roundH (S := fun W => W.cell? ⟨w.heap.size + 1, 0, none⟩ = some (.int .i64 n) ∧ W.cell? ⟨w.heap.size + 1 + 1, 0, none⟩ = some (.int .i64 (q : Nat)) ∧ W.cell? ⟨g, 0, none⟩ = some (.int .i64 (k : Nat)) ∧ W.cell? ⟨g, 1, none⟩ = some (.int .i64 f) ∧ W.cell? ⟨g, 2, none⟩ = some (.string ⟨d.toArray⟩) ∧ RaS w (.slice x len cap) n q pre g ((k : Nat), f, d) W) (by kernel_rfl) (by kernel_rfl) (fun ⟨_, _, h⟩ => h) ((hS0.under ((Below.refl _ _).drew)).held) (fun hH => ?_)
      refine wpAnyH_take (i := 0) (oi := { dst := some 10, op := Go.Op.fieldAddr 54 (Go.Operand.tmp 6) 0, type := 0, pos := "roar.go:99", after := #[], guard := none }) (v := ?_) rfl (by kernel_rfl) (by kernel_rfl) (by kernel_rfl) (fun _ _ _ h => h) (Or.inl ⟨by rfl, ?_⟩) hH ?_
      rotate_left
      · intro w hSw; (try dsimp only at hSw); go_simp; try with_reducible rfl
      try simp only [Act.put, List.setIfInBounds_toArray, List.set_cons_zero, List.set_cons_succ]
      refine wpAnyH_take (i := 1) (oi := { dst := some 11, op := Go.Op.load 3 (Go.Operand.tmp 10), type := 3, pos := "roar.go:99", after := #[{ on := 0, ground := Go.Ground.data }], guard := none }) (v := ?_) rfl (by kernel_rfl) (by kernel_rfl) (by kernel_rfl) (fun _ _ _ h => h) (Or.inl ⟨by rfl, ?_⟩) hH ?_
      rotate_left
      · intro w hSw; (try dsimp only at hSw); go_simp; try with_reducible rfl
      try simp only [Act.put, List.setIfInBounds_toArray, List.set_cons_zero, List.set_cons_succ]
      refine wpAnyH_take (i := 2) (oi := { dst := some 12, op := Go.Op.load 3 (Go.Operand.tmp 3), type := 3, pos := "roar.go:99", after := #[], guard := none }) (v := ?_) rfl (by kernel_rfl) (by kernel_rfl) (by kernel_rfl) (fun _ _ _ h => h) (Or.inl ⟨by rfl, ?_⟩) hH ?_
      rotate_left
      · intro w hSw; (try dsimp only at hSw); go_simp; try with_reducible rfl
      try simp only [Act.put, List.setIfInBounds_toArray, List.set_cons_zero, List.set_cons_succ]
      refine wpAnyH_ready (rs := [3]) (by kernel_rfl) (by simp) ?_
      refine AllReadyH.cons (o := { dst := some 13, op := Go.Op.call { callee := Go.Callee.value (Go.Operand.func 30), args := #[Go.Operand.tmp 12], argTypes := #[3] }, type := 3, pos := "roar.go:99", after := #[{ on := 2, ground := Go.Ground.data }], guard := none }) rfl (fun K hK => ?_) AllReadyH.nil
      go_simp
      go_at_call 30
      refine (key_any n _).mono ?_
      rintro e w5 ⟨rfl, rfl⟩
      first | refine hK.out _ _ (hH) (fun hH3 => ?_) | (go_wp2_with fail; refine hK.out _ _ (hH) (fun hH3 => ?_))
      clear hK K hH
      try simp only [Act.put, List.setIfInBounds_toArray, List.set_cons_zero, List.set_cons_succ]
      refine wpAnyH_take (i := 4) (oi := { dst := some 14, op := Go.Op.binOp Go.BinOp.gtr 3 (Go.Operand.tmp 11) (Go.Operand.tmp 13) 3, type := 4, pos := "roar.go:99", after := #[{ on := 1, ground := Go.Ground.data }, { on := 3, ground := Go.Ground.data }], guard := none }) (v := ?_) rfl (by kernel_rfl) (by kernel_rfl) (by kernel_rfl) (fun _ _ _ h => h) (Or.inl ⟨by rfl, ?_⟩) hH3 ?_
      rotate_left
      · intro w hSw; (try dsimp only at hSw); go_simp; try with_reducible rfl
      try simp only [Act.put, List.setIfInBounds_toArray, List.set_cons_zero, List.set_cons_succ]
      refine wpAnyH_done (by kernel_rfl) ?_ _
      have hWd := (Below.refl W.heap.size W).drew
      have HS5 := Lib.hid hH3.2.2.2.2.2
      have HWd := Lib.hid hWd
      have hw1 : IntKind.i64.wrap (n - 256 * (k : Int)) = n - 256 * (k : Int) := by rw [IntKind.wrap_i64]; omega
      have hrl := rank_le (readS f d) (n - 256 * (k : Int))
      have HR2 := Lib.hid (fun W => HR.out (n - 256 * (k : Int)) W)
      clear hS0 hWd hH3 HI0 HSq HR
      generalize rankS (readS f d) (n - 256 * (k : Int)) = m at *
      have hw2 : IntKind.i64.wrap ((q : Int) + (m : Int)) = (q : Int) + (m : Int) := by rw [IntKind.wrap_i64]; omega
      have HR := HR2
      clear HR2
      generalize W.drew = W5 at *
      gi_wp2
      refine wpIn_region_roundM (m := 10) (S := fun W => W.cell? ⟨w.heap.size + 1, 0, none⟩ = some (.int .i64 n) ∧ W.cell? ⟨w.heap.size + 1 + 1, 0, none⟩ = some (.int .i64 (q : Nat)) ∧ W.cell? ⟨g, 0, none⟩ = some (.int .i64 (k : Nat)) ∧ W.cell? ⟨g, 1, none⟩ = some (.int .i64 f) ∧ W.cell? ⟨g, 2, none⟩ = some (.string ⟨d.toArray⟩) ∧ RaS w (.slice x len cap) n q pre g ((k : Nat), f, d) W) (by kernel_rfl) (by kernel_rfl) (fun ⟨_, _, h⟩ => h) ((HS5.out.under ((Below.refl _ _).drew)).held) (fun hH => ?_)
      refine wpAnyM_take (by kernel_rfl) (i := 0) (by decide) (oi := { dst := some 15, op := Go.Op.load 3 (Go.Operand.tmp 5), type := 3, pos := "roar.go:102", after := #[], guard := none }) (v := ?_) rfl (by kernel_rfl) (by kernel_rfl) (by kernel_rfl) (fun _ _ _ h => h) (Or.inl ⟨by rfl, ?_⟩) hH ?_
      rotate_left
      · intro w hSw; (try dsimp only at hSw); go_simp; try with_reducible rfl
      try simp only [Act.put, List.setIfInBounds_toArray, List.set_cons_zero, List.set_cons_succ]
      refine wpAnyM_take (by kernel_rfl) (i := 1) (by decide) (oi := { dst := some 16, op := Go.Op.fieldAddr 54 (Go.Operand.tmp 6) 1, type := 0, pos := "roar.go:102", after := #[], guard := none }) (v := ?_) rfl (by kernel_rfl) (by kernel_rfl) (by kernel_rfl) (fun _ _ _ h => h) (Or.inl ⟨by rfl, ?_⟩) hH ?_
      rotate_left
      · intro w hSw; (try dsimp only at hSw); go_simp; try with_reducible rfl
      try simp only [Act.put, List.setIfInBounds_toArray, List.set_cons_zero, List.set_cons_succ]
      refine wpAnyM_take (by kernel_rfl) (i := 2) (by decide) (oi := { dst := some 17, op := Go.Op.load 52 (Go.Operand.tmp 16), type := 52, pos := "roar.go:102", after := #[{ on := 1, ground := Go.Ground.data }], guard := none }) (v := ?_) rfl (by kernel_rfl) (by kernel_rfl) (by kernel_rfl) (fun _ _ _ h => h) (Or.inl ⟨by rfl, ?_⟩) hH ?_
      rotate_left
      · intro w hSw; (try dsimp only at hSw); go_simp; try with_reducible rfl
      try simp only [Act.put, List.setIfInBounds_toArray, List.set_cons_zero, List.set_cons_succ]
      refine wpAnyM_take (by kernel_rfl) (i := 3) (by decide) (oi := { dst := some 18, op := Go.Op.load 3 (Go.Operand.tmp 3), type := 3, pos := "roar.go:102", after := #[], guard := none }) (v := ?_) rfl (by kernel_rfl) (by kernel_rfl) (by kernel_rfl) (fun _ _ _ h => h) (Or.inl ⟨by rfl, ?_⟩) hH ?_
      rotate_left
      · intro w hSw; (try dsimp only at hSw); go_simp; try with_reducible rfl
      try simp only [Act.put, List.setIfInBounds_toArray, List.set_cons_zero, List.set_cons_succ]
      refine wpAnyM_take (by kernel_rfl) (i := 4) (by decide) (oi := { dst := some 19, op := Go.Op.fieldAddr 54 (Go.Operand.tmp 6) 0, type := 0, pos := "roar.go:102", after := #[], guard := none }) (v := ?_) rfl (by kernel_rfl) (by kernel_rfl) (by kernel_rfl) (fun _ _ _ h => h) (Or.inl ⟨by rfl, ?_⟩) hH ?_
      rotate_left
      · intro w hSw; (try dsimp only at hSw); go_simp; try with_reducible rfl
      try simp only [Act.put, List.setIfInBounds_toArray, List.set_cons_zero, List.set_cons_succ]
      refine wpAnyM_take (by kernel_rfl) (i := 5) (by decide) (oi := { dst := some 20, op := Go.Op.load 3 (Go.Operand.tmp 19), type := 3, pos := "roar.go:102", after := #[{ on := 4, ground := Go.Ground.data }], guard := none }) (v := ?_) rfl (by kernel_rfl) (by kernel_rfl) (by kernel_rfl) (fun _ _ _ h => h) (Or.inl ⟨by rfl, ?_⟩) hH ?_
      rotate_left
      · intro w hSw; (try dsimp only at hSw); go_simp; try with_reducible rfl
      try simp only [Act.put, List.setIfInBounds_toArray, List.set_cons_zero, List.set_cons_succ]
      refine wpAnyM_one (i := 6) (by decide) (o := { dst := some 21, op := Go.Op.call { callee := Go.Callee.value (Go.Operand.func 36), args := #[Go.Operand.tmp 20, Go.Operand.const (Go.Value.int Go.IntKind.i64 0)], argTypes := #[3, 3] }, type := 3, pos := "roar.go:102", after := #[{ on := 5, ground := Go.Ground.data }], guard := none }) (by kernel_rfl) rfl (fun K hK => ?_)
      go_simp
      go_at_call 36
      refine (num0_any k (by omega) _).mono ?_
      rintro e w6 ⟨rfl, rfl⟩
      first | refine hK.out _ _ (hH) (fun hH6 => ?_) | (go_wp2_with fail; refine hK.out _ _ (hH) (fun hH6 => ?_))
      clear hK K hH
      try simp only [Act.put, List.setIfInBounds_toArray, List.set_cons_zero, List.set_cons_succ]
      refine wpAnyM_take (by kernel_rfl) (i := 7) (by decide) (oi := { dst := some 22, op := Go.Op.binOp Go.BinOp.sub 3 (Go.Operand.tmp 18) (Go.Operand.tmp 21) 3, type := 3, pos := "roar.go:102", after := #[{ on := 3, ground := Go.Ground.data }, { on := 6, ground := Go.Ground.data }], guard := none }) (v := ?_) rfl (by kernel_rfl) (by kernel_rfl) (by kernel_rfl) (fun _ _ _ h => h) (Or.inl ⟨by rfl, ?_⟩) hH6 ?_
      rotate_left
      · intro w hSw; (try dsimp only at hSw); go_simp; try with_reducible rfl
      try simp only [Act.put, List.setIfInBounds_toArray, List.set_cons_zero, List.set_cons_succ]
      refine wpAnyM_one (i := 8) (by decide) (o := { dst := some 23, op := Go.Op.call { callee := Go.Callee.value (Go.Operand.func 41), args := #[Go.Operand.tmp 17, Go.Operand.tmp 22], argTypes := #[52, 3] }, type := 3, pos := "roar.go:102", after := #[{ on := 2, ground := Go.Ground.data }, { on := 7, ground := Go.Ground.data }, { on := 6, ground := Go.Ground.chain }], guard := none }) (by kernel_rfl) rfl (fun K hK => ?_)
      go_simp
      go_at_call 41
      refine (HR.out _).mono ?_
      rintro e w7 ⟨rfl, hb7⟩
      first | refine hK.out _ _ ((hH6.2.2.2.2.2.under hb7).held) (fun hH8 => ?_) | (go_wp2_with fail; refine hK.out _ _ ((hH6.2.2.2.2.2.under hb7).held) (fun hH8 => ?_))
      clear hK K hH6
      try simp only [Act.put, List.setIfInBounds_toArray, List.set_cons_zero, List.set_cons_succ]
      refine wpAnyM_take (by kernel_rfl) (i := 9) (by decide) (oi := { dst := some 24, op := Go.Op.binOp Go.BinOp.add 3 (Go.Operand.tmp 15) (Go.Operand.tmp 23) 3, type := 3, pos := "roar.go:102", after := #[{ on := 0, ground := Go.Ground.data }, { on := 8, ground := Go.Ground.data }], guard := none }) (v := ?_) rfl (by kernel_rfl) (by kernel_rfl) (by kernel_rfl) (fun _ _ _ h => h) (Or.inl ⟨by rfl, ?_⟩) hH8 ?_
      rotate_left
      · intro w hSw; (try dsimp only at hSw); go_simp; try with_reducible rfl
      try simp only [Act.put, List.setIfInBounds_toArray, List.set_cons_zero, List.set_cons_succ]
      have hf := hH8.2.2.2.2.2.1.1.1.2.frozen 0
      refine wpAnyM_last (by kernel_rfl) (o := { dst := none, op := Go.Op.store 3 (Go.Operand.tmp 5) (Go.Operand.tmp 24), type := 0, pos := "roar.go:102", after := #[{ on := 9, ground := Go.Ground.data }, { on := 8, ground := Go.Ground.chain }, { on := 0, ground := Go.Ground.phase }, { on := 1, ground := Go.Ground.phase }, { on := 2, ground := Go.Ground.phase }, { on := 3, ground := Go.Ground.phase }, { on := 4, ground := Go.Ground.phase }, { on := 5, ground := Go.Ground.phase }, { on := 6, ground := Go.Ground.phase }, { on := 7, ground := Go.Ground.phase }, { on := 8, ground := Go.Ground.phase }, { on := 9, ground := Go.Ground.phase }], guard := none }) rfl (by kernel_rfl) (fun K hK => ?_)
      go_simp
      refine hK.out _ _ ?_
      clear hK K
      try simp only [Act.put, List.setIfInBounds_toArray, List.set_cons_zero, List.set_cons_succ]
      have hb8 := HWd.out.trans ((((Below.refl W5.heap.size W5).drew).trans hb7).mono HWd.out.size)
      gi_wp2
      exact ⟨(HKp.out _ hb8).1.trans (KeepsOthers.setCell _ _ _), kpC_t (HKp.out _ hb8).2 (HKq.out _ _), hH8.2.2.2.2.2.1.1.set (by rw [HT.out]; rfl), (HB.out.trans (hb8.mono HB.out.size)).setCell (by simp; omega) _⟩
  case done =>
    rintro D ys W hD rfl hI hK
    have c1 := hI.1.1.2.cell 0
    dsimp at c1
    rw [rank_none] at c1
    have HN := Lib.hid (hI.2.grown (grownBy_putObj' W D (.deferred none)) hI.2.size (fun k e => by cases e; omega))
    clear hI
    obtain ⟨z, hz⟩ : ∃ z, z = rankN (readZ r) 65536 n := ⟨_, rfl⟩
    rw [← hz] at c1
    have HZ := Lib.hid hz
    clear hz
    go_wp2
    try rw [Exit.noGoto_ret]
    exact ⟨by simp, .inl ⟨_, _, rfl, run_takeDeferred hK, _, results_tmp (t := 4) rfl _ _ _, ⟨by rw [← HZ.out]; rfl, HN.out⟩⟩⟩
  case stop =>
    rintro D cd pre W hD hSp ⟨⟨hI, rfl⟩, hB⟩ hK
    have c1 := hI.1.2.cell 0
    dsimp at c1
    have HN := Lib.hid (hB.grown (grownBy_putObj' W D (.deferred none)) hB.size (fun k e => by cases e; omega))
    clear hI hB
    obtain ⟨z, hz⟩ : ∃ z, z = rankN (readZ r) 65536 n := ⟨_, rfl⟩
    rw [← hz] at c1
    have HZ := Lib.hid hz
    clear hz
    refine (wpIn_wide (n := 4)).2 ?_
    go_wp2
    try rw [Exit.noGoto_ret]
    exact ⟨by simp, .inl ⟨_, _, rfl, run_takeDeferred hK, _, results_tmp (t := 4) rfl _ _ _, ⟨by rw [← HZ.out]; rfl, HN.out⟩⟩⟩
end Go.Proofs.Ytbfchlfagdhglaa
