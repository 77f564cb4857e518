import Derived.Test.YtbfchlfagdhglaaMG12
import Derived.Test.YtbfchlfagdhglaaMG10
/- roar.Has. -/
namespace Go.Proofs.Ytbfchlfagdhglaa
open Go.RowKit
attribute [local go_sem] Oper.semAt_some

theorem results_boolC {fn : Func} {t : Tmp} (h : fn.results = #[.cell t 4]) {tmps : Array Value} {w : World} {g : Nat} {b : Bool} (hp : tmps.getD t undef = .pointer (some ⟨g, 0, none⟩)) (hb : w.cell? ⟨g, 0, none⟩ = some (.bool b)) : (results fn tmps).run Try.prog w = .ok (.bool b) w := by
  rw [Array.getD_eq_getD_getElem?] at hp
  simp [results, h, hp, asAddr, go_sem, hb, Try.isAgg4]
/-- No chunk that has come has the key. -/
def NoKey (n : Int) (pre : List Ch) : Prop := ∀ c ∈ pre, c.1 ≠ n / 256
theorem NoKey.snoc {n : Int} {pre : List Ch} {c : Ch} (h : NoKey n pre) (hc : ¬ c.1 = n / 256) : NoKey n (pre ++ [c]) := fun d hd => by
  rcases List.mem_append.1 hd with hd | hd
  · exact h d hd
  · rw [List.mem_singleton.1 hd]; exact hc
theorem has_none {r : List Ch} {n : Int} (h : NoKey n (allC r)) : hasZ r n = false := by
  unfold allC at h
  by_cases hr : RightZ r
  · rw [if_pos hr] at h; exact has_miss h
  · exact has_bad hr n
/-- What holds between two rounds. -/
def HaB (w : World) (sv : Value) (n : Int) (b : Bool) (W : World) : Prop := (Blk W (w.heap.size + 1) 3 #[.int .i64 n] ∧ Blk W (w.heap.size + 1 + 1) 4 #[.bool b]) ∧ Blk W (w.heap.size + 1 + 1 + 1) 24 #[sv]
def HaI (w : World) (sv : Value) (n : Int) (pre : List Ch) (W : World) : Prop := (HaB w sv n false W ∧ NoKey n pre) ∧ Below w.heap.size w W
def HaX (w : World) (sv : Value) (r : List Ch) (n : Int) (cd : Code) (_ : List Ch) (W : World) : Prop := (HaB w sv n (hasZ r n) W ∧ cd = .ret) ∧ Below w.heap.size w W
theorem haB_own {β : Type} (w : World) (sv : Value) (n : Int) (b : Bool) : Own (fun (_ : β) W => HaB w sv n b W) := fun s X Y row hs hg hr =>
  ⟨⟨blk_own _ _ (fun _ => #[.int .i64 n]) s X Y row hs.1.1 hg hr, blk_own _ _ (fun _ => #[.bool b]) s X Y row hs.1.2 hg hr⟩, blk_own _ _ (fun _ => #[sv]) s X Y row hs.2 hg hr⟩
theorem haI_own (w : World) (sv : Value) (n : Int) (m : Nat) (hm : w.heap.size ≤ m) : OwnFrom m (HaI w sv n) :=
  OwnFrom.and (OwnFrom.and (Own.from (haB_own w sv n false) _) (ownFrom_pure _ _)) (ownFrom_below (Nat.le_refl _) hm)
theorem haX_own (w : World) (sv : Value) (r : List Ch) (n : Int) (cd : Code) (m : Nat) (hm : w.heap.size ≤ m) : OwnFrom m (HaX w sv r n cd) :=
  OwnFrom.and (OwnFrom.and (Own.from (haB_own w sv n (hasZ r n)) _) (ownFrom_pure _ _)) (ownFrom_below (Nat.le_refl _) hm)
theorem HaB.under {w a c : World} {sv : Value} {n : Int} {b : Bool} (h : HaB w sv n b a) (hb : Below a.heap.size a c) : HaB w sv n b c := ⟨⟨h.1.1.under hb, h.1.2.under hb⟩, h.2.under hb⟩
theorem HaB.set {w a : World} {sv : Value} {n : Int} {b : Bool} (h : HaB w sv n b a) (c : Bool) : HaB w sv n c (a.setCell ⟨w.heap.size + 1 + 1, 0, none⟩ (.bool c)) := ⟨⟨h.1.1.far (by simp) _, h.1.2.set_ 0 _⟩, h.2.far (by simp) _⟩
theorem HaI.under {w a b : World} {sv : Value} {n : Int} {pre : List Ch} (h : HaI w sv n pre a) (hb : Below a.heap.size a b) : HaI w sv n pre b := ⟨⟨h.1.1.under hb, h.1.2⟩, h.2.trans (hb.mono h.2.size)⟩
theorem HaB.book {w a : World} {sv : Value} {n : Int} {b : Bool} (h : HaB w sv n b a) {D : Nat} (hD : w.heap.size + 1 + 1 + 1 < D) (o : Obj) : HaB w sv n b (a.putObj D o) := ⟨⟨(World.putObj_heap_other (by omega)).trans h.1.1, (World.putObj_heap_other (by omega)).trans h.1.2⟩, (World.putObj_heap_other (by omega)).trans h.2⟩
/-- The cells that a round reads. -/
def HaS (w : World) (sv : Value) (n : Int) (pre : List Ch) (g : Nat) (c : Ch) (W : World) : Prop := HaI w sv n pre W ∧ BoxC g c W
theorem HaS.under {w a b : World} {sv : Value} {n : Int} {pre : List Ch} {g : Nat} {c : Ch} (h : HaS w sv n pre g c a) (hb : Below a.heap.size a b) : HaS w sv n pre g c b := ⟨h.1.under hb, Blk.under h.2 hb⟩
theorem HaS.held {w a : World} {sv : Value} {n : Int} {pre : List Ch} {g : Nat} {c : Ch} (h : HaS w sv n pre g c a) : a.cell? ⟨w.heap.size + 1, 0, none⟩ = some (.int .i64 n) ∧ a.cell? ⟨g, 0, none⟩ = some (.int .i64 c.1) ∧ a.cell? ⟨g, 1, none⟩ = some (.int .i64 c.2.1) ∧ a.cell? ⟨g, 2, none⟩ = some (.string ⟨c.2.2.toArray⟩) ∧ HaS w sv n pre g c a := ⟨h.1.1.1.1.1.cell 0, h.2.cell 0, h.2.cell 1, h.2.cell 2, h⟩

set_option maxRecDepth 100000 in
set_option maxHeartbeats 4000000 in
theorem has_roar (x : Option Addr) (len cap : Nat) (r : List Ch) (hk : OkCs r) (hm : len ≤ 9223372036854775807) (w : World) (h : Chs w.heap.size w (.slice x len cap) r) (n : Int) :
    Calls Try.prog 21 #[.agg #[.slice x len cap], .int .i64 n] w fun e w' => e = .returned (.bool (hasZ r n)) ∧ Below w.heap.size w w' := by
  have hB0 : Below w.heap.size w ((((w.alloc (.cells #[.slice x len cap] 24)).alloc (.cells #[.int .i64 n] 3)).alloc (.cells #[.bool false] 4)).alloc (.cells #[.slice x len cap] 24)) := ((((Below.refl _ w).alloc (Nat.le_refl _) _).alloc (by simp) _).alloc (by simp; omega) _).alloc (by simp; omega) _
  have hI0 : HaI w (.slice x len cap) n [] ((((w.alloc (.cells #[.slice x len cap] 24)).alloc (.cells #[.int .i64 n] 3)).alloc (.cells #[.bool false] 4)).alloc (.cells #[.slice x len cap] 24)) := by
    have h1 := ((Blk.new (w.alloc (.cells #[.slice x len cap] 24)) 3 #[.int .i64 n]).alloc (.cells #[.bool false] 4)).alloc (.cells #[.slice x len cap] 24)
    have h2 := (Blk.new ((w.alloc (.cells #[.slice x len cap] 24)).alloc (.cells #[.int .i64 n] 3)) 4 #[.bool false]).alloc (.cells #[.slice x len cap] 24)
    have h3 := Blk.new (((w.alloc (.cells #[.slice x len cap] 24)).alloc (.cells #[.int .i64 n] 3)).alloc (.cells #[.bool false] 4)) 24 #[.slice x len cap]
    rw [World.size_alloc] at h1
    rw [World.size_alloc, World.size_alloc] at h2
    rw [World.size_alloc, World.size_alloc, World.size_alloc] at h3
    exact ⟨⟨⟨⟨h1, h2⟩, h3⟩, fun c hc => by cases hc⟩, hB0⟩
  have HSq := Lib.hid (chunks_seq 3 (by decide) (w.heap.size + 1 + 1 + 1) x len cap r hk hm _ hI0.1.1.2 ((h.below hB0).more hB0.size))
  have HX := Lib.hid h.rowIn
  have HI0 := Lib.hid hI0
  have HO := Lib.hid hk
  clear h hB0 hI0 hk
  refine (callsIn_wide (n := 4)).1 ?_
  refine callsIn_of_wp_marks Try.func21 rfl trivial ?_ rfl
  simp only [Try.ntmps21, List.size_toArray, List.length_cons, List.length_nil, Nat.reduceAdd, Nat.reduceSub, Array.replicate_succ, Array.replicate_zero, List.push_toArray, List.append_toArray, List.nil_append, List.cons_append]
  rw [wpIn_wide]
  go_wp2_with (go_at_call 34; refine (chunks_any _ _).mono ?_; rintro e w' ⟨rfl, rfl⟩)
  generalize ((((w.alloc (.cells #[.slice x len cap] 24)).alloc (.cells #[.int .i64 n] 3)).alloc (.cells #[.bool false] 4)).alloc (.cells #[.slice x len cap] 24)) = W0 at *
  have hsz0 := HI0.out.1.1.2.lt
  refine (wpIn_wide (n := 4)).1 ?_
  refine wpIn_rangeFunc_nextB (n := 4) rfl (by decide) (gf := 53) (lb := #[.pointer (some ⟨w.heap.size + 1 + 1 + 1, 0, none⟩)]) rfl trivial (enters_of Try.func53 (by kernel_rfl) rfl)
    HSq.out kpC_t (fun W l o hl => kpC_b (n := W0.heap.size) hsz0 (HX.out.mono (by omega)) W l o hl) (fun _ => rfl)
    (HaI w (.slice x len cap) n) (HaX w (.slice x len cap) r n) (haI_own w _ _ _ (by omega)) (fun cd => haX_own w _ _ _ cd _ (by omega)) HI0.out
    (fun c a' W => ∃ g, a' = { tmps := #[.agg #[.slice x len cap], .int .i64 n, .pointer (some ⟨w.heap.size, 0, none⟩), .pointer (some ⟨w.heap.size + 1, 0, none⟩), .pointer (some ⟨w.heap.size + 1 + 1, 0, none⟩), .pointer (some ⟨g, 0, none⟩), .agg #[.slice x len cap], .func (.func 53) #[] #[.pointer (some ⟨w.heap.size + 1 + 1 + 1, 0, none⟩)], .agg #[.int .i64 c.1, .int .i64 c.2.1, .string ⟨c.2.2.toArray⟩], undef, undef, undef, undef, undef, undef, undef, undef, undef, undef, undef], defers := [] } ∧ BoxC g c W)
    (fun c a' _ X Y row ⟨g, e, hb⟩ hg hr => ⟨g, e, boxC_own W0.heap.size g c () X Y row hb hg hr⟩) ?assign ?body ?done ?stop
  case assign =>
    intro l pre c W K hI hE hK
    have hIa := hI.under ((Below.refl _ W).alloc (Nat.le_refl _) (.cells #[.int .i64 c.1, .int .i64 c.2.1, .string ⟨c.2.2.toArray⟩] 54))
    have HK := Lib.hid (hK _ (W.alloc (.cells #[.int .i64 c.1, .int .i64 c.2.1, .string ⟨c.2.2.toArray⟩] 54)) (KeepsOthers.alloc _ _) (kpC_below ((Below.refl _ W).alloc (Nat.le_refl _) _) (by have := hI.1.1.2.lt; omega) (HX.out.mono hI.2.size)) hIa ⟨_, rfl, Blk.new W _ _⟩)
    clear hK hI hIa hE
    unfold chEnc
    gi_wp2
    exact HK.out
  case body =>
    rintro l pre c a' W hI hE ⟨g, rfl, hb⟩
    have hok := nextC_ok hE HO.out
    have hS0 : HaS w (.slice x len cap) n pre g c W := ⟨hI, hb⟩
    have HH := Lib.hid (fun (m : Int) (h1 : -9223372036854775808 ≤ m) (h2 : m ≤ 9223372036854775807) W => has_any c.2.1 hok.2.1.1 hok.2.1.2 c.2.2 hok.2.2 m h1 h2 W)
    unfold contV at HH
    have HHit : Hid (c.1 = n / 256 → hasZ r n = readS c.2.1 c.2.2 (n % 256).toNat) := Lib.hid fun e => has_hit hE.1 (nextC_mem hE) e
    have HKp : Hid (∀ W2 : World, Below W.heap.size W W2 → KeepsOthers W W2 ∧ KpC (w.heap.size + 1 + 1 + 1) x len W W2) := Lib.hid fun W2 h => ⟨keepsB_below h, kpC_below h (by have := hI.1.1.2.lt; omega) (HX.out.mono hI.2.size)⟩
    clear hE hI hb hok
    obtain ⟨ck, f, d⟩ := c
    dsimp only at *
    gi_wp2
    by_cases hkey : ck = n / 256
    · have hV := HHit.out hkey
      have hg : goodZ (n % 256) = true := by unfold goodZ; simp; omega
      have HH1 := Lib.hid (fun W => HH.out (n % 256) (by omega) (by omega) W)
      rw [hg, Bool.true_and, ← hV] at HH1
      generalize hv : hasZ r n = v at *
      have HV := Lib.hid hv
      have hdk : decide (ck = n / 256) = true := decide_eq_true hkey
      have hbk : ((ck : Int) == n / 256) = true := by rw [hkey]; simp
      clear hV hv hg HH HHit
      refine wpIn_region_roundH (S := fun W => W.cell? ⟨w.heap.size + 1, 0, none⟩ = some (.int .i64 n) ∧ W.cell? ⟨g, 0, none⟩ = some (.int .i64 ck) ∧ W.cell? ⟨g, 1, none⟩ = some (.int .i64 f) ∧ W.cell? ⟨g, 2, none⟩ = some (.string ⟨d.toArray⟩) ∧ HaS w (.slice x len cap) n pre g (ck, f, d) W) (by kernel_rfl) (by kernel_rfl) (fun ⟨_, _, h⟩ => h) ((hS0.under ((Below.refl _ _).drew)).held) (fun hH => ?_)
      refine wpAnyH_take (i := 0) (oi := { dst := some 9, op := Go.Op.fieldAddr 54 (Go.Operand.tmp 5) 0, type := 0, pos := "roar.go:78", after := #[], guard := none }) (v := ?_) rfl (by kernel_rfl) (by kernel_rfl) (by kernel_rfl) (fun _ _ _ h => h) (Or.inl ⟨by rfl, ?_⟩) hH ?_
      rotate_left
      · intro w hSw; (try dsimp only at hSw); go_simp; try with_reducible rfl
      try simp only [Act.put, List.setIfInBounds_toArray, List.set_cons_zero, List.set_cons_succ]
      refine wpAnyH_take (i := 1) (oi := { dst := some 10, op := Go.Op.load 3 (Go.Operand.tmp 9), type := 3, pos := "roar.go:78", after := #[{ on := 0, ground := Go.Ground.data }], guard := none }) (v := ?_) rfl (by kernel_rfl) (by kernel_rfl) (by kernel_rfl) (fun _ _ _ h => h) (Or.inl ⟨by rfl, ?_⟩) hH ?_
      rotate_left
      · intro w hSw; (try dsimp only at hSw); go_simp; try with_reducible rfl
      try simp only [Act.put, List.setIfInBounds_toArray, List.set_cons_zero, List.set_cons_succ]
      refine wpAnyH_take (i := 2) (oi := { dst := some 11, op := Go.Op.load 3 (Go.Operand.tmp 3), type := 3, pos := "roar.go:78", after := #[], guard := none }) (v := ?_) rfl (by kernel_rfl) (by kernel_rfl) (by kernel_rfl) (fun _ _ _ h => h) (Or.inl ⟨by rfl, ?_⟩) hH ?_
      rotate_left
      · intro w hSw; (try dsimp only at hSw); go_simp; try with_reducible rfl
      try simp only [Act.put, List.setIfInBounds_toArray, List.set_cons_zero, List.set_cons_succ]
      refine wpAnyH_ready (rs := [3]) (by kernel_rfl) (by simp) ?_
      refine AllReadyH.cons (o := { dst := some 12, op := Go.Op.call { callee := Go.Callee.value (Go.Operand.func 30), args := #[Go.Operand.tmp 11], argTypes := #[3] }, type := 3, pos := "roar.go:78", after := #[{ on := 2, ground := Go.Ground.data }], guard := none }) rfl (fun K hK => ?_) AllReadyH.nil
      go_simp
      go_at_call 30
      refine (key_any n _).mono ?_
      rintro e w5 ⟨rfl, rfl⟩
      first | refine hK.out _ _ (hH) (fun hH3 => ?_) | (go_wp2_with fail; refine hK.out _ _ (hH) (fun hH3 => ?_))
      clear hK K hH
      try simp only [Act.put, List.setIfInBounds_toArray, List.set_cons_zero, List.set_cons_succ]
      refine wpAnyH_take (i := 4) (oi := { dst := some 13, op := Go.Op.binOp Go.BinOp.eql 3 (Go.Operand.tmp 10) (Go.Operand.tmp 12) 3, type := 4, pos := "roar.go:78", after := #[{ on := 1, ground := Go.Ground.data }, { on := 3, ground := Go.Ground.data }], guard := none }) (v := ?_) rfl (by kernel_rfl) (by kernel_rfl) (by kernel_rfl) (fun _ _ _ h => h) (Or.inl ⟨by rfl, ?_⟩) hH3 ?_
      rotate_left
      · intro w hSw; (try dsimp only at hSw); go_simp; try with_reducible rfl
      try simp only [Act.put, List.setIfInBounds_toArray, List.set_cons_zero, List.set_cons_succ]
      refine wpAnyH_done (by kernel_rfl) ?_ _
      have hWd := (Below.refl W.heap.size W).drew
      obtain ⟨e0, e1, e2, e3, hS3⟩ := hH3
      have HS3 := Lib.hid hS3
      have HWd := Lib.hid hWd
      clear hS0 hWd hS3 HI0 HSq
      generalize W.drew = W5 at *
      gi_wp2_with (refine ⟨trivial, ?_⟩; gi_at_call 40; refine (CallsIn.inRound l (callsIn_wide.2 (HH1.out _))).mono ?_; rintro e w6 ⟨rfl, hb6⟩; have hI6 := (HS3.out.under hb6).1; have HI6 := Lib.hid hI6; have c4 := hI6.1.1.1.2.cell 0; have f4 := hI6.1.1.1.2.frozen 0; have hb7 := HWd.out.trans (hb6.mono HWd.out.size); have HB7 := Lib.hid hb7; dsimp at c4; clear hI6 hb7)
      exact ⟨(HKp.out _ HB7.out).1.trans (KeepsOthers.setCell _ _ _), ⟨by rw [HV.out]; exact HI6.out.1.1.set v, rfl⟩, HI6.out.2.setCell (by simp; omega) _⟩
    · have hdk : decide (ck = n / 256) = false := decide_eq_false hkey
      have hbk : ((ck : Int) == n / 256) = false := by simpa using hkey
      clear HH HHit
      refine wpIn_region_roundH (S := fun W => W.cell? ⟨w.heap.size + 1, 0, none⟩ = some (.int .i64 n) ∧ W.cell? ⟨g, 0, none⟩ = some (.int .i64 ck) ∧ W.cell? ⟨g, 1, none⟩ = some (.int .i64 f) ∧ W.cell? ⟨g, 2, none⟩ = some (.string ⟨d.toArray⟩) ∧ HaS w (.slice x len cap) n pre g (ck, f, d) W) (by kernel_rfl) (by kernel_rfl) (fun ⟨_, _, h⟩ => h) ((hS0.under ((Below.refl _ _).drew)).held) (fun hH => ?_)
      refine wpAnyH_take (i := 0) (oi := { dst := some 9, op := Go.Op.fieldAddr 54 (Go.Operand.tmp 5) 0, type := 0, pos := "roar.go:78", after := #[], guard := none }) (v := ?_) rfl (by kernel_rfl) (by kernel_rfl) (by kernel_rfl) (fun _ _ _ h => h) (Or.inl ⟨by rfl, ?_⟩) hH ?_
      rotate_left
      · intro w hSw; (try dsimp only at hSw); go_simp; try with_reducible rfl
      try simp only [Act.put, List.setIfInBounds_toArray, List.set_cons_zero, List.set_cons_succ]
      refine wpAnyH_take (i := 1) (oi := { dst := some 10, op := Go.Op.load 3 (Go.Operand.tmp 9), type := 3, pos := "roar.go:78", after := #[{ on := 0, ground := Go.Ground.data }], guard := none }) (v := ?_) rfl (by kernel_rfl) (by kernel_rfl) (by kernel_rfl) (fun _ _ _ h => h) (Or.inl ⟨by rfl, ?_⟩) hH ?_
      rotate_left
      · intro w hSw; (try dsimp only at hSw); go_simp; try with_reducible rfl
      try simp only [Act.put, List.setIfInBounds_toArray, List.set_cons_zero, List.set_cons_succ]
      refine wpAnyH_take (i := 2) (oi := { dst := some 11, op := Go.Op.load 3 (Go.Operand.tmp 3), type := 3, pos := "roar.go:78", after := #[], guard := none }) (v := ?_) rfl (by kernel_rfl) (by kernel_rfl) (by kernel_rfl) (fun _ _ _ h => h) (Or.inl ⟨by rfl, ?_⟩) hH ?_
      rotate_left
      · intro w hSw; (try dsimp only at hSw); go_simp; try with_reducible rfl
      try simp only [Act.put, List.setIfInBounds_toArray, List.set_cons_zero, List.set_cons_succ]
      refine wpAnyH_ready (rs := [3]) (by kernel_rfl) (by simp) ?_
      refine AllReadyH.cons (o := { dst := some 12, op := Go.Op.call { callee := Go.Callee.value (Go.Operand.func 30), args := #[Go.Operand.tmp 11], argTypes := #[3] }, type := 3, pos := "roar.go:78", after := #[{ on := 2, ground := Go.Ground.data }], guard := none }) rfl (fun K hK => ?_) AllReadyH.nil
      go_simp
      go_at_call 30
      refine (key_any n _).mono ?_
      rintro e w5 ⟨rfl, rfl⟩
      first | refine hK.out _ _ (hH) (fun hH3 => ?_) | (go_wp2_with fail; refine hK.out _ _ (hH) (fun hH3 => ?_))
      clear hK K hH
      try simp only [Act.put, List.setIfInBounds_toArray, List.set_cons_zero, List.set_cons_succ]
      refine wpAnyH_take (i := 4) (oi := { dst := some 13, op := Go.Op.binOp Go.BinOp.eql 3 (Go.Operand.tmp 10) (Go.Operand.tmp 12) 3, type := 4, pos := "roar.go:78", after := #[{ on := 1, ground := Go.Ground.data }, { on := 3, ground := Go.Ground.data }], guard := none }) (v := ?_) rfl (by kernel_rfl) (by kernel_rfl) (by kernel_rfl) (fun _ _ _ h => h) (Or.inl ⟨by rfl, ?_⟩) hH3 ?_
      rotate_left
      · intro w hSw; (try dsimp only at hSw); go_simp; try with_reducible rfl
      try simp only [Act.put, List.setIfInBounds_toArray, List.set_cons_zero, List.set_cons_succ]
      refine wpAnyH_done (by kernel_rfl) ?_ _
      have hWd := (Below.refl W.heap.size W).drew
      have HI5 : Hid (HaI w (.slice x len cap) n (pre ++ [(ck, f, d)]) W.drew) := Lib.hid ⟨⟨hH3.2.2.2.2.1.1.1, hH3.2.2.2.2.1.1.2.snoc hkey⟩, hH3.2.2.2.2.1.2⟩
      have HK5 := Lib.hid (HKp.out _ hWd)
      clear hS0 hWd hH3 HI0 HSq
      generalize W.drew = W5 at *
      gi_wp2
      exact ⟨HK5.out.1, HK5.out.2, HI5.out⟩
  case done =>
    rintro D ys W hD rfl hI hK
    have c4 := hI.1.1.1.2.cell 0; have f4 := hI.1.1.1.2.frozen 0
    dsimp at c4
    have HV := Lib.hid (has_none hI.1.2)
    have hSE := (hI.1.1.set false).book (D := D) (by omega) (.deferred none)
    have hBe := hI.2.setCell (p := ⟨w.heap.size + 1 + 1, 0, none⟩) (by simp; omega) (.bool false)
    have HE := Lib.hid (show _ ∧ _ from ⟨hSE.1.2.cell 0, hBe.grown (grownBy_putObj' _ D (.deferred none)) hBe.size (fun k e => by cases e; omega)⟩)
    have hK2 : (W.setCell ⟨w.heap.size + 1 + 1, 0, none⟩ (.bool false)).heap[D]? = some (.deferred (some [])) := by
      rw [Below.heap_setCell _ _ _ _ (by simp; omega)]; exact hK
    clear hI hSE hBe
    go_wp2
    try rw [Exit.noGoto_ret]
    exact ⟨by simp, .inl ⟨_, _, rfl, run_takeDeferred hK2, _, results_boolC (t := 4) rfl rfl HE.out.1, ⟨by rw [HV.out], HE.out.2⟩⟩⟩
  case stop =>
    rintro D cd pre W hD hSp ⟨⟨hI, rfl⟩, hB⟩ hK
    have hSE := hI.book (D := D) (by omega) (.deferred none)
    have HE := Lib.hid (show _ ∧ _ from ⟨hSE.1.2.cell 0, hB.grown (grownBy_putObj' _ D (.deferred none)) hB.size (fun k e => by cases e; omega)⟩)
    clear hI hB hSE
    refine (wpIn_wide (n := 4)).2 ?_
    go_wp2
    try rw [Exit.noGoto_ret]
    exact ⟨by simp, .inl ⟨_, _, rfl, run_takeDeferred hK, _, results_boolC (t := 4) rfl rfl HE.out.1, ⟨rfl, HE.out.2⟩⟩⟩
end Go.Proofs.Ytbfchlfagdhglaa
/- cont.Rank, Select: the numbers of a container gone through. -/
namespace Go.Proofs.Ytbfchlfagdhglaa
open Go.RowKit
attribute [local go_sem] Oper.semAt_some

theorem rank_le (s : Bs) (n : Int) : rankS s n ≤ 256 := by
  unfold rankS
  exact Nat.le_trans (valsTo_le s _) (by omega)
theorem rank_part {s : Bs} {m : Nat} {n : Int} (hm : m ≤ 256) (h : ∀ y ∈ valsTo s m, (y : Int) ≤ n) (hn : n < m) : rankS s n = (valsTo s m).length := by
  unfold rankS
  obtain ⟨r, e, hr⟩ := valsTo_take s (min 256 (n + 1).toNat) m (by omega)
  cases r with
  | nil => rw [e, List.append_nil]
  | cons a r =>
    have h1 := h a (by rw [e]; simp)
    have h2 := hr a (List.mem_cons_self ..)
    have h3 : a < m := (mem_valsTo.1 (by rw [e]; simp : a ∈ valsTo s m)).1
    omega
theorem rank_all {s : Bs} {n : Int} (h : ∀ y ∈ vals s, (y : Int) ≤ n) : rankS s n = (vals s).length := by
  rcases Int.lt_or_le n 256 with h2 | h2
  · exact rank_part (Nat.le_refl _) h (by omega)
  · unfold rankS vals
    rw [show min 256 (n + 1).toNat = 256 by omega]

/-- All that have come are at most n. -/
def AllLe (n : Int) (pre : List Nat) : Prop := ∀ y ∈ pre, (y : Int) ≤ n
/-- What holds between two rounds, and when the loop is left. -/
def RankI (w w1 : World) (n : Int) (pre : List Nat) (W : World) : Prop :=
  (((Blk W (w1.heap.size + 1) 3 #[.int .i64 (pre.length : Nat)] ∧ Blk W (w1.heap.size + 1 + 1) 112 #[.pointer (some ⟨w1.heap.size, 0, none⟩)]) ∧ Blk W (w.heap.size + 1) 3 #[.int .i64 n]) ∧ AllLe n pre) ∧ Below w1.heap.size w1 W
def RankX (w1 : World) (q : Nat) (cd : Code) (_ : List Nat) (W : World) : Prop := (Blk W (w1.heap.size + 1) 3 #[.int .i64 (q : Nat)] ∧ cd = .exit 0) ∧ Below w1.heap.size w1 W
theorem rankI_own (w w1 : World) (n : Int) (m : Nat) (hm : w1.heap.size ≤ m) : OwnFrom m (RankI w w1 n) :=
  OwnFrom.and (OwnFrom.and (OwnFrom.and (OwnFrom.and (Own.from (blk_own _ _ (fun (pre : List Nat) => #[.int .i64 (pre.length : Nat)])) _) (Own.from (blk_own _ _ (fun _ => #[.pointer (some ⟨w1.heap.size, 0, none⟩)])) _)) (Own.from (blk_own _ _ (fun _ => #[.int .i64 n])) _)) (ownFrom_pure _ _)) (ownFrom_below (Nat.le_refl _) hm)
theorem rankX_own (w1 : World) (q : Nat) (cd : Code) (m : Nat) (hm : w1.heap.size ≤ m) : OwnFrom m (RankX w1 q cd) :=
  OwnFrom.and (OwnFrom.and (Own.from (blk_own _ _ (fun _ => #[.int .i64 (q : Nat)])) _) (ownFrom_pure _ _)) (ownFrom_below (Nat.le_refl _) hm)

set_option maxRecDepth 100000 in
set_option maxHeartbeats 4000000 in
theorem rankC_any (f : Int) (hf1 : -9223372036854775808 ≤ f) (hf2 : f ≤ 9223372036854775807) (d : List UInt8) (hd : d.length ≤ 9223372036854775807) (n : Int) (w : World) :
    Calls Try.prog 41 #[contV f d, .int .i64 n] w fun e w' => e = .returned (.int .i64 (rankS (readS f d) n : Nat)) ∧ Below w.heap.size w w' := by
  have hz := zero_set
  have hss := scl_size
  have hst := st_new
  have hB0 : Below w.heap.size w ((w.alloc (.cells #[.int .i64 f, .string ⟨d.toArray⟩] 52)).alloc (.cells #[.int .i64 n] 3)) := ((Below.refl _ w).alloc (Nat.le_refl _) _).alloc (by simp) _
  have bN := Blk.new (w.alloc (.cells #[.int .i64 f, .string ⟨d.toArray⟩] 52)) 3 #[.int .i64 n]
  rw [World.size_alloc] at bN
  have HR := Lib.hid (read_any f hf1 hf2 d hd ((w.alloc (.cells #[.int .i64 f, .string ⟨d.toArray⟩] 52)).alloc (.cells #[.int .i64 n] 3)))
  unfold readV contV at HR
  unfold contV
  generalize readS f d = s at *
  generalize decide (RightC f d) = b at *
  refine (callsIn_wide (n := 4)).1 ?_
  refine callsIn_of_wp_marks Try.func41 rfl trivial ?_ rfl
  simp only [Try.ntmps41, List.size_toArray, List.length_cons, List.length_nil, Nat.reduceAdd, Nat.reduceSub, Array.replicate_succ, Array.replicate_zero, List.push_toArray, List.append_toArray, List.nil_append, List.cons_append]
  rw [wpIn_wide]
  go_wp2
  go_step3
  go_wp2_with fail
  refine HR.out.mono ?_
  rintro e w1 ⟨rfl, hb1⟩
  have hB1 := hB0.trans (hb1.mono hB0.size)
  have bS := Blk.new w1 92 (scl s)
  have bN1 := bN.under hb1
  have hw1 := bN1.lt
  clear hb1 bN
  go_wp2
  go_step3
  go_wp2_with (go_at_call 55; refine (numbers_any _ _).mono ?_; rintro e w' ⟨rfl, rfl⟩)
  have bR0 := (Blk.new (w1.alloc (.cells (scl s) 92)) 3 #[.int .i64 0]).alloc (.cells #[.pointer (some ⟨w1.heap.size, 0, none⟩)] 112)
  have bL0 := Blk.new ((w1.alloc (.cells (scl s) 92)).alloc (.cells #[.int .i64 0] 3)) 112 #[.pointer (some ⟨w1.heap.size, 0, none⟩)]
  have bS0 := (bS.alloc (.cells #[.int .i64 0] 3)).alloc (.cells #[.pointer (some ⟨w1.heap.size, 0, none⟩)] 112)
  have hB4 : Below w1.heap.size w1 (((w1.alloc (.cells (scl s) 92)).alloc (.cells #[.int .i64 0] 3)).alloc (.cells #[.pointer (some ⟨w1.heap.size, 0, none⟩)] 112)) := (((Below.refl _ _).alloc (Nat.le_refl _) _).alloc (by simp) _).alloc (by simp; omega) _
  have bN0 := bN1.under hB4
  have hsz0 : (((w1.alloc (.cells (scl s) 92)).alloc (.cells #[.int .i64 0] 3)).alloc (.cells #[.pointer (some ⟨w1.heap.size, 0, none⟩)] 112)).heap.size = w1.heap.size + 1 + 1 + 1 := by simp
  rw [World.size_alloc] at bR0
  rw [World.size_alloc, World.size_alloc] at bL0
  generalize (((w1.alloc (.cells (scl s) 92)).alloc (.cells #[.int .i64 0] 3)).alloc (.cells #[.pointer (some ⟨w1.heap.size, 0, none⟩)] 112)) = W0 at *
  refine (wpIn_wide (n := 4)).1 ?_
  refine wpIn_rangeFunc_nextD (n := 4) rfl (by decide) (gf := 70) (lb := #[.pointer (some ⟨w1.heap.size + 1 + 1, 0, none⟩)]) rfl trivial (enters_of Try.func70 (by kernel_rfl) rfl)
    (numbers_seq 3 (by decide) (w1.heap.size + 1 + 1) w1.heap.size s W0 bL0 bS0) keeps2_t (fun W l o hl => keeps2_b (B := W0.heap.size) (by omega) (by omega) W l o hl) (fun _ => rfl)
    (RankI w w1 n) (RankX w1 (rankS s n)) (rankI_own w w1 n _ (by omega)) (fun cd => rankX_own w1 _ cd _ (by omega))
    ⟨⟨⟨⟨bR0, bL0⟩, bN0⟩, fun y hy => by cases hy⟩, hB4⟩
    (fun x => { tmps := #[.agg #[.int .i64 f, .string ⟨d.toArray⟩], .int .i64 n, .pointer (some ⟨w.heap.size, 0, none⟩), .pointer (some ⟨w.heap.size + 1, 0, none⟩), .int .i64 0, .pointer (some ⟨w1.heap.size, 0, none⟩), .bool b, .pointer (some ⟨w1.heap.size + 1, 0, none⟩), .int .i64 (x : Nat), .tuple #[.agg (scl s), .bool b], .agg #[.int .i64 f, .string ⟨d.toArray⟩], .tuple #[.agg (scl s), .bool b], .agg (scl s), .bool b, .func (.func 70) #[] #[.pointer (some ⟨w1.heap.size + 1 + 1, 0, none⟩)], .int .i64 (x : Nat), undef, undef, undef, undef, undef, undef], defers := [] }) ?assign ?body ?done ?stop
  case assign =>
    intro l x W K hK
    gi_wp2
    exact hK
  case body =>
    rintro l pre x W ⟨⟨⟨⟨bR, bL⟩, bN⟩, hle⟩, hB⟩ ⟨hx, hsx, hpre⟩
    have hlp : pre.length ≤ 256 := by rw [hpre]; exact Nat.le_trans (valsTo_le s x) (by omega)
    have c0 := bN.cell 0; have c1 := bR.cell 0; have f1 := bR.frozen 0
    dsimp at c0 c1
    by_cases hgt : n < x
    · have HX : Hid (RankX w1 (rankS s n) (.exit 0) (pre ++ [x]) W) := Lib.hid ⟨⟨by rw [rank_part (m := x) (by omega) (by rw [← hpre]; exact hle) hgt, ← hpre]; exact bR, rfl⟩, hB⟩
      clear hle hpre bR bL bN hB
      gi_wp2
      exact ⟨KeepsOthers.refl _, HX.out⟩
    · have HI : Hid (RankI w w1 n (pre ++ [x]) (W.setCell ⟨w1.heap.size + 1, 0, none⟩ (.int .i64 ((pre.length : Int) + 1)))) := Lib.hid ⟨⟨⟨⟨by
          have := bR.set_ 0 (.int .i64 ((pre.length : Int) + 1))
          rw [show ((pre ++ [x]).length : Nat) = pre.length + 1 by simp]; exact this, bL.far (p := ⟨w1.heap.size + 1, 0, none⟩) (by simp) _⟩, bN.far (p := ⟨w1.heap.size + 1, 0, none⟩) (by simp; omega) _⟩, fun y hy => by
            rcases List.mem_append.1 hy with hy | hy
            · exact hle y hy
            · rw [List.mem_singleton.1 hy]; omega⟩, hB.setCell (p := ⟨w1.heap.size + 1, 0, none⟩) (by simp) _⟩
      have hK := keeps2_set (Ba := w1.heap.size + 1 + 1) (Bb := w1.heap.size) W ⟨w1.heap.size + 1, 0, none⟩ (.int .i64 ((pre.length : Int) + 1)) (by simp) (by simp)
      have HK := Lib.hid hK
      clear hle hpre bR bL bN hB hK
      gi_wp2
      exact ⟨KeepsOthers.setCell _ _ _, HK.out, HI.out⟩
  case done =>
    rintro D ys W hD rfl ⟨⟨⟨⟨bR, bL⟩, bN⟩, hle⟩, hB⟩ hK
    have c1 := bR.cell 0
    dsimp at c1
    rw [← rank_all hle] at c1
    have HN : Hid (Below w.heap.size w (W.putObj D (.deferred none))) := Lib.hid (hB1.trans ((hB.grown (grownBy_putObj' W D _) hB.size (fun k e => by cases e; omega)).mono hB1.size))
    obtain ⟨q, hq⟩ : ∃ q, q = rankS s n := ⟨_, rfl⟩
    rw [← hq] at c1
    have HQ := Lib.hid hq
    clear hq
    clear bR bL bN hle hB
    go_wp2
    try rw [Exit.noGoto_ret]
    exact ⟨by simp, .inl ⟨_, _, rfl, run_takeDeferred hK, _, results_tmp (t := 4) rfl _ _ _, ⟨by rw [← HQ.out]; rfl, HN.out⟩⟩⟩
  case stop =>
    rintro D cd pre W hD hSp ⟨⟨bR, rfl⟩, hB⟩ hK
    have c1 := bR.cell 0
    dsimp at c1
    have HN : Hid (Below w.heap.size w (W.putObj D (.deferred none))) := Lib.hid (hB1.trans ((hB.grown (grownBy_putObj' W D _) hB.size (fun k e => by cases e; omega)).mono hB1.size))
    obtain ⟨q, hq⟩ : ∃ q, q = rankS s n := ⟨_, rfl⟩
    rw [← hq] at c1
    have HQ := Lib.hid hq
    clear hq
    clear bR hB
    refine (wpIn_wide (n := 4)).2 ?_
    go_wp2
    try rw [Exit.noGoto_ret]
    exact ⟨by simp, .inl ⟨_, _, rfl, run_takeDeferred hK, _, results_tmp (t := 4) rfl _ _ _, ⟨by rw [← HQ.out]; rfl, HN.out⟩⟩⟩
end Go.Proofs.Ytbfchlfagdhglaa
