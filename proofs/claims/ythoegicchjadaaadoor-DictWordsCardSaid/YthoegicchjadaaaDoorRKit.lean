/- A region that draws its order, within a round of a loop over a function: as without the round, where no operation is a defer statement. -/
import Derived.RegionIn
import Derived.OwnWalkIn
import Derived.RangeFuncCalls
namespace Go.Proofs.YthoegicchjadaaaDoor
open Go

def noDefer (o : Oper) : Bool := match o.op with | .defer _ => false | _ => true
theorem noDefer_spec {o : Oper} (h : noDefer o = true) : ∀ c, o.op ≠ .defer c := fun c e => by
  unfold noDefer at h
  rw [e] at h
  cases h
theorem uponIn_round {F : Fence} {n : Nat} {P : Program} {o : Oper} {a : Act} {K : Act → World → Prop} {Q : Exit → Act → World → Prop} (l : Nat) {r : Result Next} (h : Oper.uponIn F n P o a K Q r) : Oper.uponIn (F.inRound l) n P o a K Q r := by
  cases r with
  | ok x w => cases x <;> exact h
  | halt x w => cases x <;> exact h
theorem operIn_round {F : Fence} {n : Nat} {P : Program} {o : Oper} {a : Act} {w : World} {K : Act → World → Prop} {Q : Exit → Act → World → Prop} (l : Nat) (hd : noDefer o = true) (hro : F.round = none) (h : Oper.wpIn F n P o a w K Q) : Oper.wpIn (F.inRound l) n P o a w K Q := by
  unfold Oper.wpIn at h ⊢
  refine ⟨h.1, ?_⟩
  have h2 := h.2
  rw [hro, Oper.semAt_none] at h2
  rw [Oper.semAt_plain (F.inRound l) _ _ (noDefer_spec hd)]
  exact uponIn_round l h2
theorem opsIn_round {F : Fence} {n : Nat} {P : Program} {ops : Array Oper} {Q : Exit → Act → World → Prop} (l : Nat) (hd : ops.all noDefer = true) (hro : F.round = none) : ∀ (is : List Nat) (a : Act) (w : World), wpOpsIn F n P ops Q is a w → wpOpsIn (F.inRound l) n P ops Q is a w := by
  intro is
  induction is with
  | nil => intro a w h; simpa [wpOpsIn] using h
  | cons i is ih =>
    intro a w h
    rw [wpOpsIn_cons] at h ⊢
    refine wpOpIn_mono (fun a w => ih a w) ?_
    unfold wpOpIn at h ⊢
    cases ho : ops[i]? with
    | none => rw [ho] at h; exact h
    | some o =>
      rw [ho] at h
      have hdo : noDefer o = true := by
        obtain ⟨hi, rfl⟩ := Array.getElem?_eq_some_iff.1 ho
        exact (Array.all_eq_true.1 hd) i hi
      simp only at h ⊢
      split
      · rename_i hw
        rw [if_pos hw] at h
        exact operIn_round l hdo hro h
      · rename_i hw
        rw [if_neg hw] at h
        exact h
/-- The order drawn: as outside the round. -/
theorem wpIn_region_round {F : Fence} {n : Nat} {P : Program} {ops : Array Oper} {Q : Exit → Act → World → Prop} {l id : Nat} {a : Act} {w : World} (hro : F.round = none) (hd : ops.all noDefer = true) (hm : P.follows .mixedOrders = true)
    (h : wpAnyIn F n P .any ops Q ops.size (Array.replicate ops.size false) a w.drew) : (Code.region id ops true).wpIn (F.inRound l) n P Q a w :=
  wpIn_region_draw fun t => by
    simp only [Region.schedule, hm, Bool.true_or, if_true]
    exact opsIn_round l hd hro _ _ _ (wpAnyIn_sound ops.size t _ a _ h)
end Go.Proofs.YthoegicchjadaaaDoor
