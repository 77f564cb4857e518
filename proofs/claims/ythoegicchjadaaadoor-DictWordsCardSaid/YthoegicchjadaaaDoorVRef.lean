/- The document's answers: Put, Get. -/
import Derived.Test.YthoegicchjadaaaDoorVLeaf
import Derived.Deep.RegionWith
import Derived.Laws.Concat
import Derived.Laws.IdiomStrings
namespace Go.Proofs.YthoegicchjadaaaDoor
open Go.RowKit

theorem conv_one (x : UInt8) (c : Nat) (W : World) (b : Nat) (h : W.cell? ⟨b, 0, none⟩ = some (.int .u8 (x.toNat : Int))) : (convert 42 9 (.slice (some ⟨b, 0, none⟩) 1 c)).run Tryd.prog W = .ok (.string ⟨[x].toArray⟩) W :=
  run_convert_bytes_back W _ _ _ ⟨b, 0, none⟩ c [x] Tryd.underlying42 Tryd.underlying5 Tryd.underlying9 (fun j hj => by
    obtain rfl : j = 0 := by simpa using hj
    exact h)

set_option maxRecDepth 100000 in
set_option maxHeartbeats 1000000 in
theorem ref_put_any (n : Nat) : n < 18446744073709551616 → ∀ w : World, Calls Tryd.prog 38 #[.int .u64 n] w fun e w' => e = .returned (.string ⟨(vput n).toArray⟩) ∧ Below w.heap.size w w' := by
  induction n using Nat.strongRecOn with
  | _ n ih =>
    intro hn w
    by_cases h : n < 128
    · have H := Lib.hid (vput_lo h)
      have h1 : (n : Int) < 128 := by omega
      have hx := ofNat_toNat n (by omega)
      generalize UInt8.ofNat n = x at *
      have hcv := conv_one x 1
      rw [hx] at hcv
      have h2 : (n : Int) % 256 = n := by omega
      clear ih hx
      go_enter Tryd.func38, Tryd.ntmps38
      go_wp2
      go_ret
      exact ⟨ret_bs (by rw [H.out]), (Below.refl _ _).alloc (Nat.le_refl _) _⟩
    · have H := Lib.hid (vput_hi h)
      have h1 : ¬ (n : Int) < 128 := by omega
      have hl := length_put (n := n / 128) (by omega)
      have IH : Hid (∀ w : World, Calls Tryd.prog 38 #[.int .u64 ((n : Int) / 128)] w fun e w' => e = .returned (.string ⟨(vput (n / 128)).toArray⟩) ∧ Below w.heap.size w w') := Lib.hid (by simpa using ih (n / 128) (by omega) (by omega))
      have hx := ofNat_toNat (128 + n % 128) (by omega)
      generalize UInt8.ofNat (128 + n % 128) = x at *
      generalize vput (n / 128) = q at *
      have hadd : ∀ W : World, (Op.stringOp .add ⟨#[x]⟩ ⟨q.toArray⟩).run Tryd.prog W = .ok (.string ⟨(x :: q).toArray⟩) W := fun W => by
        rw [run_string_add_sum W _ _ (by simp [ByteArray.size]; omega)]
        rw [show (ByteArray.mk #[x]) = ⟨[x].toArray⟩ from rfl, app_mk]
        rfl
      have hcv := conv_one x 1
      rw [hx] at hcv
      have e1 : IntKind.u64.wrap (128 + (n : Int) % 128) = 128 + (n : Int) % 128 := by rw [u64_wrap]; omega
      have e0 : (n : Int).tmod 128 = (n : Int) % 128 := Int.tmod_eq_emod_of_nonneg (by omega)
      have e2 : IntKind.u8.wrap (128 + (n : Int) % 128) = 128 + (n : Int) % 128 := by simp [IntKind.wrap, IntKind.bits, IntKind.signed]; omega
      have e4 : IntKind.u64.wrap ((n : Int) / 128) = (n : Int) / 128 := by rw [u64_wrap]; omega
      have e3 : ((128 + n % 128 : Nat) : Int) = 128 + (n : Int) % 128 := by omega
      rw [e3] at hcv
      have HX := Lib.hid hx
      clear ih hx e3
      go_enter Tryd.func38, Tryd.ntmps38
      go_wp2_with fail
      go_region_with (go_at_call 38; refine (IH.out _).mono ?_; rintro e w' ⟨rfl, hb⟩; try have hk := (hb.cell (p := ⟨w.heap.size, 0, none⟩) (by simp)).trans (World.cell?_alloc_new _ _ _ _))
      all_goals
        go_wp2
        go_ret
        refine ⟨ret_bs (by rw [H.out]), ?_⟩
        first
          | exact (((Below.refl _ _).drew).alloc (Nat.le_refl _) _).trans (hb.mono (by simp))
          | exact (((Below.refl _ _).drew).trans hb).alloc hb.size _
end Go.Proofs.YthoegicchjadaaaDoor
