/- The document's answer: which numbers a container's bytes have (Set). -/
import Derived.Test.YtpjcndfamhehlaaCRefM
namespace Go.Proofs.Ytpjcndfamhehlaa
open Go.RowKit

/-- The state of the walk: the set's block, and the others. -/
def SetSt (w : World) (f : Int) (d : List UInt8) (s : Bs) (wr : World) : Prop := Blk wr w.heap.size 23 #[.int .i64 f, .string ⟨d.toArray⟩] ∧ Blk wr (w.heap.size + 1) 51 (bcl fun _ => false) ∧ Blk wr (w.heap.size + 1 + 1) 51 (bcl s) ∧ Below w.heap.size w wr
theorem SetSt.put {w wr : World} {f : Int} {d : List UInt8} {s : Bs} (h : SetSt w f d s wr) (n : Nat) (b : Bool) {t : Bs} (e : bcl (put1 s n b) = bcl t) : SetSt w f d t (wr.setCell ⟨w.heap.size + 1 + 1, n, none⟩ (.bool b)) := by
  obtain ⟨h0, h1, h2, h3⟩ := h
  refine ⟨h0.far (by simp; omega) _, h1.far (by simp) _, ?_, h3.setCell (by show w.heap.size ≤ w.heap.size + 1 + 1; omega) _⟩
  have := h2.set_ n (.bool b)
  rwa [bcl_set, e] at this

set_option maxRecDepth 100000 in
set_option maxHeartbeats 2000000 in
theorem ref_set_any (f : Int) (d : List UInt8) (hd : d.length ≤ 300) (w : World) :
    Calls Try.prog 35 #[contV f d] w fun e w' => e = .returned (.agg (bcl (setOf f.toNat d))) ∧ Below w.heap.size w w' := by
  have hz := zero_b256
  have hs0 : ∀ n, (bcl n).size = 256 := bcl_size
  unfold contV
  have hS0 : SetSt w f d (fun _ => false) (((w.alloc (.cells #[.int .i64 f, .string ⟨d.toArray⟩] 23)).alloc (.cells (bcl fun _ => false) 51)).alloc (.cells (bcl fun _ => false) 51)) := by
    refine ⟨((Blk.new w _ _).alloc _).alloc _, ?_, ?_, ?_⟩
    · have := (Blk.new (w.alloc (.cells #[.int .i64 f, .string ⟨d.toArray⟩] 23)) 51 (bcl fun _ => false)).alloc (.cells (bcl fun _ => false) 51)
      simpa using this
    · have := Blk.new ((w.alloc (.cells #[.int .i64 f, .string ⟨d.toArray⟩] 23)).alloc (.cells (bcl fun _ => false) 51)) 51 (bcl fun _ => false)
      simpa using this
    · exact (((Below.refl _ _).alloc (Nat.le_refl _) _).alloc (by simp) _).alloc (by simp; omega) _
  have HS0 := Lib.hid hS0
  clear hS0
  go_enter Try.func35, Try.ntmps35
  by_cases h1 : f = 1
  · subst h1
    go_wp2
    generalize (((w.alloc (.cells #[.int .i64 1, .string ⟨d.toArray⟩] 23)).alloc (.cells (bcl fun _ => false) 51)).alloc (.cells (bcl fun _ => false) 51)) = w1 at *
    go_loopw [4] (fun i wr => ∃ k : Nat, k ≤ d.length ∧ i = .int .i64 k ∧ SetSt w 1 d (setA (d.take k)) wr)
      (fun i _ => d.length - (intOf i).toNat)
    case atStart => exact ⟨0, Nat.zero_le _, rfl, HS0.out⟩
    case round =>
      obtain ⟨k, hk, rfl, hS⟩ := hrel
      have c0 := hS.1.cell 0
      have c1 := hS.1.cell 1
      by_cases hlt : k < d.length
      · have hb := byteC_get d k hlt
        have hbl := byteC_lt d k
        have HP : Hid (SetSt w 1 d (setA (d.take (k + 1))) (wr.setCell ⟨w.heap.size + 1 + 1, byteC d k, none⟩ (.bool true))) := Lib.hid (hS.put _ _ (setA_take d k _ (byte_at d k hlt)))
        have c2 := hS.2.2.1.cell (byteC d k)
        rw [bcl_get hbl] at c2
        have c3 := hS.2.2.1.frozen (byteC d k)
        generalize byteC d k = b at *
        have hlt' : (k : Int) < d.length := by omega
        clear hS
        go_wp2
        go_roundw
        case rel => exact ⟨k + 1, by omega, by simp, HP.out⟩
        case measure => simp [intOf]; omega
      · obtain rfl : k = d.length := by omega
        rw [List.take_length] at hS
        have HE : Hid (setOf (1 : Int).toNat d = setA d) := Lib.hid rfl
        have hsc := store_cells hS.2.1 (setA d)
        have bE := hS.2.1.setRow (bcl (setA d))
        have hBE := below_setRow hS.2.2.2 (g := w.heap.size + 1) (by omega) (bcl (setA d))
        have hld2 := load_var bE
        go_wp2
        refine wp_load_set _ rfl _ rfl _ hS.2.2.1 ?_
        go_wp2
        refine bodyPost_ret (v := .agg (bcl (setA d))) ?_ rfl ⟨by rw [← HE.out], hBE⟩
        simp [results, Try.results35, asAddr, hld2]
  by_cases h2 : f = 2
  · subst h2
    clear h1
    go_wp2
    generalize (((w.alloc (.cells #[.int .i64 2, .string ⟨d.toArray⟩] 23)).alloc (.cells (bcl fun _ => false) 51)).alloc (.cells (bcl fun _ => false) 51)) = w1 at *
    go_loopw [5] (fun i wr => ∃ k : Nat, k ≤ d.length ∧ k ≤ 32 ∧ i = .int .i64 k ∧ SetSt w 2 d (upS (setB d) (8 * k)) wr)
      (fun i _ => 32 - (intOf i).toNat)
    case atStart => exact ⟨0, Nat.zero_le _, Nat.zero_le _, rfl, by rw [Nat.mul_zero, upS_zero]; exact HS0.out⟩
    case round =>
      obtain ⟨k, hk, hk32, rfl, hS⟩ := hrel
      have c0 := hS.1.cell 0
      have c1 := hS.1.cell 1
      by_cases hlt : k < d.length ∧ k < 32
      · have hlt' : (k : Int) < d.length := by omega
        have hlt2 : (k : Int) < 32 := by omega
        go_wp2
        go_loopw [6] (fun j wi => ∃ x : Nat, x ≤ 8 ∧ j = .int .i64 x ∧ SetSt w 2 d (upS (setB d) (8 * k + x)) wi)
          (fun j _ => 8 - (intOf j).toNat)
        case atStart => exact ⟨0, Nat.zero_le _, rfl, hS⟩
        case round =>
          obtain ⟨x, hx, rfl, hSi⟩ := hrel
          by_cases hx8 : x < 8
          · have hx8' : (x : Int) < 8 := by omega
            have c0 := hSi.1.cell 0
            have c1 := hSi.1.cell 1
            have hb := byteC_get d k hlt.1
            have hbl := byteC_lt d k
            have HP : Hid (SetSt w 2 d (upS (setB d) (8 * k + x + 1)) (wr.setCell ⟨w.heap.size + 1 + 1, 8 * k + x, none⟩ (.bool (byteC d k / 2 ^ x % 2 == 1)))) := Lib.hid (hSi.put _ _ (by rw [← bit_at d k x hx8]; exact upS_put (setB d) (8 * k + x)))
            have c2 := hSi.2.2.1.cell (8 * k + x)
            rw [bcl_get (by omega)] at c2
            have c3 := hSi.2.2.1.frozen (8 * k + x)
            have hM : 8 * k + x < 256 := by omega
            have hMi : (8 : Int) * k + x = ((8 * k + x : Nat) : Int) := by omega
            have hMl : 8 * (k + 1) = 8 * k + 8 := by omega
            obtain ⟨M, hMn⟩ : ∃ M, M = 8 * k + x := ⟨_, rfl⟩
            rw [← hMn] at HP c2 c3 hM hMi
            have HMn := Lib.hid hMn
            generalize byteC d k = b at *
            clear hS hSi hMn
            go_wp2
            refine ⟨⟨x + 1, by omega, by simp, ?_⟩, by simp [intOf]; omega⟩
            rw [bit_bool, ← Nat.add_assoc, ← HMn.out]; exact HP.out
          · obtain rfl : x = 8 := by omega
            go_wp2
            refine ⟨⟨k + 1, by omega, by omega, by simp, ?_⟩, by simp [intOf]; omega⟩
            exact hSi
      · have hE : bcl (upS (setB d) (8 * k)) = bcl (setB d) := upS_all _ _ (fun n hn h => setB_over d n (by omega))
        have HE : Hid (setOf (2 : Int).toNat d = setB d) := Lib.hid rfl
        have hS2 := hS.2.2.1
        rw [hE] at hS2
        have hsc := store_cells hS.2.1 (setB d)
        have bE := hS.2.1.setRow (bcl (setB d))
        have hBE := below_setRow hS.2.2.2 (g := w.heap.size + 1) (by omega) (bcl (setB d))
        have hld2 := load_var bE
        by_cases hlt3 : k < d.length
        · have hlt' : (k : Int) < d.length := by omega
          have hlt2 : ¬ (k : Int) < 32 := by omega
          clear hS hE hlt
          go_wp2
          refine wp_load_set _ rfl _ rfl _ hS2 ?_
          go_wp2
          refine bodyPost_ret (v := .agg (bcl (setB d))) ?_ rfl ⟨by rw [← HE.out]; rfl, hBE⟩
          simp [results, Try.results35, asAddr, hld2]
        · have hlt' : ¬ (k : Int) < d.length := by omega
          clear hS hE hlt
          go_wp2
          refine wp_load_set _ rfl _ rfl _ hS2 ?_
          go_wp2
          refine bodyPost_ret (v := .agg (bcl (setB d))) ?_ rfl ⟨by rw [← HE.out]; rfl, hBE⟩
          simp [results, Try.results35, asAddr, hld2]
  by_cases h3 : f = 3
  · subst h3
    clear h1 h2
    go_wp2
    generalize (((w.alloc (.cells #[.int .i64 3, .string ⟨d.toArray⟩] 23)).alloc (.cells (bcl fun _ => false) 51)).alloc (.cells (bcl fun _ => false) 51)) = w1 at *
    go_loopw [7] (fun i wr => ∃ k : Nat, 2 * k ≤ d.length + 1 ∧ i = .int .i64 (2 * k : Nat) ∧ SetSt w 3 d (setR (d.take (2 * k))) wr)
      (fun i _ => d.length + 2 - (intOf i).toNat)
    case atStart => exact ⟨0, by omega, rfl, HS0.out⟩
    case round =>
      obtain ⟨k2, hk, rfl, hS⟩ := hrel
      obtain ⟨k, hkd⟩ : ∃ k, k = 2 * k2 := ⟨_, rfl⟩
      have hkm : k % 2 = 0 := by omega
      have Hk2 : Hid (2 * (k2 + 1) = k + 2) := Lib.hid (by omega)
      have Hkd := Lib.hid hkd
      rw [← hkd] at hS hk ⊢
      clear hkd
      have c0 := hS.1.cell 0
      have c1 := hS.1.cell 1
      by_cases hlt : k + 1 < d.length
      · have hlt' : (k : Int) + 1 < d.length := by omega
        go_wp2
        go_loopw [8] (fun j wi => ∃ x : Nat, x ≤ byteC d (k + 1) + 1 ∧ j = .int .i64 x ∧ SetSt w 3 d (partR d k x) wi)
          (fun j _ => 257 - (intOf j).toNat)
        case atStart => exact ⟨0, Nat.zero_le _, rfl, by rw [partR_zero]; exact hS⟩
        case round =>
          obtain ⟨x, hx, rfl, hSi⟩ := hrel
          have c0 := hSi.1.cell 0
          have c1 := hSi.1.cell 1
          have hb := byteC_get d k (by omega)
          have hb1 := byteC_get d (k + 1) hlt
          have hbl := byteC_lt d k
          have hbl1 := byteC_lt d (k + 1)
          have HP : Hid (SetSt w 3 d (partR d k (x + 1)) (wr.setCell ⟨w.heap.size + 1 + 1, byteC d k + x, none⟩ (.bool true))) := Lib.hid (hSi.put _ _ (partR_put d k x))
          have HA : Hid (x = byteC d (k + 1) + 1 ∨ 256 ≤ byteC d k + x ∧ x ≤ byteC d (k + 1) → SetSt w 3 d (setR (d.take (k + 2))) wr) := Lib.hid (fun h => by
            have e := partR_all d k x hkm hlt h
            unfold SetSt at hSi ⊢
            rwa [e] at hSi)
          by_cases hx1 : x ≤ byteC d (k + 1)
          · have hx1' : (x : Int) ≤ byteC d (k + 1) := by omega
            by_cases hx2 : byteC d k + x < 256
            · have c2 := hSi.2.2.1.cell (byteC d k + x)
              rw [bcl_get hx2] at c2
              have c3 := hSi.2.2.1.frozen (byteC d k + x)
              have hx2' : (byteC d k : Int) + x < 256 := by omega
              have hMi : (byteC d k : Int) + x = ((byteC d k + x : Nat) : Int) := by omega
              generalize byteC d k + x = M at *
              generalize byteC d k = b at *
              generalize byteC d (k + 1) = b1 at *
              clear hS hSi HA
              go_wp2
              refine ⟨⟨x + 1, by omega, by simp, HP.out⟩, by simp [intOf]; omega⟩
            · have hx2' : ¬ (byteC d k : Int) + x < 256 := by omega
              have HQ := Lib.hid (HA.out (.inr ⟨by omega, hx1⟩))
              generalize byteC d k = b at *
              generalize byteC d (k + 1) = b1 at *
              clear hS hSi HA HP
              go_wp2
              refine ⟨⟨k2 + 1, by have := Hk2.out; omega, by rw [Hk2.out]; simp, by rw [Hk2.out]; exact HQ.out⟩, by simp [intOf]; omega⟩
          · have hx1' : ¬ (x : Int) ≤ byteC d (k + 1) := by omega
            have HQ := Lib.hid (HA.out (.inl (by omega)))
            generalize byteC d k = b at *
            generalize byteC d (k + 1) = b1 at *
            clear hS hSi HA HP
            go_wp2
            refine ⟨⟨k2 + 1, by have := Hk2.out; omega, by rw [Hk2.out]; simp, by rw [Hk2.out]; exact HQ.out⟩, by simp [intOf]; omega⟩
      · have hE : bcl (setR (d.take k)) = bcl (setR d) := bcl_congr fun n _ => setR_take d k hkm (by omega) n
        have HE : Hid (setOf (3 : Int).toNat d = setR d) := Lib.hid rfl
        have hS2 := hS.2.2.1
        rw [hE] at hS2
        have hsc := store_cells hS.2.1 (setR d)
        have bE := hS.2.1.setRow (bcl (setR d))
        have hBE := below_setRow hS.2.2.2 (g := w.heap.size + 1) (by omega) (bcl (setR d))
        have hld2 := load_var bE
        have hlt' : ¬ (k : Int) + 1 < d.length := by omega
        clear hS hE hlt
        go_wp2
        refine wp_load_set _ rfl _ rfl _ hS2 ?_
        go_wp2
        refine bodyPost_ret (v := .agg (bcl (setR d))) ?_ rfl ⟨by rw [← HE.out]; rfl, hBE⟩
        simp [results, Try.results35, asAddr, hld2]
  have h1' : (f == 1) = false := by simpa using h1
  have h2' : (f == 2) = false := by simpa using h2
  have h3' : (f == 3) = false := by simpa using h3
  have HE : Hid (setOf f.toNat d = fun _ => false) := Lib.hid (by unfold setOf; rw [if_neg (by omega), if_neg (by omega), if_neg (by omega)])
  have hS := HS0.out
  have hsc := store_cells hS.2.1 (fun _ => false)
  have bE := hS.2.1.setRow (bcl fun _ => false)
  have hBE := below_setRow hS.2.2.2 (g := w.heap.size + 1) (by omega) (bcl fun _ => false)
  have hld2 := load_var bE
  have hS2 := hS.2.2.1
  clear HS0 hS h1 h2 h3
  go_wp2
  refine wp_load_set _ rfl _ rfl _ hS2 ?_
  go_wp2
  refine bodyPost_ret (v := .agg (bcl fun _ => false)) ?_ rfl ⟨by rw [← HE.out], hBE⟩
  simp [results, Try.results35, asAddr, hld2]
end Go.Proofs.Ytpjcndfamhehlaa
