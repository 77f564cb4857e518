/- DictWords: a word is found just if it was built in; what begins with a word lies between; a dictionary built anew is the same; for every list (its first hundred words, each cut at 110 bytes) and every word (its first hundred bytes). No condition beyond the row's: the handle of error's type and package varint's two errors lie as start-up laid them (tied to the program's text). -/
import Derived.Test.YthoegicchjadaaaDoorDRow
import Derived.Test.YthoegicchjadaaaDoorDTold
namespace Go.Proofs.YthoegicchjadaaaDoor.dictWords
open Go.ChangeShapes Go.WideShapes Go.ChangeAt Go.RowKit Go.Joins

theorem take_min (t : List UInt8) (m : Nat) (hm : m = min t.length 100) : (ByteArray.mk t.toArray).extract 0 m = ⟨(t.take 100).toArray⟩ := (ext_mk t 0 m).trans (mk_str (by
  rw [List.drop_zero, hm]
  rcases Nat.le_total t.length 100 with h | h
  · rw [Nat.min_eq_left h, List.take_length, List.take_of_length_le h]
  · rw [Nat.min_eq_right h]))
theorem stB_le (q : List UInt8 → Bool) (m : List (List UInt8)) (f : List UInt8) : stA m f ≤ stB q m f ∧ stB q m f ≤ m.length := by
  unfold stA stB
  split
  · have h1 := placeL_le m f
    have h2 := firstAt_le q (m.drop (placeL m f))
    rw [List.length_drop] at h2
    omega
  · omega
/-- As many bytes of all ones as a word has, or more, stand behind it. -/
theorem ones_top : ∀ (y : List UInt8) (m : Nat), y.length ≤ m → ¬ List.replicate m (255 : UInt8) < y
  | [], _, _ => by simp
  | c :: y, 0, h => by simp at h
  | c :: y, m + 1, h => by
    rw [List.replicate_succ, List.cons_lt_cons_iff]
    rintro (h1 | ⟨_, h1⟩)
    · rw [UInt8.lt_iff_toNat_lt] at h1
      have := UInt8.toNat_lt c
      have e : (255 : UInt8).toNat = 255 := rfl
      omega
    · exact ones_top y m (by simpa using h) h1
theorem cut_lt : ∀ {p a b : List UInt8}, p ++ a < p ++ b → a < b
  | [], _, _, h => h
  | x :: p, _, _, h => by
    rw [List.cons_append, List.cons_append, List.cons_lt_cons_iff] at h
    rcases h with h | ⟨_, h⟩
    · exact absurd h (by rw [UInt8.lt_iff_toNat_lt]; omega)
    · exact cut_lt h
/-- What begins with a word lies between it and that word with enough bytes of all ones behind it. -/
theorem prefix_between {m : List (List UInt8)} (hr : RightL m) (w : List UInt8) (k : Nat) (hk : 100 ≤ k) : stB (parts w) m w ≤ stB (behind (w ++ List.replicate k 255)) m w := by
  unfold stB
  rw [if_pos hr, if_pos hr]
  have key : firstAt (parts w) (m.drop (placeL m w)) ≤ firstAt (behind (w ++ List.replicate k 255)) (m.drop (placeL m w)) := by
    by_cases hj : firstAt (behind (w ++ List.replicate k 255)) (m.drop (placeL m w)) < (m.drop (placeL m w)).length
    · have h1 := firstAt_at hj
      refine Nat.le_of_not_lt fun h => ?_
      have h2 := firstAt_lt h
      have hx := right_len hr (List.mem_of_mem_drop (getD_mem hj))
      generalize (m.drop (placeL m w))[firstAt (behind (w ++ List.replicate k 255)) (m.drop (placeL m w))]?.getD [] = x at *
      simp only [parts, begins, Bool.not_eq_false', decide_eq_true_eq] at h2
      simp only [behind, decide_eq_true_eq] at h1
      obtain ⟨y, rfl⟩ := h2
      rw [List.length_append] at hx
      exact ones_top y k (by omega) (cut_lt h1)
    · exact Nat.le_trans (firstAt_le _ _) (by omega)
  omega
theorem found {l : List (List UInt8)} (hr : RightL (uniq l)) {x : List UInt8} (hx : x ∈ l) : findB (blist l) x = true ∧ stA (blist l) x < (blist l).length ∧ (blist l)[stA (blist l) x]?.getD [] = x := by
  have e : blist l = uniq l := by unfold blist; rw [if_pos hr]
  rw [e, findB_eq]
  have h := place_mem (right_asc hr) (mem_uniq.2 hx)
  have e2 : stA (uniq l) x = placeL (uniq l) x := by unfold stA; rw [if_pos hr]
  rw [e2]
  exact ⟨decide_eq_true ⟨hr, h⟩, h⟩
theorem found_iff {l : List (List UInt8)} (hr : RightL (uniq l)) (x : List UInt8) : findB (blist l) x = decide (x ∈ l) := by
  by_cases hx : x ∈ l
  · rw [(found hr hx).1, decide_eq_true hx]
  · have e : blist l = uniq l := by unfold blist; rw [if_pos hr]
    rw [e, findB_eq, decide_eq_false hx]
    refine decide_eq_false fun h => hx (mem_uniq.1 ?_)
    rw [← h.2.2]
    exact getD_mem h.2.1
theorem mem_next {l : List (List UInt8)} {k : Nat} (h : k < l.length) (x : List UInt8) : decide (x ∈ l.take (k + 1)) = (decide (x ∈ l.take k) || l[k]?.getD [] == x) := by
  rw [take_next h]
  by_cases h1 : x ∈ l.take k
  · simp [h1]
  · by_cases h2 : l[k]?.getD [] = x
    · simp [h1, h2]
    · have h3 : ¬ x = l[k]?.getD [] := fun e => h2 e.symm
      simp [h1, h2, h3]

set_option maxRecDepth 100000 in
set_option maxHeartbeats 8000000 in
theorem walk {n₀ : Nat} (a b : Addr) (x : Option Addr) (len cap : Nat) (ls : List (List UInt8)) (hlc : len ≤ cap) (hcm : cap ≤ 9223372036854775807) (hln : ls.length = len) (hz : ∀ j : Nat, (ls[j]?.getD []).length ≤ 9223372036854775807)
    (t : List UInt8) (ht : t.length ≤ 9223372036854775807) (w : World)
    (hI : Strs w.heap.size w (.slice x len cap) ls) (hS : Sent n₀ w a b) (hE : Ety n₀ w) (hn₀ : n₀ ≤ w.heap.size) :
    Calls Tryd.prog 7 #[.slice x len cap, .string ⟨t.toArray⟩] w fun e w' => e = .returned (.bool true) ∧ Below w.heap.size w w' := by
  have HS := Lib.hid (shown_any a b w hS hE hn₀)
  have HF := Lib.hid (fun W (h : Below w.heap.size w W) => few_told x len cap ls hz W ((Wrds.mk hln hlc hcm hI).next h))
  have hl1 := few_length ls
  have hs1 := few_short ls
  obtain ⟨m1, hm1⟩ : ∃ m : Nat, m = min t.length 100 := ⟨_, rfl⟩
  have hx1 := take_min t m1 hm1
  have hmi1 : min (t.length : Int) 100 = (m1 : Int) := by omega
  have hle1 : (m1 : Int) ≤ t.length := by omega
  have hvl : (t.take 100).length ≤ 100 := List.length_take_le _ _
  generalize t.take 100 = v at *
  clear hI hS hE hn₀ hz hln hlc hcm hm1
  go_enter Tryd.func7, Tryd.ntmps7
  go_wp2_with fail
  refine HS.out.mono ?_
  rintro e w1 ⟨rfl, hB1⟩
  go_wp2_with fail
  refine (HF.out _ hB1).mono ?_
  rintro e w2 ⟨x2, n2, cap2, rfl, hL2, hb2⟩
  have hB2 := hB1.trans (hb2.mono hB1.size)
  generalize fewS ls = l at *
  have hn2 := hL2.len
  have HB := Lib.hid (build_any x2 n2 cap2 l hn2 (by omega) w2 hL2.strs)
  have hbl := blist_length l
  have HRI := Lib.hid (right_blist l)
  go_wp2_with fail
  refine HB.out.mono ?_
  intro e w3 h
  obtain ⟨x3, n3, cap3, rfl, hL3, hb3⟩ := build_told h
  have hB3 := hB2.trans (hb3.mono hB2.size)
  have hn3 := hL3.len
  by_cases hr : RightL (uniq l)
  · have hc : bcode l = 0 := by unfold bcode; rw [if_pos hr]
    rw [hc]
    have HFI := Lib.hid (found_iff hr v)
    have HFD := Lib.hid (fun x hx => found hr (x := x) hx)
    have HPB := Lib.hid (fun k hk => prefix_between HRI.out v k hk)
    have HN := Lib.hid (fun k hk => mem_next (l := l) (k := k) hk v)
    have HSH := Lib.hid hs1
    have e1 : bcode (blist l) = 0 := by unfold bcode; rw [if_pos (by rw [uniq_of_asc (right_asc HRI.out)]; exact HRI.out)]
    have e4 : blist (blist l) = blist l := by
      have hu := uniq_of_asc (right_asc HRI.out)
      generalize blist l = d at *
      unfold blist
      rw [hu, if_pos HRI.out]
    have E1 := Lib.hid e1
    have E4 := Lib.hid e4
    have hL2' := hL2.next hb3
    generalize blist l = d at *
    have HL := Lib.hid hL2'
    have HD := Lib.hid hL3
    have HM0 : Hid (decide (v ∈ l.take 0) = false) := Lib.hid (by simp)
    clear h hc hr hL3 hL2 hL2' hb2 hb3 hB1 hB2 HB HF HS e1 e4 hs1
    go_wp2
    go_loopw [8, 9] (fun bi i wr => ∃ k : Nat, k ≤ n2 ∧ i = .int .i64 k ∧ bi = .bool (decide (v ∈ l.take k)) ∧ Below w3.heap.size w3 wr) (fun _ i _ => n2 - (intOf i).toNat)
    case atStart => exact ⟨0, Nat.zero_le _, rfl, by rw [HM0.out], Below.refl _ _⟩
    case round =>
      obtain ⟨k, hk, rfl, rfl, hBr⟩ := hrel
      by_cases hlt : k < n2
      · have hlt' : (k : Int) < n2 := by omega
        have hkl : k < l.length := by omega
        obtain ⟨fd1, fd2, fd3⟩ := HFD.out _ (getD_mem hkl)
        have hNk := HN.out k hkl
        obtain ⟨bl, ol, rfl, hbl1, hcl⟩ := HL.out.strs.at_ hlt
        obtain ⟨bd, od, rfl, hbd1, hcd⟩ := HD.out.strs.at_ (j := stA d (l[k]?.getD [])) (by omega)
        rw [fd3] at hcd
        have HFn := Lib.hid (fun W (h : Below w3.heap.size w3 W) => find_any _ n3 cap3 d (l[k]?.getD []) (HD.out.next h).len (HD.out.next h).lc (HD.out.next h).cm W (HD.out.next h).strs)
        rw [fd1] at HFn
        have hc1 : wr.cell? ⟨bl, ol + k, none⟩ = some (.string ⟨(l[k]?.getD []).toArray⟩) := (hBr.cell (p := ⟨bl, ol + k, none⟩) hbl1).trans hcl
        have HCL : Hid (∀ W, Below w3.heap.size w3 W → W.cell? ⟨bl, ol + k, none⟩ = some (.string ⟨(l[k]?.getD []).toArray⟩) ∧ W.cell? ⟨bd, od + stA d (l[k]?.getD []), none⟩ = some (.string ⟨(l[k]?.getD []).toArray⟩)) := Lib.hid (fun W h => ⟨(h.cell (p := ⟨bl, ol + k, none⟩) hbl1).trans hcl, (h.cell (p := ⟨bd, od + stA d (l[k]?.getD []), none⟩) hbd1).trans hcd⟩)
        have HNk : Hid (decide (v ∈ l.take (k + 1)) = (decide (v ∈ l.take k) || l[k]?.getD [] == v)) := Lib.hid hNk
        clear fd1 fd3 hcl hcd hNk
        rw [hn3] at fd2
        generalize stA d (l[k]?.getD []) = s at *
        generalize l[k]?.getD [] = u at *
        have hs0 : ¬ (s : Int) < 0 := by omega
        have hs0' : (0 : Int) ≤ s := by omega
        have hs2 : (s : Int) < n3 := by omega
        have hs3 : ¬ (n3 : Int) ≤ s := by omega
        have hs4 : ¬ n3 ≤ s := by omega
        have hs5 : decide (n3 ≤ s) = false := by simpa using fd2
        generalize hbi : decide (v ∈ l.take k) = bi at *
        clear hbi
        have HCC := HCL
        cases bi with
        | true =>
          go_wp2_with fail
          refine (HFn.out _ hBr).mono ?_
          rintro e w4 ⟨rfl, hb4⟩
          have hB4 := hBr.trans (hb4.mono hBr.size)
          obtain ⟨g1, g2⟩ := HCC.out _ hB4
          go_wp2
          go_quiet (fail)
          go_wp2
          go_roundw
          case rel => exact ⟨k + 1, by omega, by simp, by rw [HNk.out]; rfl, below_drewN hB4 _⟩
          case measure => simp [intOf]; omega
        | false =>
          go_wp2_with fail
          refine (HFn.out _ hBr).mono ?_
          rintro e w4 ⟨rfl, hb4⟩
          have hB4 := hBr.trans (hb4.mono hBr.size)
          obtain ⟨g1, g2⟩ := HCC.out _ hB4
          go_wp2
          go_quiet (fail)
          go_wp2
          go_roundw
          case rel => exact ⟨k + 1, by omega, by simp, by rw [HNk.out]; rfl, below_drewN hB4 _⟩
          case measure => simp [intOf]; omega
      · obtain rfl : k = n2 := by omega
        have hge : ¬ (k : Int) < k := by omega
        have hin : l.take k = l := List.take_of_length_le (by omega)
        rw [hin] at *
        have HDr := HD.out.next hBr
        have HFn := Lib.hid (find_any x3 n3 cap3 d v HDr.len HDr.lc HDr.cm wr HDr.strs)
        have HPr := Lib.hid (fun W h => prefix_any x3 n3 cap3 d v (HDr.next h).len (HDr.next h).lc (HDr.next h).cm W (HDr.next h).strs)
        have HBt := Lib.hid (fun z W h => between_any x3 n3 cap3 d v (HDr.next h).len (HDr.next h).lc (HDr.next h).cm W (HDr.next h).strs z)
        have HBl := Lib.hid (fun W h => build_any x3 n3 cap3 d (HDr.next h).len (by omega) W (HDr.next h).strs)
        have HRt := Lib.hid (fun W h => right_any x3 n3 cap3 d (HDr.next h).len (by omega) W (HDr.next h).strs)
        rw [decide_eq_true HRI.out] at HRt
        have HDW := Lib.hid HDr
        rw [HFI.out] at HFn
        have hsb := (stB_le (parts v) d v).1
        have HB0 := Lib.hid (hB3.trans (hBr.mono hB3.size))
        clear hin HDr HN HM0 HFD HL HSH hB3 hBr
        generalize decide (v ∈ l) = bi at *
        generalize stA d v = s1 at *
        generalize stB (parts v) d v = s2 at *
        have hsb' : (s1 : Int) ≤ s2 := by omega
        go_wp2_with fail
        refine HFn.out.mono ?_
        rintro e w4 ⟨rfl, hb4⟩
        go_wp2_with fail
        refine (HPr.out _ hb4).mono ?_
        rintro e w5 ⟨rfl, h5⟩
        have hb5 := hb4.trans (h5.mono hb4.size)
        clear hb4 h5
        go_wp2
        go_loopw [16] (fun z ws => ∃ j : Nat, z = .string ⟨(v ++ List.replicate j 255).toArray⟩ ∧ v.length + j ≤ 202 ∧ ws = w5) (fun z _ => match z with | .string s => 202 - s.size | _ => 0)
        case atStart => exact ⟨0, by simp, by omega, rfl⟩
        case round =>
          obtain ⟨j, rfl, hj, rfl⟩ := hrel
          have hzl : (v ++ List.replicate j (255 : UInt8)).length = v.length + j := by simp
          by_cases hlt : v.length + j < 202
          · have HS2 : Hid ((v ++ List.replicate j (255 : UInt8)) ++ [255] = v ++ List.replicate (j + 1) 255) := Lib.hid (by rw [List.append_assoc, ← List.replicate_succ'])
            have hadd : ∀ W : World, (Op.stringOp .add ⟨(v ++ List.replicate j (255 : UInt8)).toArray⟩ ⟨#[255]⟩).run Tryd.prog W = .ok (.string ⟨(v ++ List.replicate (j + 1) (255 : UInt8)).toArray⟩) W := fun W => by
              rw [run_string_add_sum W _ _ (by simp [ByteArray.size]; omega), show (ByteArray.mk #[255]) = ⟨([255] : List UInt8).toArray⟩ from rfl, app_mk, HS2.out]
            have hzl2 : (v ++ List.replicate (j + 1) (255 : UInt8)).length = v.length + (j + 1) := by simp
            generalize hz1 : v ++ List.replicate j (255 : UInt8) = z1 at *
            generalize hz2 : v ++ List.replicate (j + 1) (255 : UInt8) = z2 at *
            have HZ2 := Lib.hid hz2
            clear hz1 hz2
            have hl' : (z1.length : Int) < 202 := by omega
            go_wp2
            go_roundw
            case rel => exact ⟨j + 1, by rw [HZ2.out], by omega, by first | trivial | rfl⟩
            case measure => simp [ByteArray.size]; omega
          · have hpb := HPB.out j (by omega)
            have HBz := Lib.hid (fun W h => HBt.out (v ++ List.replicate j (255 : UInt8)) W h)
            clear HBt HPB
            generalize stB (behind (v ++ List.replicate j (255 : UInt8))) d v = s3 at *
            generalize v ++ List.replicate j (255 : UInt8) = z1 at *
            have hl' : ¬ (z1.length : Int) < 202 := by omega
            have hs23 : (s2 : Int) ≤ s3 := by omega
            clear hzl hlt hj hpb hsb
            go_wp2_with fail
            refine (HBz.out _ hb5).mono ?_
            rintro e w6 ⟨rfl, h6⟩
            have hb6 := hb5.trans (h6.mono hb5.size)
            clear h6
            go_wp2_with fail
            refine (HBl.out _ hb6).mono ?_
            intro e w7 h
            obtain ⟨x7, n7, cap7, rfl, hL7, hb7⟩ := build_told h
            clear h
            rw [E1.out]
            rw [E4.out] at hL7
            obtain rfl : n3 = n7 := by rw [← hL7.len, hn3]
            have hb67 := hb6.trans (hb7.mono hb6.size)
            have HT := Lib.hid (texts_same x7 x3 n3 cap7 cap3 d (by omega) w7 hL7.strs (HDW.out.next hb67).strs)
            have HB7 := Lib.hid hb67
            clear hb5 hb6 hb7 hb67 hL7 HBz HBl HPr HFn
            go_wp2_with fail
            refine HT.out.mono ?_
            rintro e w8 ⟨rfl, hb8⟩
            have hb78 := HB7.out.trans (hb8.mono HB7.out.size)
            go_wp2_with fail
            refine (HRt.out _ hb78).mono ?_
            rintro e w' ⟨rfl, rfl⟩
            go_wp2
            go_ret
            exact ⟨rfl, HB0.out.trans (hb78.mono HB0.out.size)⟩
  · have hc : bcode l = 50 := by unfold bcode; rw [if_neg hr]
    have he : blist l = [] := by unfold blist; rw [if_neg hr]
    rw [hc]
    have hn30 : n3 = 0 := by rw [← hn3, he]; rfl
    subst hn30
    clear h
    go_wp2
    go_ret
    exact ⟨rfl, hB3⟩

set_option maxRecDepth 100000 in
set_option maxHeartbeats 1000000 in
theorem lifted (os : Os) (started : os.Started) (H : Type) (enc : TypeId × Value → H) :
    ReturnsInHanded {} Tryd.checked os 7 .any (fun w args => (Rows.dictWordsSpec.pre enc Tryd.prog Tryd.f7 [] false w args ∧ laidMetH Tryd.prog laid3 w) ∧ sizedMet enc Tryd.prog Tryd.f7 (OpenSpec.ofChange Rows.dictWordsSpec) false w args)
      (Rows.dictWordsSpec.post enc Tryd.prog Tryd.f7 false true false false) := by
  refine returnsInHanded_of_change_and (C := Tryd.checked) (X := fun w _ => laidMetH Tryd.prog laid3 w) (fun _ _ _ hh h => h.of_heap hh) own started (by kernel_rfl) Tryd.func7
    (ChangeSpec.witness_shaped (enc := enc) (C := Tryd.checked) (os := os) (X := fun w _ => laidMetH Tryd.prog laid3 w) false (World.doorLaid Tryd.prog 54 os) #[.slice none 0 0, .string ⟨#[]⟩] 8 rfl (World.shaped_of_RefB (by kernel_rfl) (by kernel_rfl)) (by kernel_rfl) (by kernel_rfl) (by kernel_rfl) (door_met os _)) ?_
  intro W base args ds gs before hval0 hW _ _ hL _
  obtain ⟨⟨a, b, hS⟩, hE⟩ := both_of_laid hL
  have hval : ∀ (j : Nat) t v, Tryd.f7.params[j]? = some t → args[j]? = some v → Value.okWide Tryd.prog W .any base t v := hval0
  have hW' := hW
  obtain ⟨p, q, hA0, hV, rfl, hfz, hnd⟩ := hW
  have hA : DataW.TrodAll enc Tryd.prog W 0 (fun _ => true) true Tryd.f7.params.toList args.toList ds p := hA0
  rw [Tryd.params7] at hA hval
  obtain ⟨v0, vs0, d0, ds0, p0, q0, hargs, rfl, rfl, h0, r0⟩ := trodAll_cons hA
  obtain ⟨v1, vs1, d1, ds1, p1, q1, rfl, rfl, rfl, h1, r1⟩ := trodAll_cons r0
  obtain ⟨rfl, rfl, rfl⟩ := trodAll_nil r1
  obtain rfl : args = #[v0, v1] := by cases args; simp_all
  obtain ⟨rfl, rfl⟩ := trodVars_none hV
  obtain ⟨x0, len0, cap0, ls0, rfl, hlc0, hcm0, hln0, hz0, hI0, hr0⟩ := open_strings (hval 0 22 v0 rfl rfl) h0 (fun q hq => hW'.lt q (by simp [hq]))
  obtain ⟨z1, rfl, l1, rfl, hr1⟩ := open_text (hval 1 9 v1 rfl rfl) h1
  clear hA0 hval0
  simp only [List.append_nil] at hW'
  refine (walk a b x0 len0 cap0 ls0 hlc0 hcm0 hln0 hz0 z1 l1 W hI0 hS hE (Nat.le_refl _)).mono fun e W' ⟨he, hg⟩ => ?_
  subst he
  exact ⟨_, rfl, post_below (pa := _) (pv := []) hW' (fun _ _ _ => (trodAll_cons_mk (shut_bool Tryd.underlying4 _) trodAll_mk0)) (fun sp hsp => (trodAll_cons_mk (hr0 _ hg sp (fun p hp => hsp p (by simp [hp]))) (trodAll_cons_mk (hr1 _ _ _ _) trodAll_mk0))) (fun _ _ => rfl) (by simp)
    hg (ok_one (by kernel_rfl) rfl (okWide_bool_mk Tryd.underlying4 _))⟩

theorem over : Rows.DictWordsSaid :=
  OpenClaim.holds_of_wide 7 Tryd.f7 rfl rfl rfl rfl rfl rfl rfl ⟨rfl, rfl, rfl, rfl, rfl⟩ rfl rfl rfl rfl rfl (by kernel_rfl) Tryd.func7 (by kernel_rfl)
    (of_decide_eq_true (by kernel_rfl)) (by unfold Func.isWrapper; first | (rw [if_pos (by decide +kernel)]; kernel_rfl) | (rw [if_neg (by decide +kernel)]; exact ⟨rfl, rfl⟩))
    (fun os started H enc _ => lifted os started H enc)

/-- The statement: the tied card. -/
theorem proved : Rows.DictWordsCardSaid :=
  Claim7.holds_tied_plain_at .later [] [.handle, .sentinel, .sentinel] true _ true
    over (fun _ h => by cases h) (by kernel_rfl) (fun _ h => by cases h) dictWords_row_tie rfl ⟨rfl, rfl⟩ (by kernel_rfl) rfl
    (fun f fn hf hfn => by
      obtain rfl : f = 7 := Option.some.inj ((show Tryd.prog.funcNamed "tesserae/tesseraelaw05.DictWords" = some 7 by kernel_rfl).symm.trans hf) |>.symm
      obtain rfl : fn = Tryd.f7 := (Option.some.inj (Tryd.func7.symm.trans hfn)).symm
      exact ⟨by kernel_rfl, fun j t ht => by
        rw [Tryd.params7] at ht
        have hm : t ∈ [22, 9] := by simpa using Array.mem_of_getElem? ht
        have hall : ([22, 9].all fun u => !Tryd.prog.wantsStandIn u) = true := by kernel_rfl
        exact (show Tryd.prog.wantsStandIn t = false by simpa using List.all_eq_true.1 hall t hm)⟩)
    (by kernel_rfl)
#print axioms proved
end Go.Proofs.YthoegicchjadaaaDoor.dictWords
