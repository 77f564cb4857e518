/- ContParts: or is and, and not, and the other way about, together; xor is or without and; counts add up. No condition beyond the row's. -/
import Derived.Test.YtpjcndfamhehlaaCRow
import Derived.Test.YtpjcndfamhehlaaCLawM
namespace Go.Proofs.Ytpjcndfamhehlaa.contParts
open Go.ChangeShapes Go.WideShapes Go.ChangeAt Go.RowKit Go.Joins

theorem hold8 {w a b : World} {g0 g1 g2 g3 g4 g7 g8 g9 : Nat} {x0 y0 x1 y1 x2 y2 x3 y3 x4 y4 x7 y7 x8 y8 x9 y9 : Value} (hS : a.cell? ⟨g0, 0, none⟩ = some x0 ∧ a.cell? ⟨g0, 1, none⟩ = some y0 ∧ a.cell? ⟨g1, 0, none⟩ = some x1 ∧ a.cell? ⟨g1, 1, none⟩ = some y1 ∧ a.cell? ⟨g2, 0, none⟩ = some x2 ∧ a.cell? ⟨g2, 1, none⟩ = some y2 ∧ a.cell? ⟨g3, 0, none⟩ = some x3 ∧ a.cell? ⟨g3, 1, none⟩ = some y3 ∧ a.cell? ⟨g4, 0, none⟩ = some x4 ∧ a.cell? ⟨g4, 1, none⟩ = some y4 ∧ a.cell? ⟨g7, 0, none⟩ = some x7 ∧ a.cell? ⟨g7, 1, none⟩ = some y7 ∧ a.cell? ⟨g8, 0, none⟩ = some x8 ∧ a.cell? ⟨g8, 1, none⟩ = some y8 ∧ a.cell? ⟨g9, 0, none⟩ = some x9 ∧ a.cell? ⟨g9, 1, none⟩ = some y9 ∧ g0 < a.heap.size ∧ g1 < a.heap.size ∧ g2 < a.heap.size ∧ g3 < a.heap.size ∧ g4 < a.heap.size ∧ g7 < a.heap.size ∧ g8 < a.heap.size ∧ g9 < a.heap.size ∧ Below w.heap.size w a) (hb : Below a.heap.size a b) : b.cell? ⟨g0, 0, none⟩ = some x0 ∧ b.cell? ⟨g0, 1, none⟩ = some y0 ∧ b.cell? ⟨g1, 0, none⟩ = some x1 ∧ b.cell? ⟨g1, 1, none⟩ = some y1 ∧ b.cell? ⟨g2, 0, none⟩ = some x2 ∧ b.cell? ⟨g2, 1, none⟩ = some y2 ∧ b.cell? ⟨g3, 0, none⟩ = some x3 ∧ b.cell? ⟨g3, 1, none⟩ = some y3 ∧ b.cell? ⟨g4, 0, none⟩ = some x4 ∧ b.cell? ⟨g4, 1, none⟩ = some y4 ∧ b.cell? ⟨g7, 0, none⟩ = some x7 ∧ b.cell? ⟨g7, 1, none⟩ = some y7 ∧ b.cell? ⟨g8, 0, none⟩ = some x8 ∧ b.cell? ⟨g8, 1, none⟩ = some y8 ∧ b.cell? ⟨g9, 0, none⟩ = some x9 ∧ b.cell? ⟨g9, 1, none⟩ = some y9 ∧ g0 < b.heap.size ∧ g1 < b.heap.size ∧ g2 < b.heap.size ∧ g3 < b.heap.size ∧ g4 < b.heap.size ∧ g7 < b.heap.size ∧ g8 < b.heap.size ∧ g9 < b.heap.size ∧ Below w.heap.size w b := by
  obtain ⟨h0, i0, h1, i1, h2, i2, h3, i3, h4, i4, h7, i7, h8, i8, h9, i9, k0, k1, k2, k3, k4, k7, k8, k9, hB⟩ := hS
  exact ⟨cell_below _ hb k0 h0, cell_below _ hb k0 i0, cell_below _ hb k1 h1, cell_below _ hb k1 i1, cell_below _ hb k2 h2, cell_below _ hb k2 i2, cell_below _ hb k3 h3, cell_below _ hb k3 i3, cell_below _ hb k4 h4, cell_below _ hb k4 i4, cell_below _ hb k7 h7, cell_below _ hb k7 i7, cell_below _ hb k8 h8, cell_below _ hb k8 i8, cell_below _ hb k9 h9, cell_below _ hb k9 i9, Nat.lt_of_lt_of_le k0 hb.size, Nat.lt_of_lt_of_le k1 hb.size, Nat.lt_of_lt_of_le k2 hb.size, Nat.lt_of_lt_of_le k3 hb.size, Nat.lt_of_lt_of_le k4 hb.size, Nat.lt_of_lt_of_le k7 hb.size, Nat.lt_of_lt_of_le k8 hb.size, Nat.lt_of_lt_of_le k9 hb.size, hB.trans (hb.mono hB.size)⟩
theorem hold8_end {w a : World} {g0 g1 g2 g3 g4 g7 g8 g9 : Nat} {x0 y0 x1 y1 x2 y2 x3 y3 x4 y4 x7 y7 x8 y8 x9 y9 : Value} (hS : a.cell? ⟨g0, 0, none⟩ = some x0 ∧ a.cell? ⟨g0, 1, none⟩ = some y0 ∧ a.cell? ⟨g1, 0, none⟩ = some x1 ∧ a.cell? ⟨g1, 1, none⟩ = some y1 ∧ a.cell? ⟨g2, 0, none⟩ = some x2 ∧ a.cell? ⟨g2, 1, none⟩ = some y2 ∧ a.cell? ⟨g3, 0, none⟩ = some x3 ∧ a.cell? ⟨g3, 1, none⟩ = some y3 ∧ a.cell? ⟨g4, 0, none⟩ = some x4 ∧ a.cell? ⟨g4, 1, none⟩ = some y4 ∧ a.cell? ⟨g7, 0, none⟩ = some x7 ∧ a.cell? ⟨g7, 1, none⟩ = some y7 ∧ a.cell? ⟨g8, 0, none⟩ = some x8 ∧ a.cell? ⟨g8, 1, none⟩ = some y8 ∧ a.cell? ⟨g9, 0, none⟩ = some x9 ∧ a.cell? ⟨g9, 1, none⟩ = some y9 ∧ g0 < a.heap.size ∧ g1 < a.heap.size ∧ g2 < a.heap.size ∧ g3 < a.heap.size ∧ g4 < a.heap.size ∧ g7 < a.heap.size ∧ g8 < a.heap.size ∧ g9 < a.heap.size ∧ Below w.heap.size w a) : Below w.heap.size w a := hS.2.2.2.2.2.2.2.2.2.2.2.2.2.2.2.2.2.2.2.2.2.2.2.2
theorem op_z (S T : Bs) : opS 2 (opS 4 S T) (opS 4 T S) = opS 3 S T := by
  funext n; simp only [opS]; cases S n <;> cases T n <;> rfl
theorem op_w (S T : Bs) : opS 2 (opS 3 S T) (opS 1 S T) = opS 2 S T := by
  funext n; simp only [opS]; cases S n <;> cases T n <;> rfl
theorem op_u (S T : Bs) : opS 4 (opS 2 S T) (opS 1 S T) = opS 3 S T := by
  funext n; simp only [opS]; cases S n <;> cases T n <;> rfl
theorem cnt (S T : Bs) : (vals S).length + (vals T).length = (vals (opS 2 S T)).length + (vals (opS 1 S T)).length := count_two S T 256
set_option maxRecDepth 100000 in
set_option maxHeartbeats 8000000 in
theorem walk (x0 : Option Addr) (len0 cap0 : Nat) (zs0 : List Int) (hlc0 : len0 ≤ cap0) (hcm0 : cap0 ≤ 9223372036854775807) (hln0 : zs0.length = len0) (hz0 : In64 zs0) (x1 : Option Addr) (len1 cap1 : Nat) (zs1 : List Int) (hlc1 : len1 ≤ cap1) (hcm1 : cap1 ≤ 9223372036854775807) (hln1 : zs1.length = len1) (hz1 : In64 zs1) (w : World) (hI0 : Ints w.heap.size w (.slice x0 len0 cap0) zs0) (hI1 : Ints w.heap.size w (.slice x1 len1 cap1) zs1) :
    Calls Try.prog 7 #[.slice x0 len0 cap0, .slice x1 len1 cap1] w fun e w' => e = .returned (.bool true) ∧ Below w.heap.size w w' := by
  have HM0 := Lib.hid (fun W h => make_any x0 (min len0 300) cap0 (zs0.take 300) (by rw [List.length_take, hln0, Nat.min_comm]) (by omega) (in64_take hz0 300) W h)
  have HI0 := Lib.hid (ints_cut hI0 300 hln0)
  have HM1 := Lib.hid (fun W h => make_any x1 (min len1 300) cap1 (zs1.take 300) (by rw [List.length_take, hln1, Nat.min_comm]) (by omega) (in64_take hz1 300) W h)
  have HI1 := Lib.hid (ints_cut hI1 300 hln1)
  clear hI0 hI1
  generalize zs0.take 300 = za at *
  generalize zs1.take 300 = zb at *
  by_cases hga : AllGood za
  · rw [make_good hga] at HM0
    by_cases hgb : AllGood zb
    · rw [make_good hgb] at HM1
      clear hga hgb
      generalize ofL za = S at *
      generalize ofL zb = T at *
      have oka := okC_best S; have okb := okC_best T; have okn := okC_best (opS 1 S T); have oko := okC_best (opS 2 S T); have okx := okC_best (opS 3 S T); have okp := okC_best (opS 4 S T); have okr := okC_best (opS 4 T S)
      have H0 := Lib.hid (fun W => op_best (S := S) (T := T) (op := 1) rfl ▸ op_all_any (1 : Nat) _ _ oka _ _ okb W)
      have H1 := Lib.hid (fun W => op_best (S := S) (T := T) (op := 2) rfl ▸ op_all_any (2 : Nat) _ _ oka _ _ okb W)
      have H2 := Lib.hid (fun W => op_best (S := S) (T := T) (op := 3) rfl ▸ op_all_any (3 : Nat) _ _ oka _ _ okb W)
      have H3 := Lib.hid (fun W => op_best (S := S) (T := T) (op := 4) rfl ▸ op_all_any (4 : Nat) _ _ oka _ _ okb W)
      have H4 := Lib.hid (fun W => op_best (S := T) (T := S) (op := 4) rfl ▸ op_all_any (4 : Nat) _ _ okb _ _ oka W)
      have H5 := Lib.hid (fun W => op_best (S := opS 4 S T) (T := opS 4 T S) (op := 2) rfl ▸ op_all_any (2 : Nat) _ _ okp _ _ okr W)
      have H6 := Lib.hid (fun W => op_best (S := opS 3 S T) (T := opS 1 S T) (op := 2) rfl ▸ op_all_any (2 : Nat) _ _ okx _ _ okn W)
      have H7 := Lib.hid (fun W => op_best (S := opS 2 S T) (T := opS 1 S T) (op := 4) rfl ▸ op_all_any (4 : Nat) _ _ oko _ _ okn W)
      rw [op_z] at H5
      rw [op_w] at H6
      rw [op_u] at H7
      have hca := congrArg List.length (vals_congr (read_best S))
      have hcb := congrArg List.length (vals_congr (read_best T))
      have hcn := congrArg List.length (vals_congr (read_best (opS 1 S T)))
      have hco := congrArg List.length (vals_congr (read_best (opS 2 S T)))
      have hcc := cnt S T
      have hb0 : (vals S).length ≤ 256 := valsTo_le S 256
      have hb1 : (vals T).length ≤ 256 := valsTo_le T 256
      have hb2 : (vals (opS 1 S T)).length ≤ 256 := valsTo_le _ 256
      have hb3 : (vals (opS 2 S T)).length ≤ 256 := valsTo_le _ 256
      generalize (vals S).length = ca at *
      generalize (vals T).length = cb at *
      generalize (vals (opS 1 S T)).length = cn at *
      generalize (vals (opS 2 S T)).length = co at *
      have hcc2 : (ca : Int) + cb = (co : Int) + cn := by omega
      clear hcc
      generalize bestF S = qa at *
      generalize bestD S = da at *
      generalize bestF T = qb at *
      generalize bestD T = db at *
      generalize bestF (opS 1 S T) = qn at *
      generalize bestD (opS 1 S T) = dn at *
      generalize bestF (opS 2 S T) = qo at *
      generalize bestD (opS 2 S T) = do_ at *
      generalize bestF (opS 3 S T) = qx at *
      generalize bestD (opS 3 S T) = dx at *
      generalize bestF (opS 4 S T) = qp at *
      generalize bestD (opS 4 S T) = dp at *
      generalize bestF (opS 4 T S) = qr at *
      generalize bestD (opS 4 T S) = dr at *
      go_enter Try.func7, Try.ntmps7
      go_wp2_with fail
      refine (shown_any _).mono ?_
      rintro e w1 ⟨rfl, hB1⟩
      go_wp2_with fail
      refine (few_any x0 len0 cap0 hlc0 hcm0 _).mono ?_
      rintro e w' ⟨rfl, rfl⟩
      go_wp2_with fail
      refine (HM0.out _ ((HI0.out.below hB1).more hB1.size)).mono ?_
      rintro e w2 ⟨rfl, hb2⟩
      have hB2 := hB1.trans (hb2.mono hB1.size)
      have b0 := Blk.new w2 23 #[.int .i64 qa, .string ⟨da.toArray⟩]
      have hB3 := hB2.alloc hB2.size (.cells #[.int .i64 qa, .string ⟨da.toArray⟩] 23)
      clear hB1 hb2 hB2
      go_wp2_with fail
      refine (few_any x1 len1 cap1 hlc1 hcm1 _).mono ?_
      rintro e w' ⟨rfl, rfl⟩
      go_wp2_with fail
      refine (HM1.out _ ((HI1.out.below hB3).more hB3.size)).mono ?_
      rintro e w3 ⟨rfl, hb3⟩
      have hB4 := hB3.trans (hb3.mono hB3.size)
      have b0' := (b0.under hb3).alloc (.cells #[.int .i64 qb, .string ⟨db.toArray⟩] 23)
      have b1' := Blk.new w3 23 #[.int .i64 qb, .string ⟨db.toArray⟩]
      have hB := hB4.alloc hB4.size (.cells #[.int .i64 qb, .string ⟨db.toArray⟩] 23)
      clear hB3 hb3 hB4 b0
      have c0 := b0'.cell 0; have c1 := b0'.cell 1; have c2 := b1'.cell 0; have c3 := b1'.cell 1
      have l0 := b0'.lt; have l1 := b1'.lt
      dsimp at c0 c1 c2 c3
      have HBx := Lib.hid hB
      have Hx0 := Lib.hid b0'
      have Hx1 := Lib.hid b1'
      clear hB b0' b1'
      go_wp2_with fail
      refine (H0.out _).mono ?_
      rintro e v0 ⟨rfl, hb⟩
      have hBn := HBx.out.trans (hb.mono HBx.out.size)
      have hB := hBn.alloc hBn.size (.cells #[.int .i64 qn, .string ⟨dn.toArray⟩] 23)
      have e0 := (Hx0.out.under hb).alloc (.cells #[.int .i64 qn, .string ⟨dn.toArray⟩] 23)
      have e1 := (Hx1.out.under hb).alloc (.cells #[.int .i64 qn, .string ⟨dn.toArray⟩] 23)
      have e2 := Blk.new v0 23 #[.int .i64 qn, .string ⟨dn.toArray⟩]
      clear hBn HBx hb c0 c1 c2 c3 l0 l1 Hx0 Hx1
      have c0 := e0.cell 0; have c1 := e0.cell 1; have c2 := e1.cell 0; have c3 := e1.cell 1
      have l0 := e0.lt; have l1 := e1.lt
      dsimp at c0 c1 c2 c3
      have HBx := Lib.hid hB
      have Hx0 := Lib.hid e0
      have Hx1 := Lib.hid e1
      have Hx2 := Lib.hid e2
      clear hB e0 e1 e2
      go_wp2_with fail
      refine (H1.out _).mono ?_
      rintro e v1 ⟨rfl, hb⟩
      have hBn := HBx.out.trans (hb.mono HBx.out.size)
      have hB := hBn.alloc hBn.size (.cells #[.int .i64 qo, .string ⟨do_.toArray⟩] 23)
      have e0 := (Hx0.out.under hb).alloc (.cells #[.int .i64 qo, .string ⟨do_.toArray⟩] 23)
      have e1 := (Hx1.out.under hb).alloc (.cells #[.int .i64 qo, .string ⟨do_.toArray⟩] 23)
      have e2 := (Hx2.out.under hb).alloc (.cells #[.int .i64 qo, .string ⟨do_.toArray⟩] 23)
      have e3 := Blk.new v1 23 #[.int .i64 qo, .string ⟨do_.toArray⟩]
      clear hBn HBx hb c0 c1 c2 c3 l0 l1 Hx0 Hx1 Hx2
      have c0 := e0.cell 0; have c1 := e0.cell 1; have c2 := e1.cell 0; have c3 := e1.cell 1
      have l0 := e0.lt; have l1 := e1.lt
      dsimp at c0 c1 c2 c3
      have HBx := Lib.hid hB
      have Hx0 := Lib.hid e0
      have Hx1 := Lib.hid e1
      have Hx2 := Lib.hid e2
      have Hx3 := Lib.hid e3
      clear hB e0 e1 e2 e3
      go_wp2_with fail
      refine (H2.out _).mono ?_
      rintro e v2 ⟨rfl, hb⟩
      have hBn := HBx.out.trans (hb.mono HBx.out.size)
      have hB := hBn.alloc hBn.size (.cells #[.int .i64 qx, .string ⟨dx.toArray⟩] 23)
      have e0 := (Hx0.out.under hb).alloc (.cells #[.int .i64 qx, .string ⟨dx.toArray⟩] 23)
      have e1 := (Hx1.out.under hb).alloc (.cells #[.int .i64 qx, .string ⟨dx.toArray⟩] 23)
      have e2 := (Hx2.out.under hb).alloc (.cells #[.int .i64 qx, .string ⟨dx.toArray⟩] 23)
      have e3 := (Hx3.out.under hb).alloc (.cells #[.int .i64 qx, .string ⟨dx.toArray⟩] 23)
      have e4 := Blk.new v2 23 #[.int .i64 qx, .string ⟨dx.toArray⟩]
      clear hBn HBx hb c0 c1 c2 c3 l0 l1 Hx0 Hx1 Hx2 Hx3
      have c0 := e0.cell 0; have c1 := e0.cell 1; have c2 := e1.cell 0; have c3 := e1.cell 1
      have l0 := e0.lt; have l1 := e1.lt
      dsimp at c0 c1 c2 c3
      have HBx := Lib.hid hB
      have Hx0 := Lib.hid e0
      have Hx1 := Lib.hid e1
      have Hx2 := Lib.hid e2
      have Hx3 := Lib.hid e3
      have Hx4 := Lib.hid e4
      clear hB e0 e1 e2 e3 e4
      go_wp2_with fail
      refine (H3.out _).mono ?_
      rintro e v3 ⟨rfl, hb⟩
      have hBn := HBx.out.trans (hb.mono HBx.out.size)
      have hB := hBn.alloc hBn.size (.cells #[.int .i64 qp, .string ⟨dp.toArray⟩] 23)
      have e0 := (Hx0.out.under hb).alloc (.cells #[.int .i64 qp, .string ⟨dp.toArray⟩] 23)
      have e1 := (Hx1.out.under hb).alloc (.cells #[.int .i64 qp, .string ⟨dp.toArray⟩] 23)
      have e2 := (Hx2.out.under hb).alloc (.cells #[.int .i64 qp, .string ⟨dp.toArray⟩] 23)
      have e3 := (Hx3.out.under hb).alloc (.cells #[.int .i64 qp, .string ⟨dp.toArray⟩] 23)
      have e4 := (Hx4.out.under hb).alloc (.cells #[.int .i64 qp, .string ⟨dp.toArray⟩] 23)
      have e5 := Blk.new v3 23 #[.int .i64 qp, .string ⟨dp.toArray⟩]
      clear hBn HBx hb c0 c1 c2 c3 l0 l1 Hx0 Hx1 Hx2 Hx3 Hx4
      have c0 := e1.cell 0; have c1 := e1.cell 1; have c2 := e0.cell 0; have c3 := e0.cell 1
      have l0 := e1.lt; have l1 := e0.lt
      dsimp at c0 c1 c2 c3
      have HBx := Lib.hid hB
      have Hx0 := Lib.hid e0
      have Hx1 := Lib.hid e1
      have Hx2 := Lib.hid e2
      have Hx3 := Lib.hid e3
      have Hx4 := Lib.hid e4
      have Hx5 := Lib.hid e5
      clear hB e0 e1 e2 e3 e4 e5
      go_wp2_with fail
      refine (H4.out _).mono ?_
      rintro e v4 ⟨rfl, hb⟩
      have hBn := HBx.out.trans (hb.mono HBx.out.size)
      have hB := hBn.alloc hBn.size (.cells #[.int .i64 qr, .string ⟨dr.toArray⟩] 23)
      have e0 := (Hx0.out.under hb).alloc (.cells #[.int .i64 qr, .string ⟨dr.toArray⟩] 23)
      have e1 := (Hx1.out.under hb).alloc (.cells #[.int .i64 qr, .string ⟨dr.toArray⟩] 23)
      have e2 := (Hx2.out.under hb).alloc (.cells #[.int .i64 qr, .string ⟨dr.toArray⟩] 23)
      have e3 := (Hx3.out.under hb).alloc (.cells #[.int .i64 qr, .string ⟨dr.toArray⟩] 23)
      have e4 := (Hx4.out.under hb).alloc (.cells #[.int .i64 qr, .string ⟨dr.toArray⟩] 23)
      have e5 := (Hx5.out.under hb).alloc (.cells #[.int .i64 qr, .string ⟨dr.toArray⟩] 23)
      have e6 := Blk.new v4 23 #[.int .i64 qr, .string ⟨dr.toArray⟩]
      clear hBn HBx hb c0 c1 c2 c3 l0 l1 Hx0 Hx1 Hx2 Hx3 Hx4 Hx5
      have c0 := e5.cell 0; have c1 := e5.cell 1; have c2 := e6.cell 0; have c3 := e6.cell 1
      have l0 := e5.lt; have l1 := e6.lt
      dsimp at c0 c1 c2 c3
      have HBx := Lib.hid hB
      have Hx0 := Lib.hid e0
      have Hx1 := Lib.hid e1
      have Hx2 := Lib.hid e2
      have Hx3 := Lib.hid e3
      have Hx4 := Lib.hid e4
      have Hx5 := Lib.hid e5
      have Hx6 := Lib.hid e6
      clear hB e0 e1 e2 e3 e4 e5 e6
      go_wp2_with fail
      refine (H5.out _).mono ?_
      rintro e v5 ⟨rfl, hb⟩
      have hBn := HBx.out.trans (hb.mono HBx.out.size)
      have hB := hBn.alloc hBn.size (.cells #[.int .i64 qx, .string ⟨dx.toArray⟩] 23)
      have e0 := (Hx0.out.under hb).alloc (.cells #[.int .i64 qx, .string ⟨dx.toArray⟩] 23)
      have e1 := (Hx1.out.under hb).alloc (.cells #[.int .i64 qx, .string ⟨dx.toArray⟩] 23)
      have e2 := (Hx2.out.under hb).alloc (.cells #[.int .i64 qx, .string ⟨dx.toArray⟩] 23)
      have e3 := (Hx3.out.under hb).alloc (.cells #[.int .i64 qx, .string ⟨dx.toArray⟩] 23)
      have e4 := (Hx4.out.under hb).alloc (.cells #[.int .i64 qx, .string ⟨dx.toArray⟩] 23)
      have e5 := (Hx5.out.under hb).alloc (.cells #[.int .i64 qx, .string ⟨dx.toArray⟩] 23)
      have e6 := (Hx6.out.under hb).alloc (.cells #[.int .i64 qx, .string ⟨dx.toArray⟩] 23)
      have e7 := Blk.new v5 23 #[.int .i64 qx, .string ⟨dx.toArray⟩]
      clear hBn HBx hb c0 c1 c2 c3 l0 l1 Hx0 Hx1 Hx2 Hx3 Hx4 Hx5 Hx6
      have c0 := e7.cell 0; have c1 := e7.cell 1; have c2 := e2.cell 0; have c3 := e2.cell 1
      have l0 := e7.lt; have l1 := e2.lt
      dsimp at c0 c1 c2 c3
      have HBx := Lib.hid hB
      have Hx0 := Lib.hid e0
      have Hx1 := Lib.hid e1
      have Hx2 := Lib.hid e2
      have Hx3 := Lib.hid e3
      have Hx4 := Lib.hid e4
      have Hx5 := Lib.hid e5
      have Hx6 := Lib.hid e6
      have Hx7 := Lib.hid e7
      clear hB e0 e1 e2 e3 e4 e5 e6 e7
      go_wp2_with fail
      refine (H6.out _).mono ?_
      rintro e v6 ⟨rfl, hb⟩
      have hBn := HBx.out.trans (hb.mono HBx.out.size)
      have hB := hBn.alloc hBn.size (.cells #[.int .i64 qo, .string ⟨do_.toArray⟩] 23)
      have e0 := (Hx0.out.under hb).alloc (.cells #[.int .i64 qo, .string ⟨do_.toArray⟩] 23)
      have e1 := (Hx1.out.under hb).alloc (.cells #[.int .i64 qo, .string ⟨do_.toArray⟩] 23)
      have e2 := (Hx2.out.under hb).alloc (.cells #[.int .i64 qo, .string ⟨do_.toArray⟩] 23)
      have e3 := (Hx3.out.under hb).alloc (.cells #[.int .i64 qo, .string ⟨do_.toArray⟩] 23)
      have e4 := (Hx4.out.under hb).alloc (.cells #[.int .i64 qo, .string ⟨do_.toArray⟩] 23)
      have e5 := (Hx5.out.under hb).alloc (.cells #[.int .i64 qo, .string ⟨do_.toArray⟩] 23)
      have e6 := (Hx6.out.under hb).alloc (.cells #[.int .i64 qo, .string ⟨do_.toArray⟩] 23)
      have e7 := (Hx7.out.under hb).alloc (.cells #[.int .i64 qo, .string ⟨do_.toArray⟩] 23)
      have e8 := Blk.new v6 23 #[.int .i64 qo, .string ⟨do_.toArray⟩]
      clear hBn HBx hb c0 c1 c2 c3 l0 l1 Hx0 Hx1 Hx2 Hx3 Hx4 Hx5 Hx6 Hx7
      have c0 := e3.cell 0; have c1 := e3.cell 1; have c2 := e2.cell 0; have c3 := e2.cell 1
      have l0 := e3.lt; have l1 := e2.lt
      dsimp at c0 c1 c2 c3
      have HBx := Lib.hid hB
      have Hx0 := Lib.hid e0
      have Hx1 := Lib.hid e1
      have Hx2 := Lib.hid e2
      have Hx3 := Lib.hid e3
      have Hx4 := Lib.hid e4
      have Hx5 := Lib.hid e5
      have Hx6 := Lib.hid e6
      have Hx7 := Lib.hid e7
      have Hx8 := Lib.hid e8
      clear hB e0 e1 e2 e3 e4 e5 e6 e7 e8
      go_wp2_with fail
      refine (H7.out _).mono ?_
      rintro e v7 ⟨rfl, hb⟩
      have hBn := HBx.out.trans (hb.mono HBx.out.size)
      have hB := hBn.alloc hBn.size (.cells #[.int .i64 qx, .string ⟨dx.toArray⟩] 23)
      have e0 := (Hx0.out.under hb).alloc (.cells #[.int .i64 qx, .string ⟨dx.toArray⟩] 23)
      have e1 := (Hx1.out.under hb).alloc (.cells #[.int .i64 qx, .string ⟨dx.toArray⟩] 23)
      have e2 := (Hx2.out.under hb).alloc (.cells #[.int .i64 qx, .string ⟨dx.toArray⟩] 23)
      have e3 := (Hx3.out.under hb).alloc (.cells #[.int .i64 qx, .string ⟨dx.toArray⟩] 23)
      have e4 := (Hx4.out.under hb).alloc (.cells #[.int .i64 qx, .string ⟨dx.toArray⟩] 23)
      have e5 := (Hx5.out.under hb).alloc (.cells #[.int .i64 qx, .string ⟨dx.toArray⟩] 23)
      have e6 := (Hx6.out.under hb).alloc (.cells #[.int .i64 qx, .string ⟨dx.toArray⟩] 23)
      have e7 := (Hx7.out.under hb).alloc (.cells #[.int .i64 qx, .string ⟨dx.toArray⟩] 23)
      have e8 := (Hx8.out.under hb).alloc (.cells #[.int .i64 qx, .string ⟨dx.toArray⟩] 23)
      have e9 := Blk.new v7 23 #[.int .i64 qx, .string ⟨dx.toArray⟩]
      clear hBn HBx hb c0 c1 c2 c3 l0 l1 Hx0 Hx1 Hx2 Hx3 Hx4 Hx5 Hx6 Hx7 Hx8
      have hS0 := show _ ∧ _ ∧ _ ∧ _ ∧ _ ∧ _ ∧ _ ∧ _ ∧ _ ∧ _ ∧ _ ∧ _ ∧ _ ∧ _ ∧ _ ∧ _ ∧ _ ∧ _ ∧ _ ∧ _ ∧ _ ∧ _ ∧ _ ∧ _ ∧ _ from ⟨e0.cell 0, e0.cell 1, e1.cell 0, e1.cell 1, e2.cell 0, e2.cell 1, e3.cell 0, e3.cell 1, e4.cell 0, e4.cell 1, e7.cell 0, e7.cell 1, e8.cell 0, e8.cell 1, e9.cell 0, e9.cell 1, e0.lt, e1.lt, e2.lt, e3.lt, e4.lt, e7.lt, e8.lt, e9.lt, hB⟩
      dsimp at hS0
      clear e0 e1 e2 e3 e4 e5 e6 e7 e8 e9 hB
      go_wp2
      generalize w2.heap.size = g0 at *
      generalize w3.heap.size = g1 at *
      generalize v0.heap.size = g2 at *
      generalize v1.heap.size = g3 at *
      generalize v2.heap.size = g4 at *
      generalize v3.heap.size = g5 at *
      generalize v4.heap.size = g6 at *
      generalize v5.heap.size = g7 at *
      generalize v6.heap.size = g8 at *
      generalize hW : v7.alloc (.cells #[.int .i64 qx, .string ⟨dx.toArray⟩] 23) = W0 at *
      generalize v7.heap.size = g9 at *
      clear hW
      go_region_held3 (fun W => W.cell? ⟨g0, 0, none⟩ = some (.int .i64 qa) ∧ W.cell? ⟨g0, 1, none⟩ = some (.string ⟨da.toArray⟩) ∧ W.cell? ⟨g1, 0, none⟩ = some (.int .i64 qb) ∧ W.cell? ⟨g1, 1, none⟩ = some (.string ⟨db.toArray⟩) ∧ W.cell? ⟨g2, 0, none⟩ = some (.int .i64 qn) ∧ W.cell? ⟨g2, 1, none⟩ = some (.string ⟨dn.toArray⟩) ∧ W.cell? ⟨g3, 0, none⟩ = some (.int .i64 qo) ∧ W.cell? ⟨g3, 1, none⟩ = some (.string ⟨do_.toArray⟩) ∧ W.cell? ⟨g4, 0, none⟩ = some (.int .i64 qx) ∧ W.cell? ⟨g4, 1, none⟩ = some (.string ⟨dx.toArray⟩) ∧ W.cell? ⟨g7, 0, none⟩ = some (.int .i64 qx) ∧ W.cell? ⟨g7, 1, none⟩ = some (.string ⟨dx.toArray⟩) ∧ W.cell? ⟨g8, 0, none⟩ = some (.int .i64 qo) ∧ W.cell? ⟨g8, 1, none⟩ = some (.string ⟨do_.toArray⟩) ∧ W.cell? ⟨g9, 0, none⟩ = some (.int .i64 qx) ∧ W.cell? ⟨g9, 1, none⟩ = some (.string ⟨dx.toArray⟩) ∧ g0 < W.heap.size ∧ g1 < W.heap.size ∧ g2 < W.heap.size ∧ g3 < W.heap.size ∧ g4 < W.heap.size ∧ g7 < W.heap.size ∧ g8 < W.heap.size ∧ g9 < W.heap.size ∧ Below w.heap.size w W)
        (first | exact hold8 (by assumption) (by assumption) | exact hold8 hS0 ((Below.refl _ W0).drew) | exact hS0)
        (first | (go_at_call 23; refine (count_all_any _ _ (by first | exact oka | exact okb | exact oko | exact okn) _).mono ?_; rintro e w5 ⟨rfl, hb5⟩))
      all_goals
        go_wp2
        go_ret
        exact ⟨rfl, hold8_end (by assumption)⟩
    · rw [make_bad hgb] at HM1
      generalize bestF (ofL za) = qa at *
      generalize bestD (ofL za) = da at *
      clear hga hgb
      go_enter Try.func7, Try.ntmps7
      go_wp2_with fail
      refine (shown_any _).mono ?_
      rintro e w1 ⟨rfl, hB1⟩
      go_wp2_with fail
      refine (few_any x0 len0 cap0 hlc0 hcm0 _).mono ?_
      rintro e w' ⟨rfl, rfl⟩
      go_wp2_with fail
      refine (HM0.out _ ((HI0.out.below hB1).more hB1.size)).mono ?_
      rintro e w2 ⟨rfl, hb2⟩
      have hB2 := hB1.trans (hb2.mono hB1.size)
      have b0 := Blk.new w2 23 #[.int .i64 qa, .string ⟨da.toArray⟩]
      have hB3 := hB2.alloc hB2.size (.cells #[.int .i64 qa, .string ⟨da.toArray⟩] 23)
      clear hB1 hb2 hB2
      go_wp2_with fail
      refine (few_any x1 len1 cap1 hlc1 hcm1 _).mono ?_
      rintro e w' ⟨rfl, rfl⟩
      go_wp2_with fail
      refine (HM1.out _ ((HI1.out.below hB3).more hB3.size)).mono ?_
      rintro e w3 ⟨rfl, hb3⟩
      have hB4 := hB3.trans (hb3.mono hB3.size)
      have b0' := (b0.under hb3).alloc (.cells #[.int .i64 0, .string ⟨#[]⟩] 23)
      have b1' := Blk.new w3 23 #[.int .i64 0, .string ⟨#[]⟩]
      have hB := hB4.alloc hB4.size (.cells #[.int .i64 0, .string ⟨#[]⟩] 23)
      clear hB3 hb3 hB4 b0
      clear b0' b1'
      go_wp2
      go_ret
      exact ⟨rfl, hB⟩
  · rw [make_bad hga] at HM0
    clear hga
    by_cases hgb : AllGood zb
    · rw [make_good hgb] at HM1
      generalize bestF (ofL zb) = qb at *
      generalize bestD (ofL zb) = db at *
      clear hgb
      go_enter Try.func7, Try.ntmps7
      go_wp2_with fail
      refine (shown_any _).mono ?_
      rintro e w1 ⟨rfl, hB1⟩
      go_wp2_with fail
      refine (few_any x0 len0 cap0 hlc0 hcm0 _).mono ?_
      rintro e w' ⟨rfl, rfl⟩
      go_wp2_with fail
      refine (HM0.out _ ((HI0.out.below hB1).more hB1.size)).mono ?_
      rintro e w2 ⟨rfl, hb2⟩
      have hB2 := hB1.trans (hb2.mono hB1.size)
      have b0 := Blk.new w2 23 #[.int .i64 0, .string ⟨#[]⟩]
      have hB3 := hB2.alloc hB2.size (.cells #[.int .i64 0, .string ⟨#[]⟩] 23)
      clear hB1 hb2 hB2
      go_wp2_with fail
      refine (few_any x1 len1 cap1 hlc1 hcm1 _).mono ?_
      rintro e w' ⟨rfl, rfl⟩
      go_wp2_with fail
      refine (HM1.out _ ((HI1.out.below hB3).more hB3.size)).mono ?_
      rintro e w3 ⟨rfl, hb3⟩
      have hB4 := hB3.trans (hb3.mono hB3.size)
      have b0' := (b0.under hb3).alloc (.cells #[.int .i64 qb, .string ⟨db.toArray⟩] 23)
      have b1' := Blk.new w3 23 #[.int .i64 qb, .string ⟨db.toArray⟩]
      have hB := hB4.alloc hB4.size (.cells #[.int .i64 qb, .string ⟨db.toArray⟩] 23)
      clear hB3 hb3 hB4 b0
      clear b0' b1'
      go_wp2
      go_ret
      exact ⟨rfl, hB⟩
    · rw [make_bad hgb] at HM1
      clear hgb
      go_enter Try.func7, Try.ntmps7
      go_wp2_with fail
      refine (shown_any _).mono ?_
      rintro e w1 ⟨rfl, hB1⟩
      go_wp2_with fail
      refine (few_any x0 len0 cap0 hlc0 hcm0 _).mono ?_
      rintro e w' ⟨rfl, rfl⟩
      go_wp2_with fail
      refine (HM0.out _ ((HI0.out.below hB1).more hB1.size)).mono ?_
      rintro e w2 ⟨rfl, hb2⟩
      have hB2 := hB1.trans (hb2.mono hB1.size)
      have b0 := Blk.new w2 23 #[.int .i64 0, .string ⟨#[]⟩]
      have hB3 := hB2.alloc hB2.size (.cells #[.int .i64 0, .string ⟨#[]⟩] 23)
      clear hB1 hb2 hB2
      go_wp2_with fail
      refine (few_any x1 len1 cap1 hlc1 hcm1 _).mono ?_
      rintro e w' ⟨rfl, rfl⟩
      go_wp2_with fail
      refine (HM1.out _ ((HI1.out.below hB3).more hB3.size)).mono ?_
      rintro e w3 ⟨rfl, hb3⟩
      have hB4 := hB3.trans (hb3.mono hB3.size)
      have b0' := (b0.under hb3).alloc (.cells #[.int .i64 0, .string ⟨#[]⟩] 23)
      have b1' := Blk.new w3 23 #[.int .i64 0, .string ⟨#[]⟩]
      have hB := hB4.alloc hB4.size (.cells #[.int .i64 0, .string ⟨#[]⟩] 23)
      clear hB3 hb3 hB4 b0
      clear b0' b1'
      go_wp2
      go_ret
      exact ⟨rfl, hB⟩
set_option maxRecDepth 100000 in
theorem lifted (os : Os) (started : os.Started) (H : Type) (enc : TypeId × Value → H) :
    ReturnsInHanded {} Try.checked os 7 .any (Rows.contPartsSpec.pre6 enc Try.prog Try.f7 Rows.contPartsRow.domain false) (Rows.contPartsSpec.post enc Try.prog Try.f7 false true false false) := by
  refine returnsInHanded_of_change (C := Try.checked) own started (by kernel_rfl) Try.func7
    (ChangeSpec.witness6 (enc := enc) (C := Try.checked) false ⟨#[], #[.slice none 0 0, .slice none 0 0], []⟩ 8 (by kernel_rfl) (by kernel_rfl) (by kernel_rfl) (by kernel_rfl)) ?_
  intro W base args ds gs before hval0 hW hcnd _
  have hval : ∀ (j : Nat) t v, Try.f7.params[j]? = some t → args[j]? = some v → Value.okWide Try.prog W .any base t v := hval0
  have hW' := hW
  obtain ⟨p, q, hA0, hV, rfl, hfz, hnd⟩ := hW
  have hA : DataW.TrodAll enc Try.prog W 0 (fun _ => true) true Try.f7.params.toList args.toList ds p := hA0
  rw [Try.params7] at hA hval
  obtain ⟨v0, vs0, d0, ds0, p0, q0, hargs, rfl, rfl, h0, r0⟩ := trodAll_cons hA
  obtain ⟨v1, vs1, d1, ds1, p1, q1, rfl, rfl, rfl, h1, r1⟩ := trodAll_cons r0
  obtain ⟨rfl, rfl, rfl⟩ := trodAll_nil r1
  obtain rfl : args = #[v0, v1] := by cases args; simp_all
  obtain ⟨rfl, rfl⟩ := trodVars_none hV
  obtain ⟨x0, len0, cap0, zs0, rfl, hlc0, hcm0, hln0, hz0, hI0, hr0⟩ := open_numbers (hval 0 24 v0 rfl rfl) h0 (fun q hq => hW'.lt q (by simp [hq]))
  obtain ⟨x1, len1, cap1, zs1, rfl, hlc1, hcm1, hln1, hz1, hI1, hr1⟩ := open_numbers (hval 1 24 v1 rfl rfl) h1 (fun q hq => hW'.lt q (by simp [hq]))
  clear hA0 hval0
  simp only [List.append_nil] at hW'
  refine (walk x0 len0 cap0 zs0 hlc0 hcm0 hln0 hz0 x1 len1 cap1 zs1 hlc1 hcm1 hln1 hz1 W hI0 hI1).mono fun e W' ⟨he, hg⟩ => ?_
  subst he
  exact ⟨_, rfl, post_below (pa := _) (pv := []) hW' (fun _ _ _ => (trodAll_cons_mk (shut_bool Try.underlying4 _) trodAll_mk0)) (fun sp hsp => (trodAll_cons_mk (hr0 _ hg sp (fun p hp => hsp p (by simp [hp]))) (trodAll_cons_mk (hr1 _ hg sp (fun p hp => hsp p (by simp [hp]))) trodAll_mk0))) (fun _ _ => rfl) (by simp)
    hg (ok_one (by kernel_rfl) rfl (okWide_bool_mk Try.underlying4 _))⟩

theorem over : Rows.contPartsRow.holds Try.pinned (OpenSpec.ofChange Rows.contPartsSpec) :=
  OpenClaim.holds_of_wide 7 Try.f7 rfl rfl rfl rfl rfl rfl rfl ⟨rfl, rfl, rfl, rfl, rfl⟩ rfl rfl rfl rfl rfl (by kernel_rfl) Try.func7 (by kernel_rfl)
    (of_decide_eq_true (by kernel_rfl)) (by unfold Func.isWrapper; first | (rw [if_pos (by decide +kernel)]; kernel_rfl) | (rw [if_neg (by decide +kernel)]; exact ⟨rfl, rfl⟩))
    (fun os started H enc _ => lifted os started H enc)

/-- The statement. -/
theorem proved : Rows.ContPartsSaid :=
  over
#print axioms proved
end Go.Proofs.Ytpjcndfamhehlaa.contParts
