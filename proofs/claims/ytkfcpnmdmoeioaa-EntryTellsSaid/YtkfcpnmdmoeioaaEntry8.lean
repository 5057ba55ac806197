/- entry.Read(nil); mementolaw8.known. -/
import Derived.Test.YtkfcpnmdmoeioaaEntry7
namespace Go.Proofs.Ytkfcpnmdmoeioaa.K
open Go.ChangeShapes Go.WideShapes Go.ChangeAt Go.RowKit
set_option linter.unusedVariables false


theorem entRead_nil (w : World) : Calls Try.prog 16 #[.pointer none] w fun e w' => e = .returned (.tuple #[entV 0 0 0 (.slice none 0 0), .bool false]) ∧ Below w.heap.size w w' := by
  have hb := (Below.refl w.heap.size w).alloc (Nat.le_refl _) (.cells #[.int .i64 0, .int .i64 0, .int .i64 0, .slice none 0 0] 24)
  have B := Lib.hid hb
  clear hb
  go_enter Try.func16, Try.ntmps16
  go_wp2
  go_returns
  exact ⟨rfl, B.out⟩
theorem kp1 : entP 3 2 1 [120] = [3, 2, 1, 1, 120] := by decide +kernel
theorem kr1 : entRV [3, 2, 1, 1, 120] 0 = (3, 2, 1, [120]) := by decide +kernel
theorem ko1 : entROk [3, 2, 1, 1, 120] 0 = true := by decide +kernel
theorem kp2 : baseP 3 2 [0, 2] [121] = [3, 2, 2, 0, 2, 1, 121] := by decide +kernel
theorem kr2 : baseRV [3, 2, 2, 0, 2, 1, 121] 0 = (3, 2, [0, 2], [121]) := by decide +kernel
theorem ko2 : baseROk [3, 2, 2, 0, 2, 1, 121] 0 = true := by decide +kernel
theorem kb0 : baseOk 0 0 [] [] = false := by decide +kernel
theorem kp0 : entP 0 0 0 [] = [] := by decide +kernel
theorem kb1 : baseOk 3 2 [0, 2] [121] = true := by decide +kernel
theorem ke1 : entOk 3 2 1 [120] = true := by decide +kernel

set_option maxRecDepth 100000 in
set_option maxHeartbeats 4000000 in
theorem eknown_any (w : World) : Calls Try.prog 6 #[] w fun e w' => e = .returned (.bool true) ∧ Below w.heap.size w w' := by
  have kc := fun (w : World) (C : Array Value) (n c : Nat) => Lib.run_convert_bytes_const (P := Try.prog) w 22 5 C n c Try.underlying22 Try.underlying5
  have BL0 : Hid (Below w.heap.size w w) := Lib.hid (Below.refl _ _)
  go_enter Try.func6, Try.ntmps6
  have n1 : IsNums .u8 (w.alloc (.cells #[.int .u8 120] 5 (1, 2))) (.slice (some ⟨w.heap.size, 0, none⟩) 1 1) [120] := IsNums.litF .u8 w [120] w.heap.size 5 (1, 2) 1 1 rfl rfl
  have n2 := n1.alloc (.cells #[.int .i64 3, .int .i64 2, .int .i64 1, .slice (some ⟨w.heap.size, 0, none⟩) 1 1] 24)
  have x2 := Blk.alloc (w.alloc (.cells #[.int .u8 120] 5 (1, 2))) 24 #[.int .i64 3, .int .i64 2, .int .i64 1, .slice (some ⟨w.heap.size, 0, none⟩) 1 1]
  have hb1 : Below w.heap.size w ((w.alloc (.cells #[.int .u8 120] 5 (1, 2))).alloc (.cells #[.int .i64 3, .int .i64 2, .int .i64 1, .slice (some ⟨w.heap.size, 0, none⟩) 1 1] 24)) := ((Below.refl _ _).alloc (Nat.le_refl _) _).alloc (by simp) _
  go_wp2_with fail
  have hsz : (w.alloc (.cells #[.int .u8 120] 5 (1, 2))).heap.size = w.heap.size + 1 := by simp
  rw [hsz] at x2
  obtain ⟨Ne, hNe⟩ : ∃ x, w.heap.size + 1 = x := ⟨_, rfl⟩
  obtain ⟨Nd, hNd⟩ : ∃ x, w.heap.size = x := ⟨_, rfl⟩
  obtain ⟨w1, hw1⟩ : ∃ x, (w.alloc (.cells #[.int .u8 120] 5 (1, 2))).alloc (.cells #[.int .i64 3, .int .i64 2, .int .i64 1, .slice (some ⟨w.heap.size, 0, none⟩) 1 1] 24) = x := ⟨_, rfl⟩
  rw [hw1] at n2 x2 hb1 ⊢
  rw [hNe] at x2 ⊢
  rw [hNd] at n2 x2 ⊢
  have D1 : Hid (IsNums .u8 w1 (.slice (some ⟨Nd, 0, none⟩) 1 1) [120]) := Lib.hid n2
  have X1 : Hid (Blk w1 Ne 24 [.int .i64 3, .int .i64 2, .int .i64 1, .slice (some ⟨Nd, 0, none⟩) 1 1]) := Lib.hid x2
  have BL1 := Lib.hid (BL0.out.trans hb1)
  clear n1 n2 x2 hb1 hsz hw1 hNe hNd BL0
  refine (entPut_any 3 2 1 _ [120] w1 D1.out).mono ?_
  rintro e w2 ⟨u2, rfl, ho2, hb2⟩
  rw [kp1] at ho2
  have X2 := Lib.hid (X1.out.below hb2 X1.out.lt)
  have D2 := Lib.hid (D1.out.below hb2 (Nat.le_refl _))
  have BL2 := Lib.hid (BL1.out.trans ((hb2).mono BL1.out.size))
  clear X1 D1 BL1
  have U2 : Hid (IsNums .u8 w2 u2 [3, 2, 1, 1, 120]) := Lib.hid (IsNums.ofOwn (by exact ho2))
  obtain ⟨pu2, cu2, hu2⟩ := ownsRow_shape ho2
  subst hu2
  clear ho2 hb2
  go_wp2_with fail
  refine (new_any _ [3, 2, 1, 1, 120] w2 U2.out (bytes_of _ (by decide)) (by decide)).mono ?_
  rintro e w3 ⟨B1, u3, rfl, hB1, hr3, hb3⟩
  have R3 := Lib.hid hr3
  have H3 := Lib.hid (And.intro hB1 hb3)
  clear hr3 hb3 hB1
  go_wp2_with fail
  refine (entRead_any B1 u3 _ 0 w3 R3.out (by decide)).mono ?_
  rintro e w4 ⟨u4, rfl, ho4, -, hon4⟩
  rw [kr1] at ho4
  rw [kr1, ko1]
  have hb4 : Below w2.heap.size w2 w4 := H3.out.2.trans (hon4.below (Nat.le_of_lt H3.out.1) H3.out.2.size)
  have X4 := Lib.hid (X2.out.below hb4 X2.out.lt)
  have D4 := Lib.hid (D2.out.below hb4 (Nat.le_refl _))
  have BL4 := Lib.hid (BL2.out.trans ((hb4).mono BL2.out.size))
  clear X2 D2 BL2
  have hx4 : IsNums .u8 w4 u4 [120] := IsNums.ofOwn (by exact ho4)
  obtain ⟨pu4, cu4, hu4⟩ := ownsRow_shape ho4
  subst hu4
  have XD4 : Hid (IsNums .u8 w4 (.slice pu4 1 cu4) [120]) := Lib.hid hx4
  rw [show entV (3, 2, 1, ([120] : List Int)).1 (3, 2, 1, ([120] : List Int)).2.1 (3, 2, 1, ([120] : List Int)).2.2.1 (.slice pu4 (3, 2, 1, ([120] : List Int)).2.2.2.length cu4) = .agg #[.int .i64 3, .int .i64 2, .int .i64 1, .slice pu4 1 cu4] from rfl]
  clear ho4 hx4 hon4 hb4 H3 R3 U2
  have hb5 : Below w4.heap.size w4 (w4.alloc (.cells #[.int .i64 3, .int .i64 2, .int .i64 1, .slice pu4 1 cu4] 24)) := (Below.refl _ _).alloc (Nat.le_refl _) _
  have hx5 := Blk.alloc w4 24 #[.int .i64 3, .int .i64 2, .int .i64 1, .slice pu4 1 cu4]
  have X5 := Lib.hid (X4.out.below hb5 X4.out.lt)
  have D5 := Lib.hid (D4.out.below hb5 (Nat.le_refl _))
  have XD5 := Lib.hid (XD4.out.below hb5 (Nat.le_refl _))
  have BL5 := Lib.hid (BL4.out.trans ((hb5).mono BL4.out.size))
  clear X4 D4 XD4 BL4
  have Y5 := Lib.hid hx5
  obtain ⟨w5, hw5⟩ : ∃ x, w4.alloc (.cells #[.int .i64 3, .int .i64 2, .int .i64 1, .slice pu4 1 cu4] 24) = x := ⟨_, rfl⟩
  obtain ⟨Nx, hNx⟩ : ∃ x, w4.heap.size = x := ⟨_, rfl⟩
  rw [hw5] at X5 D5 XD5 Y5 BL5
  rw [hNx] at Y5
  clear hb5 hx5
  have hb6a : Below w5.heap.size w5 (w5.alloc (.cells #[.int .i64 0, .int .i64 2] 3)) := (Below.refl _ _).alloc (Nat.le_refl _) _
  have c6a : IsNums .i64 (w5.alloc (.cells #[.int .i64 0, .int .i64 2] 3)) (.slice (some ⟨w5.heap.size, 0, none⟩) 2 2) [0, 2] := IsNums.lit .i64 w5 [0, 2] w5.heap.size 3 2 2 rfl rfl
  have X6a := Lib.hid (X5.out.below hb6a X5.out.lt)
  have D6a := Lib.hid (D5.out.below hb6a (Nat.le_refl _))
  have XD6a := Lib.hid (XD5.out.below hb6a (Nat.le_refl _))
  have Y6a := Lib.hid (Y5.out.below hb6a Y5.out.lt)
  have BL6a := Lib.hid (BL5.out.trans ((hb6a).mono BL5.out.size))
  clear X5 D5 XD5 Y5 BL5
  obtain ⟨w6a, hw6a⟩ : ∃ x, w5.alloc (.cells #[.int .i64 0, .int .i64 2] 3) = x := ⟨_, rfl⟩
  obtain ⟨Nc, hNc⟩ : ∃ x, w5.heap.size = x := ⟨_, rfl⟩
  rw [hw6a] at X6a D6a XD6a Y6a BL6a c6a
  rw [hNc] at c6a
  have C6a := Lib.hid c6a
  clear hb6a c6a
  have hb6b : Below w6a.heap.size w6a (w6a.alloc (.cells #[.int .u8 121] 5 (1, 2))) := (Below.refl _ _).alloc (Nat.le_refl _) _
  have d6b : IsNums .u8 (w6a.alloc (.cells #[.int .u8 121] 5 (1, 2))) (.slice (some ⟨w6a.heap.size, 0, none⟩) 1 1) [121] := IsNums.litF .u8 w6a [121] w6a.heap.size 5 (1, 2) 1 1 rfl rfl
  have X6b := Lib.hid (X6a.out.below hb6b X6a.out.lt)
  have D6b := Lib.hid (D6a.out.below hb6b (Nat.le_refl _))
  have XD6b := Lib.hid (XD6a.out.below hb6b (Nat.le_refl _))
  have Y6b := Lib.hid (Y6a.out.below hb6b Y6a.out.lt)
  have C6b := Lib.hid (C6a.out.below hb6b (Nat.le_refl _))
  have BL6b := Lib.hid (BL6a.out.trans ((hb6b).mono BL6a.out.size))
  clear X6a D6a XD6a Y6a C6a BL6a
  obtain ⟨w6b, hw6b⟩ : ∃ x, w6a.alloc (.cells #[.int .u8 121] 5 (1, 2)) = x := ⟨_, rfl⟩
  obtain ⟨Nq, hNq⟩ : ∃ x, w6a.heap.size = x := ⟨_, rfl⟩
  rw [hw6b] at X6b D6b XD6b Y6b C6b BL6b d6b
  rw [hNq] at d6b
  have BD6b := Lib.hid d6b
  clear hb6b d6b
  have hb6 : Below w6b.heap.size w6b (w6b.alloc (.cells #[.int .i64 3, .int .i64 2, .slice (some ⟨Nc, 0, none⟩) 2 2, .slice (some ⟨Nq, 0, none⟩) 1 1] 27)) := (Below.refl _ _).alloc (Nat.le_refl _) _
  have x6 := Blk.alloc w6b 27 #[.int .i64 3, .int .i64 2, .slice (some ⟨Nc, 0, none⟩) 2 2, .slice (some ⟨Nq, 0, none⟩) 1 1]
  have X6 := Lib.hid (X6b.out.below hb6 X6b.out.lt)
  have D6 := Lib.hid (D6b.out.below hb6 (Nat.le_refl _))
  have XD6 := Lib.hid (XD6b.out.below hb6 (Nat.le_refl _))
  have Y6 := Lib.hid (Y6b.out.below hb6 Y6b.out.lt)
  have C6 := Lib.hid (C6b.out.below hb6 (Nat.le_refl _))
  have BD6 := Lib.hid (BD6b.out.below hb6 (Nat.le_refl _))
  have BL6 := Lib.hid (BL6b.out.trans ((hb6).mono BL6b.out.size))
  clear X6b D6b XD6b Y6b C6b BD6b BL6b
  obtain ⟨w6, hw6⟩ : ∃ x, w6b.alloc (.cells #[.int .i64 3, .int .i64 2, .slice (some ⟨Nc, 0, none⟩) 2 2, .slice (some ⟨Nq, 0, none⟩) 1 1] 27) = x := ⟨_, rfl⟩
  obtain ⟨Nb, hNb⟩ : ∃ x, w6b.heap.size = x := ⟨_, rfl⟩
  rw [hw6] at X6 D6 XD6 Y6 C6 BD6 BL6 x6
  rw [hNb] at x6
  have Z6 := Lib.hid x6
  clear hb6 x6
  have q5 : w5.heap.size = w4.heap.size + 1 := by rw [← hw5]; simp
  have q6a : w6a.heap.size = w5.heap.size + 1 := by rw [← hw6a]; simp
  have q6b : w6b.heap.size = w6a.heap.size + 1 := by rw [← hw6b]; simp
  have kq := kc w6a #[.int .u8 121] 1 1
  rw [hNq] at kq
  have cZ0 := Z6.out.cell 0
  have cZ1 := Z6.out.cell 1
  have cZ2 := Z6.out.cell 2
  have cZ3 := Z6.out.cell 3
  go_wp2_with fail
  clear cZ0 cZ1 cZ2 cZ3
  clear kq hw5 hw6a hw6b hw6 hNx hNc hNq hNb q5 q6a q6b
  refine (basePut_any 3 2 _ _ [0, 2] [121] w6 C6.out BD6.out (by decide)).mono ?_
  rintro e w7 ⟨u7, rfl, ho7, hb7⟩
  rw [kp2] at ho7
  have X7 := Lib.hid (X6.out.below hb7 X6.out.lt)
  have D7 := Lib.hid (D6.out.below hb7 (Nat.le_refl _))
  have XD7 := Lib.hid (XD6.out.below hb7 (Nat.le_refl _))
  have Y7 := Lib.hid (Y6.out.below hb7 Y6.out.lt)
  have C7 := Lib.hid (C6.out.below hb7 (Nat.le_refl _))
  have BD7 := Lib.hid (BD6.out.below hb7 (Nat.le_refl _))
  have Z7 := Lib.hid (Z6.out.below hb7 Z6.out.lt)
  have BL7 := Lib.hid (BL6.out.trans ((hb7).mono BL6.out.size))
  clear X6 D6 XD6 Y6 C6 BD6 Z6 BL6
  have U7 : Hid (IsNums .u8 w7 u7 [3, 2, 2, 0, 2, 1, 121]) := Lib.hid (IsNums.ofOwn (by exact ho7))
  obtain ⟨pu7, cu7, hu7⟩ := ownsRow_shape ho7
  subst hu7
  clear ho7 hb7
  go_wp2_with fail
  refine (new_any _ [3, 2, 2, 0, 2, 1, 121] w7 U7.out (bytes_of _ (by decide)) (by decide)).mono ?_
  rintro e w8 ⟨B2, u8, rfl, hB2, hr8, hb8⟩
  have R8 := Lib.hid hr8
  have H8 := Lib.hid (And.intro hB2 hb8)
  clear hr8 hb8 hB2
  go_wp2_with fail
  refine (baseRead_any B2 u8 _ 0 w8 R8.out (by decide)).mono ?_
  rintro e w9 ⟨uc9, u9, rfl, hoc9, ho9, -, hon9⟩
  rw [kr2] at ho9 hoc9
  rw [kr2, ko2]
  have hb9 : Below w7.heap.size w7 w9 := H8.out.2.trans (hon9.below (Nat.le_of_lt H8.out.1) H8.out.2.size)
  have X9 := Lib.hid (X7.out.below hb9 X7.out.lt)
  have D9 := Lib.hid (D7.out.below hb9 (Nat.le_refl _))
  have XD9 := Lib.hid (XD7.out.below hb9 (Nat.le_refl _))
  have Y9 := Lib.hid (Y7.out.below hb9 Y7.out.lt)
  have C9 := Lib.hid (C7.out.below hb9 (Nat.le_refl _))
  have BD9 := Lib.hid (BD7.out.below hb9 (Nat.le_refl _))
  have Z9 := Lib.hid (Z7.out.below hb9 Z7.out.lt)
  have BL9 := Lib.hid (BL7.out.trans ((hb9).mono BL7.out.size))
  clear X7 D7 XD7 Y7 C7 BD7 Z7 BL7
  have hx9 : IsNums .u8 w9 u9 [121] := IsNums.ofOwn (by exact ho9)
  have hc9 : IsNums .i64 w9 uc9 [0, 2] := IsNums.ofOwn (by exact hoc9)
  obtain ⟨pu9, cu9, hu9⟩ := ownsRow_shape ho9
  obtain ⟨pc9, cc9, huc9⟩ := ownsRow_shape hoc9
  subst hu9 huc9
  have YD9 : Hid (IsNums .u8 w9 (.slice pu9 1 cu9) [121]) := Lib.hid hx9
  have YC9 : Hid (IsNums .i64 w9 (.slice pc9 2 cc9) [0, 2]) := Lib.hid hc9
  rw [show baseV (3, 2, ([0, 2] : List Int), ([121] : List Int)).1 (3, 2, ([0, 2] : List Int), ([121] : List Int)).2.1 (.slice pc9 (3, 2, ([0, 2] : List Int), ([121] : List Int)).2.2.1.length cc9) (.slice pu9 (3, 2, ([0, 2] : List Int), ([121] : List Int)).2.2.2.length cu9) = .agg #[.int .i64 3, .int .i64 2, .slice pc9 2 cc9, .slice pu9 1 cu9] from rfl]
  clear ho9 hoc9 hx9 hc9 hon9 hb9 H8 R8 U7
  have hbA : Below w9.heap.size w9 (w9.alloc (.cells #[.int .i64 3, .int .i64 2, .slice pc9 2 cc9, .slice pu9 1 cu9] 27)) := (Below.refl _ _).alloc (Nat.le_refl _) _
  have xA := Blk.alloc w9 27 #[.int .i64 3, .int .i64 2, .slice pc9 2 cc9, .slice pu9 1 cu9]
  have XA := Lib.hid (X9.out.below hbA X9.out.lt)
  have DA := Lib.hid (D9.out.below hbA (Nat.le_refl _))
  have XDA := Lib.hid (XD9.out.below hbA (Nat.le_refl _))
  have YA := Lib.hid (Y9.out.below hbA Y9.out.lt)
  have CA := Lib.hid (C9.out.below hbA (Nat.le_refl _))
  have BDA := Lib.hid (BD9.out.below hbA (Nat.le_refl _))
  have ZA := Lib.hid (Z9.out.below hbA Z9.out.lt)
  have YDA := Lib.hid (YD9.out.below hbA (Nat.le_refl _))
  have YCA := Lib.hid (YC9.out.below hbA (Nat.le_refl _))
  have BLA := Lib.hid (BL9.out.trans ((hbA).mono BL9.out.size))
  clear X9 D9 XD9 Y9 C9 BD9 Z9 YD9 YC9 BL9
  obtain ⟨wA, hwA⟩ : ∃ x, w9.alloc (.cells #[.int .i64 3, .int .i64 2, .slice pc9 2 cc9, .slice pu9 1 cu9] 27) = x := ⟨_, rfl⟩
  obtain ⟨Ny, hNy⟩ : ∃ x, w9.heap.size = x := ⟨_, rfl⟩
  rw [hwA] at XA DA XDA YA CA BDA ZA YDA YCA BLA xA
  rw [hNy] at xA
  have YYA := Lib.hid xA
  clear hbA xA
  go_wp2_with fail
  clear hwA hNy
  refine (entRead_nil wA).mono ?_
  rintro e wB ⟨rfl, hbB⟩
  rw [show entV 0 0 0 (.slice none 0 0) = .agg #[.int .i64 0, .int .i64 0, .int .i64 0, .slice none 0 0] from rfl]
  have XB := Lib.hid (XA.out.below hbB XA.out.lt)
  have DB := Lib.hid (DA.out.below hbB (Nat.le_refl _))
  have XDB := Lib.hid (XDA.out.below hbB (Nat.le_refl _))
  have YB := Lib.hid (YA.out.below hbB YA.out.lt)
  have CB := Lib.hid (CA.out.below hbB (Nat.le_refl _))
  have BDB := Lib.hid (BDA.out.below hbB (Nat.le_refl _))
  have ZB := Lib.hid (ZA.out.below hbB ZA.out.lt)
  have YDB := Lib.hid (YDA.out.below hbB (Nat.le_refl _))
  have YCB := Lib.hid (YCA.out.below hbB (Nat.le_refl _))
  have YYB := Lib.hid (YYA.out.below hbB YYA.out.lt)
  have BLB := Lib.hid (BLA.out.trans ((hbB).mono BLA.out.size))
  clear XA DA XDA YA CA BDA ZA YDA YCA YYA BLA
  have hbC : Below wB.heap.size wB (wB.alloc (.cells #[.int .i64 0, .int .i64 0, .int .i64 0, .slice none 0 0] 24)) := (Below.refl _ _).alloc (Nat.le_refl _) _
  clear hbB
  have XC := Lib.hid (XB.out.below hbC XB.out.lt)
  have DC := Lib.hid (DB.out.below hbC (Nat.le_refl _))
  have XDC := Lib.hid (XDB.out.below hbC (Nat.le_refl _))
  have YC := Lib.hid (YB.out.below hbC YB.out.lt)
  have CC := Lib.hid (CB.out.below hbC (Nat.le_refl _))
  have BDC := Lib.hid (BDB.out.below hbC (Nat.le_refl _))
  have ZC := Lib.hid (ZB.out.below hbC ZB.out.lt)
  have YDC := Lib.hid (YDB.out.below hbC (Nat.le_refl _))
  have YCC := Lib.hid (YCB.out.below hbC (Nat.le_refl _))
  have YYC := Lib.hid (YYB.out.below hbC YYB.out.lt)
  have BLC := Lib.hid (BLB.out.trans ((hbC).mono BLB.out.size))
  clear XB DB XDB YB CB BDB ZB YDB YCB YYB BLB
  clear hbC
  have cY0 := YC.out.cell 0
  have cY1 := YC.out.cell 1
  have cY2 := YC.out.cell 2
  have cY3 := YC.out.cell 3
  have cX0 := XC.out.cell 0
  have cX1 := XC.out.cell 1
  have cX2 := XC.out.cell 2
  have cX3 := XC.out.cell 3
  go_wp2_with fail
  clear cY0 cY1 cY2 cY3 cX0 cX1 cX2 cX3
  obtain ⟨wC, hwC⟩ : ∃ x, wB.alloc (.cells #[.int .i64 0, .int .i64 0, .int .i64 0, .slice none 0 0] 24) = x := ⟨_, rfl⟩
  rw [hwC] at XC DC XDC YC CC BDC ZC YDC YCC YYC BLC ⊢
  clear hwC
  refine (entSame_any 3 2 1 3 2 1 _ _ [120] [120] wC XDC.out DC.out (bytes_of _ (by decide)) (bytes_of _ (by decide))).mono ?_
  rintro e wD ⟨rfl, hbD⟩
  rw [decide_eq_true rfl]
  have XD := Lib.hid (XC.out.below hbD XC.out.lt)
  have DD := Lib.hid (DC.out.below hbD (Nat.le_refl _))
  have XDD := Lib.hid (XDC.out.below hbD (Nat.le_refl _))
  have YD := Lib.hid (YC.out.below hbD YC.out.lt)
  have CD := Lib.hid (CC.out.below hbD (Nat.le_refl _))
  have BDD := Lib.hid (BDC.out.below hbD (Nat.le_refl _))
  have ZD := Lib.hid (ZC.out.below hbD ZC.out.lt)
  have YDD := Lib.hid (YDC.out.below hbD (Nat.le_refl _))
  have YCD := Lib.hid (YCC.out.below hbD (Nat.le_refl _))
  have YYD := Lib.hid (YYC.out.below hbD YYC.out.lt)
  have BLD := Lib.hid (BLC.out.trans ((hbD).mono BLC.out.size))
  clear XC DC XDC YC CC BDC ZC YDC YCC YYC BLC
  clear hbD
  have cYY0 := YYD.out.cell 0
  have cYY1 := YYD.out.cell 1
  have cYY2 := YYD.out.cell 2
  have cYY3 := YYD.out.cell 3
  have cZ0 := ZD.out.cell 0
  have cZ1 := ZD.out.cell 1
  have cZ2 := ZD.out.cell 2
  have cZ3 := ZD.out.cell 3
  go_wp2_with fail
  clear cYY0 cYY1 cYY2 cYY3 cZ0 cZ1 cZ2 cZ3
  refine (baseSame_any 3 2 3 2 _ _ _ _ [0, 2] [121] [0, 2] [121] wD YCD.out CD.out YDD.out BDD.out (bytes_of _ (by decide)) (bytes_of _ (by decide)) (by decide)).mono ?_
  rintro e wE ⟨rfl, hbE⟩
  rw [decide_eq_true rfl]
  have XE := Lib.hid (XD.out.below hbE XD.out.lt)
  have DE := Lib.hid (DD.out.below hbE (Nat.le_refl _))
  have XDE := Lib.hid (XDD.out.below hbE (Nat.le_refl _))
  have YE := Lib.hid (YD.out.below hbE YD.out.lt)
  have CE := Lib.hid (CD.out.below hbE (Nat.le_refl _))
  have BDE := Lib.hid (BDD.out.below hbE (Nat.le_refl _))
  have ZE := Lib.hid (ZD.out.below hbE ZD.out.lt)
  have YDE := Lib.hid (YDD.out.below hbE (Nat.le_refl _))
  have YCE := Lib.hid (YCD.out.below hbE (Nat.le_refl _))
  have YYE := Lib.hid (YYD.out.below hbE YYD.out.lt)
  have BLE := Lib.hid (BLD.out.trans ((hbE).mono BLD.out.size))
  clear XD DD XDD YD CD BDD ZD YDD YCD YYD BLD
  clear hbE
  go_wp2_with fail
  refine (entPut_any 0 0 0 _ [] wE (IsNums.nil .u8 wE none 0)).mono ?_
  rintro e wF ⟨uF, rfl, hoF, hbF⟩
  rw [kp0] at hoF
  obtain ⟨pF, cF, huF⟩ := ownsRow_shape hoF
  subst huF
  have XF := Lib.hid (XE.out.below hbF XE.out.lt)
  have DF := Lib.hid (DE.out.below hbF (Nat.le_refl _))
  have XDF := Lib.hid (XDE.out.below hbF (Nat.le_refl _))
  have YF := Lib.hid (YE.out.below hbF YE.out.lt)
  have CF := Lib.hid (CE.out.below hbF (Nat.le_refl _))
  have BDF := Lib.hid (BDE.out.below hbF (Nat.le_refl _))
  have ZF := Lib.hid (ZE.out.below hbF ZE.out.lt)
  have YDF := Lib.hid (YDE.out.below hbF (Nat.le_refl _))
  have YCF := Lib.hid (YCE.out.below hbF (Nat.le_refl _))
  have YYF := Lib.hid (YYE.out.below hbF YYE.out.lt)
  have BLF := Lib.hid (BLE.out.trans ((hbF).mono BLE.out.size))
  clear XE DE XDE YE CE BDE ZE YDE YCE YYE BLE
  clear hbF hoF
  have cX0 := XF.out.cell 0
  have cX1 := XF.out.cell 1
  have cX2 := XF.out.cell 2
  have cX3 := XF.out.cell 3
  go_wp2_with fail
  clear cX0 cX1 cX2 cX3
  refine (entRight_any 3 2 1 _ [120] wF DF.out).mono ?_
  rintro e wG ⟨rfl, hbG⟩
  rw [ke1]
  have XG := Lib.hid (XF.out.below hbG XF.out.lt)
  have DG := Lib.hid (DF.out.below hbG (Nat.le_refl _))
  have XDG := Lib.hid (XDF.out.below hbG (Nat.le_refl _))
  have YG := Lib.hid (YF.out.below hbG YF.out.lt)
  have CG := Lib.hid (CF.out.below hbG (Nat.le_refl _))
  have BDG := Lib.hid (BDF.out.below hbG (Nat.le_refl _))
  have ZG := Lib.hid (ZF.out.below hbG ZF.out.lt)
  have YDG := Lib.hid (YDF.out.below hbG (Nat.le_refl _))
  have YCG := Lib.hid (YCF.out.below hbG (Nat.le_refl _))
  have YYG := Lib.hid (YYF.out.below hbG YYF.out.lt)
  have BLG := Lib.hid (BLF.out.trans ((hbG).mono BLF.out.size))
  clear XF DF XDF YF CF BDF ZF YDF YCF YYF BLF
  clear hbG
  have cZ0 := ZG.out.cell 0
  have cZ1 := ZG.out.cell 1
  have cZ2 := ZG.out.cell 2
  have cZ3 := ZG.out.cell 3
  go_wp2_with fail
  clear cZ0 cZ1 cZ2 cZ3
  refine (baseRight_any 3 2 _ _ [0, 2] [121] wG CG.out BDG.out (by decide)).mono ?_
  rintro e wH ⟨rfl, hbH⟩
  rw [kb1]
  have XH := Lib.hid (XG.out.below hbH XG.out.lt)
  have DH := Lib.hid (DG.out.below hbH (Nat.le_refl _))
  have XDH := Lib.hid (XDG.out.below hbH (Nat.le_refl _))
  have YH := Lib.hid (YG.out.below hbH YG.out.lt)
  have CH := Lib.hid (CG.out.below hbH (Nat.le_refl _))
  have BDH := Lib.hid (BDG.out.below hbH (Nat.le_refl _))
  have ZH := Lib.hid (ZG.out.below hbH ZG.out.lt)
  have YDH := Lib.hid (YDG.out.below hbH (Nat.le_refl _))
  have YCH := Lib.hid (YCG.out.below hbH (Nat.le_refl _))
  have YYH := Lib.hid (YYG.out.below hbH YYG.out.lt)
  have BLH := Lib.hid (BLG.out.trans ((hbH).mono BLG.out.size))
  clear XG DG XDG YG CG BDG ZG YDG YCG YYG BLG
  clear hbH
  go_wp2_with fail
  refine (baseRight_any 0 0 _ _ [] [] wH (IsNums.nil .i64 wH none 0) (IsNums.nil .u8 wH none 0) (by decide)).mono ?_
  rintro e wI ⟨rfl, hbI⟩
  rw [kb0]
  have XI := Lib.hid (XH.out.below hbI XH.out.lt)
  have DI := Lib.hid (DH.out.below hbI (Nat.le_refl _))
  have XDI := Lib.hid (XDH.out.below hbI (Nat.le_refl _))
  have YI := Lib.hid (YH.out.below hbI YH.out.lt)
  have CI := Lib.hid (CH.out.below hbI (Nat.le_refl _))
  have BDI := Lib.hid (BDH.out.below hbI (Nat.le_refl _))
  have ZI := Lib.hid (ZH.out.below hbI ZH.out.lt)
  have YDI := Lib.hid (YDH.out.below hbI (Nat.le_refl _))
  have YCI := Lib.hid (YCH.out.below hbI (Nat.le_refl _))
  have YYI := Lib.hid (YYH.out.below hbI YYH.out.lt)
  have BLI := Lib.hid (BLH.out.trans ((hbI).mono BLH.out.size))
  clear XH DH XDH YH CH BDH ZH YDH YCH YYH BLH
  clear hbI
  go_wp2
  go_ret
  exact ⟨rfl, BLI.out⟩
end Go.Proofs.Ytkfcpnmdmoeioaa.K
