/- What slots read as; mementolaw4.known. -/
import Derived.Test.YthecjhjomkpgkaaSlot5
namespace Go.Proofs.Ythecjhjomkpgkaa.K
open Go.ChangeShapes Go.WideShapes Go.ChangeAt Go.RowKit
set_option linter.unusedVariables false

theorem num8_le8 (n : Nat) (b : List Int) (hb : ∀ j, j < 8 → b.getD j 0 = ((byteOf n j : Nat) : Int)) : ∀ k, k ≤ 8 → num8 b k = n % 2 ^ (8 * k)
  | 0, _ => by simp [num8, Nat.mod_one]
  | k + 1, h => by
    have ih := num8_le8 n b hb k (by omega)
    unfold num8
    rw [ih, hb k (by omega), Int.toNat_natCast]
    unfold byteOf
    rw [show 8 * (k + 1) = 8 * k + 8 by omega, Nat.pow_add, Nat.mod_mul, show 2 ^ 8 = 256 from rfl, Nat.mul_comm (2 ^ (8 * k))]
theorem slotB_get0 (c g a j : Nat) (hj : j < 8) : (slotB c g a).getD j 0 = ((byteOf c j : Nat) : Int) := by
  match j, hj with
  | 0, _ => rfl
  | 1, _ => rfl
  | 2, _ => rfl
  | 3, _ => rfl
  | 4, _ => rfl
  | 5, _ => rfl
  | 6, _ => rfl
  | 7, _ => rfl
theorem slotB_get8 (c g a j : Nat) (hj : j < 8) : ((slotB c g a).drop 8).getD j 0 = ((byteOf g j : Nat) : Int) := by
  match j, hj with
  | 0, _ => rfl
  | 1, _ => rfl
  | 2, _ => rfl
  | 3, _ => rfl
  | 4, _ => rfl
  | 5, _ => rfl
  | 6, _ => rfl
  | 7, _ => rfl
theorem slotB_get16 (c g a j : Nat) (hj : j < 8) : ((slotB c g a).drop 16).getD j 0 = ((byteOf a j : Nat) : Int) := by
  match j, hj with
  | 0, _ => rfl
  | 1, _ => rfl
  | 2, _ => rfl
  | 3, _ => rfl
  | 4, _ => rfl
  | 5, _ => rfl
  | 6, _ => rfl
  | 7, _ => rfl
theorem slotB_nums (c g a : Nat) (hc : c < 2 ^ 64) (hg : g < 2 ^ 64) (ha : a < 2 ^ 64) : num8 (slotB c g a) 8 = c ∧ num8 ((slotB c g a).drop 8) 8 = g ∧ num8 ((slotB c g a).drop 16) 8 = a :=
  ⟨(num8_le8 c _ (fun j hj => slotB_get0 c g a j hj) 8 (Nat.le_refl _)).trans (Nat.mod_eq_of_lt hc), (num8_le8 g _ (fun j hj => slotB_get8 c g a j hj) 8 (Nat.le_refl _)).trans (Nat.mod_eq_of_lt hg), (num8_le8 a _ (fun j hj => slotB_get16 c g a j hj) 8 (Nat.le_refl _)).trans (Nat.mod_eq_of_lt ha)⟩
theorem readS_slot (c g a : Nat) (hc0 : 1 ≤ c) (hc : c < 2 ^ 64) (hg : g < 2 ^ 64) (ha : a ≤ 1) : readS (slotB c g a) = some (c, g, a) := by
  obtain ⟨e1, e2, e3⟩ := slotB_nums c g a hc hg (Nat.lt_of_le_of_lt ha (by decide))
  unfold readS
  rw [e1, e2, e3, if_pos]
  exact ⟨rfl, by omega, ha, rfl⟩
theorem readS_zeros : readS zeros = none := readS_no (fun h => h.2.1 (by decide))

theorem set_nil (w : World) (c g : Nat) (a : Int) : Calls Try.prog 17 #[.pointer none, .agg #[.int .u64 c, .int .u64 g, .int .i64 a]] w fun e w' => e = .returned (.int .i64 25) ∧ Below w.heap.size w w' := by
  have hb1 : Below w.heap.size w (w.alloc (.cells #[.int .u64 c, .int .u64 g, .int .i64 a] 24)) := (Below.refl _ _).alloc (Nat.le_refl _) _
  have B1 := Lib.hid hb1
  clear hb1
  go_enter Try.func17, Try.ntmps17
  go_wp2
  go_ret
  exact ⟨rfl, B1.out⟩

set_option maxRecDepth 100000 in
set_option maxHeartbeats 1000000 in
theorem known_any (w : World) : Calls Try.prog 9 #[] w fun e w' => e = .returned (.bool true) ∧ Below w.heap.size w w' := by
  go_enter Try.func9, Try.ntmps9
  go_wp2_with fail
  refine (new_disk 4 w (by omega)).mono ?_
  rintro e w1 ⟨B, S, rfl, hS, hd1, hb1⟩
  have HS := Lib.hid hS
  have D1 := Lib.hid hd1
  have B1 := Lib.hid hb1
  clear hS hd1 hb1
  go_wp2_with fail
  refine (choose_any D1.out (by decide)).mono ?_
  rintro e w2 ⟨rfl, hb2⟩
  rw [show chooseS (readS ((List.replicate 4 zeros).getD 0 [])) (readS ((List.replicate 4 zeros).getD 1 [])) = none by rw [show (List.replicate 4 zeros).getD 0 [] = zeros from rfl, show (List.replicate 4 zeros).getD 1 [] = zeros from rfl, readS_zeros]; rfl]
  rw [show slotO none = .agg #[.int .u64 0, .int .u64 0, .int .i64 0] from rfl, show (none : SlotN).isSome = false from rfl]
  have D2 := Lib.hid ((D1.out.later hb2).alloc (.cells #[.int .u64 0, .int .u64 0, .int .i64 0] 24))
  have hB2 := B1.out.trans (hb2.mono B1.out.size)
  have B2 := Lib.hid (hB2.alloc hB2.size (.cells #[.int .u64 0, .int .u64 0, .int .i64 0] 24))
  clear hb2 hB2 D1 B1
  go_wp2_with fail
  refine (set_live D2.out 4 3 1 0 1 (.inl rfl) (by omega) (by omega) rfl (by decide)).mono ?_
  rintro e w3 ⟨rfl, hd3, hk3⟩
  have B3 := Lib.hid (B2.out.trans (D2.out.below hk3 HS.out B2.out.size))
  have D3 := Lib.hid hd3
  clear hd3 hk3 B2 D2
  go_wp2_with fail
  refine (set_live D3.out 5 5 0 1 0 (.inl rfl) (by omega) (by omega) rfl (by decide)).mono ?_
  rintro e w4 ⟨rfl, hd4, hk4⟩
  have B4 := Lib.hid (B3.out.trans (D3.out.below hk4 HS.out B3.out.size))
  have D4 := Lib.hid hd4
  clear hd4 hk4 B3 D3
  go_wp2_with fail
  refine (choose_any D4.out (by decide)).mono ?_
  rintro e w5 ⟨rfl, hb5⟩
  rw [show chooseS (readS ((((List.replicate 4 zeros).set 0 (slotB 4 3 1)).set 1 (slotB 5 5 0)).getD 0 [])) (readS ((((List.replicate 4 zeros).set 0 (slotB 4 3 1)).set 1 (slotB 5 5 0)).getD 1 [])) = some (5, 5, 0) by rw [show (((List.replicate 4 zeros).set 0 (slotB 4 3 1)).set 1 (slotB 5 5 0)).getD 0 [] = slotB 4 3 1 from rfl, show (((List.replicate 4 zeros).set 0 (slotB 4 3 1)).set 1 (slotB 5 5 0)).getD 1 [] = slotB 5 5 0 from rfl, readS_slot 4 3 1 (by omega) (by omega) (by omega) (by omega), readS_slot 5 5 0 (by omega) (by omega) (by omega) (by omega)]; rfl]
  rw [show slotO (some (5, 5, 0)) = .agg #[.int .u64 5, .int .u64 5, .int .i64 0] from rfl, show (some (5, 5, 0) : SlotN).isSome = true from rfl]
  have hB5 := B4.out.trans (hb5.mono B4.out.size)
  have hb6 := hB5.alloc hB5.size (.cells #[.int .u64 5, .int .u64 5, .int .i64 0] 24)
  have hx6 := Blk.alloc w5 24 #[.int .u64 5, .int .u64 5, .int .i64 0]
  have hmk := make64 (w5.alloc (.cells #[.int .u64 5, .int .u64 5, .int .i64 0] 24))
  have HB6 := Lib.hid hb6
  have HX6 := Lib.hid hx6
  have hb6' := hb6
  clear hb5 hB5 hb6 hx6 D4 B4
  have hs6 : (w5.alloc (.cells #[.int .u64 5, .int .u64 5, .int .i64 0] 24)).heap.size = w5.heap.size + 1 := by simp
  have hg7 := Blk.alloc (w5.alloc (.cells #[.int .u64 5, .int .u64 5, .int .i64 0] 24)) 5 (B8 zeros).toArray
  rw [hs6] at hg7
  have hb7 := hb6'.alloc hb6'.size (.cells (B8 zeros).toArray 5)
  have hx7 := HX6.out.keep (Keep.alloc (fun _ => False) _ (.cells (B8 zeros).toArray 5)) (fun h => h)
  have G7 := Lib.hid hg7
  have B7 := Lib.hid hb7
  have X7 := Lib.hid hx7
  clear hb6' hs6 hg7 hb7 hx7 HX6 HB6
  go_wp2_with fail
  have hn7 : IsNums .u8 ((w5.alloc (.cells #[.int .u64 5, .int .u64 5, .int .i64 0] 24)).alloc (.cells (B8 zeros).toArray 5)) (.slice (some ⟨w5.heap.size + 1, 0, none⟩) 64 64) zeros := Blk.nums G7.out 0 64 _ 64 rfl (fun j hj => by rw [Nat.zero_add])
  refine (sread_64 _ _ 0 64 zeros hn7 rfl (by omega) Sec.zeros.2).mono ?_
  rintro e w8 ⟨rfl, hb8⟩
  rw [readS_zeros, show slotO none = .agg #[.int .u64 0, .int .u64 0, .int .i64 0] from rfl, show (none : SlotN).isSome = false from rfl]
  have hB8 := B7.out.trans (hb8.mono B7.out.size)
  have hx8 := (X7.out.below hb8 X7.out.lt).keep (Keep.alloc (fun _ => False) w8 (.cells #[.int .u64 0, .int .u64 0, .int .i64 0] 24)) (fun h => h)
  have x0 := hx8.cell 0
  have x1 := hx8.cell 1
  have x2 := hx8.cell 2
  have HB9 := Lib.hid (hB8.alloc hB8.size (.cells #[.int .u64 0, .int .u64 0, .int .i64 0] 24))
  clear hn7 hb8 hB8 hx8 G7 B7 X7 hmk
  go_wp2_with fail
  refine (set_nil _ 5 5 0).mono ?_
  rintro e w9 ⟨rfl, hb9⟩
  have B9 := Lib.hid (HB9.out.trans (hb9.mono HB9.out.size))
  clear hb9 x0 x1 x2
  go_wp2
  go_ret
  exact ⟨rfl, B9.out⟩
end Go.Proofs.Ythecjhjomkpgkaa.K
