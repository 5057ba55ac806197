/- slot.Put. -/
import Derived.Test.YthecjhjomkpgkaaSlot1
import Derived.Deep.OwnRows
namespace Go.Proofs.Ythecjhjomkpgkaa.K
open Go.ChangeShapes Go.WideShapes Go.ChangeAt Go.RowKit
set_option linter.unusedVariables false

/-- A slot as its sector. -/
def slotB (c g a : Nat) : List Int := le8 c ++ le8 g ++ le8 a ++ List.replicate 32 0 ++ le8 c
theorem slotB_lay (c g a : Nat) : lay (lay (lay (lay zeros (le8 c) 0) (le8 g) 8) (le8 a) 16) (le8 c) 56 = slotB c g a := rfl
theorem slotB_len (c g a : Nat) : (slotB c g a).length = 64 := rfl
theorem slotB_sec (c g a : Nat) : Sec (slotB c g a) := by
  refine ⟨rfl, fun x hx => ?_⟩
  unfold slotB at hx
  simp only [List.mem_append] at hx
  rcases hx with (((h | h) | h) | h) | h
  · exact le8_ok _ x h
  · exact le8_ok _ x h
  · exact le8_ok _ x h
  · rw [List.eq_of_mem_replicate h]; omega
  · exact le8_ok _ x h
def slotV (c g : Nat) (a : Int) : Value := .agg #[.int .u64 c, .int .u64 g, .int .i64 a]

theorem make64 (w : World) : (Instr.makeSlice 25 (.int .i64 64) (.int .i64 64)).run Try.prog w = .ok (.slice (some ⟨w.heap.size, 0, none⟩) 64 64) (w.alloc (.cells (B8 zeros).toArray 5)) := by
  have h := run_make_row' (P := Try.prog) 25 5 (.int .u8 0) 1 Try.underlying25 info_u8 rfl .i64 .i64 64 (by omega) (by omega) w
  have e : madeCells #[Value.int .u8 0] 64 = (B8 zeros).toArray := by
    apply Array.toList_inj.1
    rw [show (#[Value.int .u8 0] : Array Value) = Array.replicate 1 (.int .u8 0) from rfl, madeCells_zeros 1 64 (by decide), ← B8_zeros]
    rfl
  rw [e] at h
  exact h
theorem lay_len64 (s b : List Int) (o : Nat) (hs : s.length = 64) (h : o + b.length ≤ 64) : (lay s b o).length = 64 := by rw [lay_len _ _ _ (by omega)]; exact hs

set_option maxRecDepth 100000 in
set_option maxHeartbeats 1000000 in
theorem sput_at (w : World) (c g A : Nat) (a : Int) (hmx : (a = (A : Int)) ∨ (a < 0 ∧ A = 0)) (hA : A ≤ 9223372036854775807) :
    Calls Try.prog 10 #[.agg #[.int .u64 c, .int .u64 g, .int .i64 a]] w fun e w' => e = .returned (.slice (some ⟨w.heap.size + 1, 0, none⟩) 64 64) ∧ Blk w' (w.heap.size + 1) 5 (B8 (slotB c g A)) ∧ Below w.heap.size w w' := by
  have hwA : IntKind.u64.wrap (A : Int) = (A : Int) := by rw [IntKind.wrap_u64]; omega
  have hb2 : Below w.heap.size w ((w.alloc (.cells #[.int .u64 c, .int .u64 g, .int .i64 a] 24)).alloc (.cells (B8 zeros).toArray 5)) := ((Below.refl _ w).alloc (Nat.le_refl _) _).alloc (by simp) _
  have hx2 : Blk ((w.alloc (.cells #[.int .u64 c, .int .u64 g, .int .i64 a] 24)).alloc (.cells (B8 zeros).toArray 5)) w.heap.size 24 [.int .u64 c, .int .u64 g, .int .i64 a] := (Blk.alloc w 24 #[.int .u64 c, .int .u64 g, .int .i64 a]).keep (Keep.alloc (fun _ => False) _ _) (fun h => h)
  have hg2 : Blk ((w.alloc (.cells #[.int .u64 c, .int .u64 g, .int .i64 a] 24)).alloc (.cells (B8 zeros).toArray 5)) (w.heap.size + 1) 5 (B8 zeros) := by
    have h := Blk.alloc (w.alloc (.cells #[.int .u64 c, .int .u64 g, .int .i64 a] 24)) 5 (B8 zeros).toArray
    rw [show (w.alloc (.cells #[.int .u64 c, .int .u64 g, .int .i64 a] 24)).heap.size = w.heap.size + 1 by simp] at h
    exact h
  have hmk := make64 (w.alloc (.cells #[.int .u64 c, .int .u64 g, .int .i64 a] 24))
  have hc0 := hx2.cell 0
  have B2 := Lib.hid hb2
  have X2 := Lib.hid hx2
  have G2 := Lib.hid hg2
  clear hb2 hx2 hg2
  go_enter Try.func10, Try.ntmps10
  go_wp2_with fail
  refine (put8_any _ (w.heap.size + 1) 0 64 64 5 zeros c G2.out (by decide) (by omega)).mono ?_
  rintro e w3 ⟨rfl, hg3, hk3⟩
  have hx3 := X2.out.keep hk3 (by omega)
  have hb3 := B2.out.trans ((hk3.below (N := w.heap.size) (fun j e => by omega) (B2.out.size)))
  have X3 := Lib.hid hx3
  have G3 := Lib.hid hg3
  have B3 := Lib.hid hb3
  clear hg3 hk3 hx3 hb3 hmk hc0 B2 X2 G2
  go_wp2_with fail
  have hb3 : ∀ W, Keep (fun _ => False) w3.drew W → W.cell? ⟨w.heap.size, 1, none⟩ = some (.int .u64 g) := fun W hW => by
    have h := (X3.out.keep (Keep.drew (fun _ => False) _) (fun h => h)).keep hW (fun h => h)
    rw [h.cell]; rfl
  have HX3 := Lib.hid hb3
  clear hb3
  refine regionE_begin 4 (fun W => Keep (fun _ => False) w3.drew W) (by kernel_rfl) ?_
  refine stepE_any 0 (some 9) (v := ?va0) (fun _ => Keep.refl _ _) rfl (by rfl) (by kernel_rfl) (by kernel_rfl) (by kernel_rfl) (by decide) (fun _ _ _ h => h) (by rfl) ?ya0 ?na0
  case ya0 => intro W; go_simp; try with_reducible rfl
  try simp only [Act.put, List.setIfInBounds_toArray, List.set_cons_zero, List.set_cons_succ]
  refine stepE_any 1 (some 10) (v := ?va1) (fun _ => Keep.refl _ _) rfl (by rfl) (by kernel_rfl) (by kernel_rfl) (by kernel_rfl) (by decide) (fun _ _ _ h => h) (by rfl) ?ya1 ?na1
  case ya1 => intro W; go_simp; try with_reducible rfl
  try simp only [Act.put, List.setIfInBounds_toArray, List.set_cons_zero, List.set_cons_succ]
  refine stepE_any 2 (some 11) (v := ?va2) (fun _ => Keep.refl _ _) rfl (by rfl) (by kernel_rfl) (by kernel_rfl) (by kernel_rfl) (by decide) (fun _ _ _ h => h) (by rfl) ?ya2 ?na2
  case ya2 => intro W; go_simp; try with_reducible rfl
  try simp only [Act.put, List.setIfInBounds_toArray, List.set_cons_zero, List.set_cons_succ]
  refine stepE_read 3 14 (some 12) (v := ?va3) (Keep.refl _ _) rfl (by rfl) (by kernel_rfl) (by kernel_rfl) (by kernel_rfl) (by kernel_rfl) (by kernel_rfl) (fun _ _ _ h => h) (by rfl) ?ya3 ?na3
  case ya3 => intro W hW; have q := HX3.out W hW; go_simp; try with_reducible rfl
  try simp only [Act.put, List.setIfInBounds_toArray, List.set_cons_zero, List.set_cons_succ]
  -- 4: call:47 -> 13
  refine stepE_end 4 rfl (by kernel_rfl) (by rfl) (by rfl) (fun K' hK => ?_)
  go_simp
  refine (put8_any w3.drew (w.heap.size + 1) 8 56 56 5 _ g (G3.out.keep (Keep.drew (fun _ => False) _) (fun h => h)) (by show _ ≤ (64 : Nat); omega) (by omega)).mono ?_
  rintro e w4 ⟨rfl, hg4, hk4⟩
  refine hK _ _ ?_
  clear hK K'
  refine wpAnyE_done (by kernel_rfl) ?_ _
  have X4 := Lib.hid ((X3.out.keep (Keep.drew (fun _ => False) _) (fun h => h)).keep hk4 (by omega))
  have B4 := Lib.hid (B3.out.drew.trans (hk4.below (N := w.heap.size) (fun j e => by omega) (B3.out.drew.size)))
  have G4 := Lib.hid hg4
  clear hg4 hk4 X3 B3 G3
  rcases hmx with rfl | ⟨hneg, rfl⟩
  · have hA0 : (0 : Int) ≤ A := by omega
    have HW : Hid (IntKind.u64.wrap (if (A : Int) < 0 then 0 else (A : Int)) = (A : Int)) := Lib.hid (by rw [if_neg (by omega)]; exact hwA)
    go_wp2_with fail
    have hb4 : ∀ W, Keep (fun _ => False) w4.drew W → W.cell? ⟨w.heap.size, 2, none⟩ = some (.int .i64 A) := fun W hW => by
      have h := (X4.out.keep (Keep.drew (fun _ => False) _) (fun h => h)).keep hW (fun h => h)
      rw [h.cell]; rfl
    have HX4 := Lib.hid hb4
    clear hb4
    refine regionE_begin 6 (fun W => Keep (fun _ => False) w4.drew W) (by kernel_rfl) ?_
    refine stepE_any 0 (some 14) (v := ?vb0) (fun _ => Keep.refl _ _) rfl (by rfl) (by kernel_rfl) (by kernel_rfl) (by kernel_rfl) (by decide) (fun _ _ _ h => h) (by rfl) ?yb0 ?nb0
    case yb0 => intro W; go_simp; try with_reducible rfl
    try simp only [Act.put, List.setIfInBounds_toArray, List.set_cons_zero, List.set_cons_succ]
    refine stepE_any 1 (some 15) (v := ?vb1) (fun _ => Keep.refl _ _) rfl (by rfl) (by kernel_rfl) (by kernel_rfl) (by kernel_rfl) (by decide) (fun _ _ _ h => h) (by rfl) ?yb1 ?nb1
    case yb1 => intro W; go_simp; try with_reducible rfl
    try simp only [Act.put, List.setIfInBounds_toArray, List.set_cons_zero, List.set_cons_succ]
    refine stepE_any 2 (some 16) (v := ?vb2) (fun _ => Keep.refl _ _) rfl (by rfl) (by kernel_rfl) (by kernel_rfl) (by kernel_rfl) (by decide) (fun _ _ _ h => h) (by rfl) ?yb2 ?nb2
    case yb2 => intro W; go_simp; try with_reducible rfl
    try simp only [Act.put, List.setIfInBounds_toArray, List.set_cons_zero, List.set_cons_succ]
    refine stepE_read 3 14 (some 17) (v := ?vb3) (Keep.refl _ _) rfl (by rfl) (by kernel_rfl) (by kernel_rfl) (by kernel_rfl) (by kernel_rfl) (by kernel_rfl) (fun _ _ _ h => h) (by rfl) ?yb3 ?nb3
    case yb3 => intro W hW; have q := HX4.out W hW; go_simp; try with_reducible rfl
    try simp only [Act.put, List.setIfInBounds_toArray, List.set_cons_zero, List.set_cons_succ]
    refine stepE_any 4 (some 18) (v := ?vb4) (fun _ => Keep.refl _ _) rfl (by rfl) (by kernel_rfl) (by kernel_rfl) (by kernel_rfl) (by decide) (fun _ _ _ h => h) (by rfl) ?yb4 ?nb4
    case yb4 => intro W; go_simp; try with_reducible rfl
    try simp only [Act.put, List.setIfInBounds_toArray, List.set_cons_zero, List.set_cons_succ]
    refine stepE_any 5 (some 19) (v := ?vb5) (fun _ => Keep.refl _ _) rfl (by rfl) (by kernel_rfl) (by kernel_rfl) (by kernel_rfl) (by decide) (fun _ _ _ h => h) (by rfl) ?yb5 ?nb5
    case yb5 => intro W; go_simp; try with_reducible rfl
    try simp only [Act.put, List.setIfInBounds_toArray, List.set_cons_zero, List.set_cons_succ]
    -- 6: call:47 -> 20
    refine stepE_end 6 rfl (by kernel_rfl) (by rfl) (by rfl) (fun K' hK => ?_)
    go_simp
    rw [HW.out]
    refine (put8_any w4.drew (w.heap.size + 1) 16 48 48 5 _ A (G4.out.keep (Keep.drew (fun _ => False) _) (fun h => h)) (by show _ ≤ (64 : Nat); omega) (by omega)).mono ?_
    rintro e w5 ⟨rfl, hg5, hk5⟩
    refine hK _ _ ?_
    clear hK K'
    refine wpAnyE_done (by kernel_rfl) ?_ _
    have X5 := Lib.hid ((X4.out.keep (Keep.drew (fun _ => False) _) (fun h => h)).keep hk5 (by omega))
    have B5 := Lib.hid (B4.out.drew.trans (hk5.below (N := w.heap.size) (fun j e => by omega) (B4.out.drew.size)))
    have G5 := Lib.hid hg5
    clear hg5 hk5 X4 B4 G4
    go_wp2_with fail
    have hb5 : ∀ W, Keep (fun _ => False) w5.drew W → W.cell? ⟨w.heap.size, 0, none⟩ = some (.int .u64 c) := fun W hW => by
      have h := (X5.out.keep (Keep.drew (fun _ => False) _) (fun h => h)).keep hW (fun h => h)
      rw [h.cell]; rfl
    have HX5 := Lib.hid hb5
    clear hb5
    refine regionE_begin 4 (fun W => Keep (fun _ => False) w5.drew W) (by kernel_rfl) ?_
    refine stepE_any 0 (some 21) (v := ?vd0) (fun _ => Keep.refl _ _) rfl (by rfl) (by kernel_rfl) (by kernel_rfl) (by kernel_rfl) (by decide) (fun _ _ _ h => h) (by rfl) ?yd0 ?nd0
    case yd0 => intro W; go_simp; try with_reducible rfl
    try simp only [Act.put, List.setIfInBounds_toArray, List.set_cons_zero, List.set_cons_succ]
    refine stepE_any 1 (some 22) (v := ?vd1) (fun _ => Keep.refl _ _) rfl (by rfl) (by kernel_rfl) (by kernel_rfl) (by kernel_rfl) (by decide) (fun _ _ _ h => h) (by rfl) ?yd1 ?nd1
    case yd1 => intro W; go_simp; try with_reducible rfl
    try simp only [Act.put, List.setIfInBounds_toArray, List.set_cons_zero, List.set_cons_succ]
    refine stepE_any 2 (some 23) (v := ?vd2) (fun _ => Keep.refl _ _) rfl (by rfl) (by kernel_rfl) (by kernel_rfl) (by kernel_rfl) (by decide) (fun _ _ _ h => h) (by rfl) ?yd2 ?nd2
    case yd2 => intro W; go_simp; try with_reducible rfl
    try simp only [Act.put, List.setIfInBounds_toArray, List.set_cons_zero, List.set_cons_succ]
    refine stepE_read 3 14 (some 24) (v := ?vd3) (Keep.refl _ _) rfl (by rfl) (by kernel_rfl) (by kernel_rfl) (by kernel_rfl) (by kernel_rfl) (by kernel_rfl) (fun _ _ _ h => h) (by rfl) ?yd3 ?nd3
    case yd3 => intro W hW; have q := HX5.out W hW; go_simp; try with_reducible rfl
    try simp only [Act.put, List.setIfInBounds_toArray, List.set_cons_zero, List.set_cons_succ]
    -- 4: call:47 -> 25
    refine stepE_end 4 rfl (by kernel_rfl) (by rfl) (by rfl) (fun K' hK => ?_)
    go_simp
    refine (put8_any w5.drew (w.heap.size + 1) 56 8 8 5 _ c (G5.out.keep (Keep.drew (fun _ => False) _) (fun h => h)) (by show _ ≤ (64 : Nat); omega) (by omega)).mono ?_
    rintro e w6 ⟨rfl, hg6, hk6⟩
    refine hK _ _ ?_
    clear hK K'
    refine wpAnyE_done (by kernel_rfl) ?_ _
    have B6 := Lib.hid (B5.out.drew.trans (hk6.below (N := w.heap.size) (fun j e => by omega) (B5.out.drew.size)))
    have G6 := Lib.hid hg6
    clear hg6 hk6 X5 B5 G5
    go_wp2
    go_ret
    exact ⟨rfl, G6.out, B6.out⟩
  · have hA0 : ¬ (0 : Int) ≤ a := by omega
    go_wp2_with fail
    have hb4 : ∀ W, Keep (fun _ => False) w4.drew W → W.cell? ⟨w.heap.size, 2, none⟩ = some (.int .i64 a) := fun W hW => by
      have h := (X4.out.keep (Keep.drew (fun _ => False) _) (fun h => h)).keep hW (fun h => h)
      rw [h.cell]; rfl
    have HX4 := Lib.hid hb4
    clear hb4
    refine regionE_begin 6 (fun W => Keep (fun _ => False) w4.drew W) (by kernel_rfl) ?_
    refine stepE_any 0 (some 14) (v := ?vc0) (fun _ => Keep.refl _ _) rfl (by rfl) (by kernel_rfl) (by kernel_rfl) (by kernel_rfl) (by decide) (fun _ _ _ h => h) (by rfl) ?yc0 ?nc0
    case yc0 => intro W; go_simp; try with_reducible rfl
    try simp only [Act.put, List.setIfInBounds_toArray, List.set_cons_zero, List.set_cons_succ]
    refine stepE_any 1 (some 15) (v := ?vc1) (fun _ => Keep.refl _ _) rfl (by rfl) (by kernel_rfl) (by kernel_rfl) (by kernel_rfl) (by decide) (fun _ _ _ h => h) (by rfl) ?yc1 ?nc1
    case yc1 => intro W; go_simp; try with_reducible rfl
    try simp only [Act.put, List.setIfInBounds_toArray, List.set_cons_zero, List.set_cons_succ]
    refine stepE_any 2 (some 16) (v := ?vc2) (fun _ => Keep.refl _ _) rfl (by rfl) (by kernel_rfl) (by kernel_rfl) (by kernel_rfl) (by decide) (fun _ _ _ h => h) (by rfl) ?yc2 ?nc2
    case yc2 => intro W; go_simp; try with_reducible rfl
    try simp only [Act.put, List.setIfInBounds_toArray, List.set_cons_zero, List.set_cons_succ]
    refine stepE_read 3 14 (some 17) (v := ?vc3) (Keep.refl _ _) rfl (by rfl) (by kernel_rfl) (by kernel_rfl) (by kernel_rfl) (by kernel_rfl) (by kernel_rfl) (fun _ _ _ h => h) (by rfl) ?yc3 ?nc3
    case yc3 => intro W hW; have q := HX4.out W hW; go_simp; try with_reducible rfl
    try simp only [Act.put, List.setIfInBounds_toArray, List.set_cons_zero, List.set_cons_succ]
    refine stepE_any 4 (some 18) (v := ?vc4) (fun _ => Keep.refl _ _) rfl (by rfl) (by kernel_rfl) (by kernel_rfl) (by kernel_rfl) (by decide) (fun _ _ _ h => h) (by rfl) ?yc4 ?nc4
    case yc4 => intro W; go_simp; try with_reducible rfl
    try simp only [Act.put, List.setIfInBounds_toArray, List.set_cons_zero, List.set_cons_succ]
    refine stepE_any 5 (some 19) (v := ?vc5) (fun _ => Keep.refl _ _) rfl (by rfl) (by kernel_rfl) (by kernel_rfl) (by kernel_rfl) (by decide) (fun _ _ _ h => h) (by rfl) ?yc5 ?nc5
    case yc5 => intro W; go_simp; try with_reducible rfl
    try simp only [Act.put, List.setIfInBounds_toArray, List.set_cons_zero, List.set_cons_succ]
    -- 6: call:47 -> 20
    refine stepE_end 6 rfl (by kernel_rfl) (by rfl) (by rfl) (fun K' hK => ?_)
    go_simp
    refine (put8_any w4.drew (w.heap.size + 1) 16 48 48 5 _ 0 (G4.out.keep (Keep.drew (fun _ => False) _) (fun h => h)) (by show _ ≤ (64 : Nat); omega) (by omega)).mono ?_
    rintro e w5 ⟨rfl, hg5, hk5⟩
    refine hK _ _ ?_
    clear hK K'
    refine wpAnyE_done (by kernel_rfl) ?_ _
    have X5 := Lib.hid ((X4.out.keep (Keep.drew (fun _ => False) _) (fun h => h)).keep hk5 (by omega))
    have B5 := Lib.hid (B4.out.drew.trans (hk5.below (N := w.heap.size) (fun j e => by omega) (B4.out.drew.size)))
    have G5 := Lib.hid hg5
    clear hg5 hk5 X4 B4 G4
    go_wp2_with fail
    have hb5 : ∀ W, Keep (fun _ => False) w5.drew W → W.cell? ⟨w.heap.size, 0, none⟩ = some (.int .u64 c) := fun W hW => by
      have h := (X5.out.keep (Keep.drew (fun _ => False) _) (fun h => h)).keep hW (fun h => h)
      rw [h.cell]; rfl
    have HX5 := Lib.hid hb5
    clear hb5
    refine regionE_begin 4 (fun W => Keep (fun _ => False) w5.drew W) (by kernel_rfl) ?_
    refine stepE_any 0 (some 21) (v := ?ve0) (fun _ => Keep.refl _ _) rfl (by rfl) (by kernel_rfl) (by kernel_rfl) (by kernel_rfl) (by decide) (fun _ _ _ h => h) (by rfl) ?ye0 ?ne0
    case ye0 => intro W; go_simp; try with_reducible rfl
    try simp only [Act.put, List.setIfInBounds_toArray, List.set_cons_zero, List.set_cons_succ]
    refine stepE_any 1 (some 22) (v := ?ve1) (fun _ => Keep.refl _ _) rfl (by rfl) (by kernel_rfl) (by kernel_rfl) (by kernel_rfl) (by decide) (fun _ _ _ h => h) (by rfl) ?ye1 ?ne1
    case ye1 => intro W; go_simp; try with_reducible rfl
    try simp only [Act.put, List.setIfInBounds_toArray, List.set_cons_zero, List.set_cons_succ]
    refine stepE_any 2 (some 23) (v := ?ve2) (fun _ => Keep.refl _ _) rfl (by rfl) (by kernel_rfl) (by kernel_rfl) (by kernel_rfl) (by decide) (fun _ _ _ h => h) (by rfl) ?ye2 ?ne2
    case ye2 => intro W; go_simp; try with_reducible rfl
    try simp only [Act.put, List.setIfInBounds_toArray, List.set_cons_zero, List.set_cons_succ]
    refine stepE_read 3 14 (some 24) (v := ?ve3) (Keep.refl _ _) rfl (by rfl) (by kernel_rfl) (by kernel_rfl) (by kernel_rfl) (by kernel_rfl) (by kernel_rfl) (fun _ _ _ h => h) (by rfl) ?ye3 ?ne3
    case ye3 => intro W hW; have q := HX5.out W hW; go_simp; try with_reducible rfl
    try simp only [Act.put, List.setIfInBounds_toArray, List.set_cons_zero, List.set_cons_succ]
    -- 4: call:47 -> 25
    refine stepE_end 4 rfl (by kernel_rfl) (by rfl) (by rfl) (fun K' hK => ?_)
    go_simp
    refine (put8_any w5.drew (w.heap.size + 1) 56 8 8 5 _ c (G5.out.keep (Keep.drew (fun _ => False) _) (fun h => h)) (by show _ ≤ (64 : Nat); omega) (by omega)).mono ?_
    rintro e w6 ⟨rfl, hg6, hk6⟩
    refine hK _ _ ?_
    clear hK K'
    refine wpAnyE_done (by kernel_rfl) ?_ _
    have B6 := Lib.hid (B5.out.drew.trans (hk6.below (N := w.heap.size) (fun j e => by omega) (B5.out.drew.size)))
    have G6 := Lib.hid hg6
    clear hg6 hk6 X5 B5 G5
    go_wp2
    go_ret
    exact ⟨rfl, G6.out, B6.out⟩
end Go.Proofs.Ythecjhjomkpgkaa.K
