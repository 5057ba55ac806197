/- What crc.Four returns. -/
import Derived.Test.YtkbehdjaegomgaaDoorCrc2
import Derived.Laws.OwnMore
namespace Go.Proofs.YtkbehdjaegomgaaDoor.K
open Go.ChangeShapes Go.WideShapes Go.ChangeAt Go.RowKit
set_option linter.unusedVariables false

/-- Four bytes, the lowest first. -/
def fourC (c : Int) : List Int := [c % 256, c / 256 % 256, c / 65536 % 256, c / 16777216 % 256]
theorem fourC_len (c : Int) : (fourC c).length = 4 := rfl
theorem fourC_bytes (c : Int) : Bytes (fourC c) := by
  intro j hj
  have hj4 : j < 4 := hj
  obtain rfl | rfl | rfl | rfl : j = 0 ∨ j = 1 ∨ j = 2 ∨ j = 3 := by omega
  all_goals simp [fourC]
  all_goals omega

/-- The first k of them, then zeros. -/
def part (c : Int) (k : Nat) : List Value := ((fourC c).take k ++ List.replicate (4 - k) 0).map (Value.int .u8)

theorem part_next (c : Int) (N k : Nat) (w wr : World) (x : Int) (hN : w.heap.size = N) (hown : wr.ownsRow N 5 1 (.slice (some ⟨N, 0, none⟩) 4 4) 4 (part c k)) (hbel : Below N w wr) (hp : (part c k).set k (.int .u8 x) = part c (k + 1)) :
    (wr.setCell ⟨N, k, none⟩ (.int .u8 x)).ownsRow N 5 1 (.slice (some ⟨N, 0, none⟩) 4 4) 4 (part c (k + 1)) ∧ Below N w (wr.setCell ⟨N, k, none⟩ (.int .u8 x)) := by
  obtain ⟨h1, h2⟩ := hown.stored k (.int .u8 x)
  rw [hp] at h1
  exact ⟨h1, hbel.grown h2 (by have := hbel.size; omega) (fun j hj => by cases hj; omega)⟩

set_option maxRecDepth 100000 in
set_option maxHeartbeats 2000000 in
theorem four_any (c : Int) (w : World) (hc : 0 ≤ c ∧ c < 4294967296) :
    Calls Tryd.prog 15 #[.int .u32 c] w fun e w' => ∃ u, e = .returned u ∧ w'.ownsRow w.heap.size 5 1 u 4 ((fourC c).map (Value.int .u8)) ∧ Below w.heap.size w w' := by
  obtain ⟨i0, hi, hz0, hz1, hz2⟩ := info_parts info_u8
  obtain ⟨N, hN⟩ : ∃ N, w.heap.size = N := ⟨_, rfl⟩
  go_enter Tryd.func15, Tryd.ntmps15
  go_wp2_with (at_make; refine wpList_make_full _ rfl _ _ 22 rfl N 5 i0 (.int .u8 0) 1 Tryd.underlying22 hi hz0 hz1 _ _ _ _ 4 rfl rfl rfl rfl (by rw [hz2]; omega) (by unfold maxLen; omega) (by omega) ?_; intro w1 hown hgrow)
  rw [hN] at hown
  have hm : (madeCells (Value.int IntKind.u8 0).cells (4 * 1)).toList = part c 0 := by
    simp [madeCells, part, Value.cells]
    try rfl
  rw [hm] at hown
  go_loopw [8] (fun i wr => ∃ k : Nat, k ≤ 4 ∧ i = .int .i64 k ∧ wr.ownsRow N 5 1 (.slice (some ⟨N, 0, none⟩) 4 4) 4 (part c k) ∧ Below N w wr) (fun i _ => 4 - (intOf i).toNat)
  case atStart => exact ⟨0, by omega, rfl, hown, (Below.refl _ w).grown hgrow (by omega) (fun j hj => by cases hj)⟩
  case round =>
    obtain ⟨k, hk, rfl, hown, hbel⟩ := hrel
    by_cases hlt : k < 4
    · have hcell := hown.cellAt k (by omega)
      have hfz := hown.frozenAt k
      have hnext := fun x hp => part_next c N k w wr x hN hown hbel hp
      have H1 := Lib.hid hown
      have H2 := Lib.hid hnext
      clear hown hnext
      obtain rfl | rfl | rfl | rfl : k = 0 ∨ k = 1 ∨ k = 2 ∨ k = 3 := by omega
      · replace hcell : wr.cell? ⟨N, 0, none⟩ = some (.int .u8 0) := hcell
        go_wp2
        exact ⟨⟨1, by omega, rfl, H2.out _ rfl⟩, by decide⟩
      · replace hcell : wr.cell? ⟨N, 1, none⟩ = some (.int .u8 0) := hcell
        go_wp2
        exact ⟨⟨2, by omega, rfl, H2.out _ rfl⟩, by decide⟩
      · replace hcell : wr.cell? ⟨N, 2, none⟩ = some (.int .u8 0) := hcell
        go_wp2
        exact ⟨⟨3, by omega, rfl, H2.out _ rfl⟩, by decide⟩
      · have h5 : c / 16777216 % 256 = c / 16777216 := by omega
        have h6 : (part c 3).set 3 (.int .u8 (c / 16777216)) = part c (3 + 1) := by simp [part, fourC, h5]
        replace hcell : wr.cell? ⟨N, 3, none⟩ = some (.int .u8 0) := hcell
        go_wp2
        exact ⟨⟨4, by omega, rfl, H2.out _ h6⟩, by decide⟩
    · obtain rfl : k = 4 := by omega
      go_wp2
      go_ret
      exact ⟨_, rfl, by rw [hN]; exact hown, by rw [hN]; exact hbel⟩
end Go.Proofs.YtkbehdjaegomgaaDoor.K
