/- The walk of ElectTells: it returns true, and writes nothing that was there. -/
import Derived.Test.YtkckinhbbnochaaW4
namespace Go.Proofs.Ytkckinhbbnochaa
open Go.ChangeShapes Go.WideShapes Go.ChangeAt Go.RowKit

set_option maxRecDepth 100000 in
set_option maxHeartbeats 4000000 in
theorem tells_walk (a0 a1 a2 a3 a4 a5 a6 a9 : Int) (v7 v8 : Value) (z7 z8 : List Int) (w : World) (l0 : -9223372036854775808 ≤ a0) (u0 : a0 ≤ 9223372036854775807) (l1 : -9223372036854775808 ≤ a1) (u1 : a1 ≤ 9223372036854775807)
    (l6 : -9223372036854775808 ≤ a6) (u6 : a6 ≤ 9223372036854775807) (l9 : 0 ≤ a9) (u9 : a9 ≤ 255) (h7 : K.IsNums .i64 w v7 z7) (h8 : K.IsNums .i64 w v8 z8) (m7 : z7.length ≤ maxLen) (m8 : z8.length ≤ maxLen) :
    Calls Try.prog 3 #[.int .i64 a0, .int .i64 a1, .int .i64 a2, .int .i64 a3, .int .i64 a4, .int .i64 a5, .int .i64 a6, v7, v8, .int .u8 a9] w fun e w' => e = .returned (.bool true) ∧ Below w.heap.size w w' := by
  unfold maxLen at m7 m8
  have hshape : ∃ p7 c7 p8 c8, v7 = .slice p7 z7.length c7 ∧ v8 = .slice p8 z8.length c8 := by
    obtain ⟨p7, c7, e7, _⟩ := h7
    obtain ⟨p8, c8, e8, _⟩ := h8
    exact ⟨p7, c7, p8, c8, e7, e8⟩
  obtain ⟨p7, c7, p8, c8, rfl, rfl⟩ := hshape
  have H7 := Lib.hid h7
  have H8 := Lib.hid h8
  clear h7 h8
  by_cases q : 10 < z7.length ∨ 20 < z8.length ∨ 1099511627776 < a6 ∨ a6 < -1099511627776
  · by_cases q1 : 10 < z7.length <;> by_cases q2 : 20 < z8.length <;> by_cases q3 : 1099511627776 < a6 <;> by_cases q4 : a6 < -1099511627776 <;> (first | (exfalso; omega) | (clear q; go_enter Try.func3, Try.ntmps3; go_wp2_with (go_at_call 8; refine (known_true _).mono ?_; rintro e v ⟨rfl, hb⟩); go_ret; exact ⟨rfl, hb⟩))
  have q1 : ¬ 10 < z7.length := by omega
  have q2 : ¬ 20 < z8.length := by omega
  have q3 : a6 ≤ 1099511627776 := by omega
  have q4 : -1099511627776 ≤ a6 := by omega
  clear q
  go_enter Try.func3, Try.ntmps3
  go_wp2_with (go_at_call 8; refine (known_true _).mono ?_; rintro e v ⟨rfl, hb⟩)
  go_loopw [21, 23] (fun u i wr => ∃ k : Nat, k ≤ z7.length ∧ i = .int .i64 k ∧ (∃ M : List Int, wr.ownsRow w.heap.size 3 1 u k (M.map (Value.int .i64))) ∧ Below w.heap.size w wr) (fun _ i _ => z7.length - (intOf i).toNat)
  case atStart => exact ⟨0, Nat.zero_le _, rfl, ⟨[], World.ownsRow_nil _ _ _ _⟩, hb⟩
  case round =>
    obtain ⟨k, hk, rfl, ⟨M, hown⟩, hbel⟩ := hrel
    by_cases hlt : k < z7.length
    · obtain ⟨p7', c7', e7, h0 | ⟨b, off, hp, hblk, hcell⟩⟩ := H7.out
      · omega
      injection e7 with e1 e2 e3
      rw [← e1] at hp
      clear e1 e2 e3
      subst hp
      have hc : wr.cell? ⟨b, off + k, none⟩ = some (.int .i64 (z7.getD k 0)) := by rw [hbel.cell hblk]; exact hcell k hlt
      obtain ⟨x, hx⟩ : ∃ x, z7.getD k 0 = x := ⟨_, rfl⟩
      rw [hx] at hc
      have hsz := hbel.size
      clear hcell hx
      go_wp2_with (at_builtin; refine K.wpList_app1 rfl _ _ 22 rfl w.heap.size 3 .i64 8 Try.underlying22 info_int (by omega) _ k _ rfl hown _ 1 rfl (by omega) hsz ?_; intro v' w' hown' hb')
      go_roundw
      case rel => exact ⟨k + 1, by omega, by go_num, ⟨M ++ [_], by rw [List.map_append]; exact hown'⟩, hbel.trans hb'⟩
      case measure => simp [intOf]; omega
    · obtain rfl : k = z7.length := by omega
      have hM : K.IsNums .i64 wr u21 M := K.IsNums.ofOwn hown
      have hML : M.length = z7.length := by have := hown.1; simpa using this
      have hsz := hbel.size
      have HM := Lib.hid hM
      clear hown hM
      obtain ⟨wm, rfl⟩ : ∃ wm : World, wm = wr := ⟨_, rfl⟩
      go_wp2
      go_loopw [22, 24] (fun u i wr => ∃ k : Nat, k ≤ z8.length ∧ i = .int .i64 k ∧ (∃ T : List Int, wr.ownsRow wm.heap.size 3 1 u k (T.map (Value.int .i64))) ∧ Below wm.heap.size wm wr) (fun _ i _ => z8.length - (intOf i).toNat)
      case atStart => exact ⟨0, Nat.zero_le _, rfl, ⟨[], World.ownsRow_nil _ _ _ _⟩, Below.refl _ _⟩
      case round =>
        obtain ⟨k, hk, rfl, ⟨T, hown⟩, hbel2⟩ := hrel
        by_cases hlt : k < z8.length
        · obtain ⟨p8', c8', e8, h0 | ⟨b, off, hp, hblk, hcell⟩⟩ := H8.out
          · omega
          injection e8 with e1 e2 e3
          rw [← e1] at hp
          clear e1 e2 e3
          subst hp
          have hc : wr.cell? ⟨b, off + k, none⟩ = some (.int .i64 (z8.getD k 0)) := by rw [hbel2.cell (by show b < wm.heap.size; omega), hbel.cell hblk]; exact hcell k hlt
          obtain ⟨x, hx⟩ : ∃ x, z8.getD k 0 = x := ⟨_, rfl⟩
          rw [hx] at hc
          have hsz2 := hbel2.size
          clear hcell hx
          go_wp2_with (at_builtin; refine K.wpList_app1 rfl _ _ 22 rfl wm.heap.size 3 .i64 8 Try.underlying22 info_int (by omega) _ k _ rfl hown _ 1 rfl (by omega) hsz2 ?_; intro v' w' hown' hb')
          go_roundw
          case rel => exact ⟨k + 1, by omega, by go_num, ⟨T ++ [_], by rw [List.map_append]; exact hown'⟩, hbel2.trans hb'⟩
          case measure => simp [intOf]; omega
        · obtain rfl : k = z8.length := by omega
          have hT : K.IsNums .i64 wr u22 T := K.IsNums.ofOwn hown
          have hTL : T.length = z8.length := by have := hown.1; simpa using this
          have hM2 : K.IsNums .i64 wr u21 M := HM.out.below hbel2 (Nat.le_refl _)
          have h72 : K.IsNums .i64 wr (.slice p7 z7.length c7) z7 := H7.out.below (hbel.trans (hbel2.mono hsz)) (Nat.le_refl _)
          have h82 : K.IsNums .i64 wr (.slice p8 z8.length c8) z8 := H8.out.below (hbel.trans (hbel2.mono hsz)) (Nat.le_refl _)
          have hb9 := (hbel.trans (hbel2.mono hsz))
          have HT := Lib.hid hT
          have HM2 := Lib.hid hM2
          have H72 := Lib.hid h72
          have H82 := Lib.hid h82
          clear hown hT hM2 h72 h82
          go_wp2_with (first | (go_at_call 9; ((with_reducible refine (timeout_any _ _ _ (by omega) (by omega) (by omega) (by omega)).mono ?_); rintro e v2 ⟨rfl, rfl⟩)) | (go_at_call 10; ((with_reducible refine (ref_timeout_any _ _ _ (by omega) (by omega) (by omega) (by omega)).mono ?_); rintro e v2 ⟨rfl, rfl⟩)) | (go_at_call 11; ((with_reducible refine (newer_any _ _ _ _ _).mono ?_); rintro e w' ⟨rfl, rfl⟩)) | (go_at_call 12; ((with_reducible refine (ref_newer_any _ _ _ _ _).mono ?_); rintro e w' ⟨rfl, rfl⟩)))
          refine (commit_any a1 a6 z7 z8 _ _ _ (toInts H72.out) (toInts H82.out) (by omega) (by omega) (by omega) (by omega)).mono ?_
          rintro e wc ⟨rfl, hbc⟩
          have H73 := Lib.hid (H72.out.below hbc (Nat.le_refl _))
          have H83 := Lib.hid (H82.out.below hbc (Nat.le_refl _))
          have HT3 := Lib.hid (HT.out.below hbc (Nat.le_refl _))
          have HM3 := Lib.hid (HM2.out.below hbc (Nat.le_refl _))
          have hb10 := hb9.trans (hbc.mono hb9.size)
          clear hbc hb9
          go_wp2_with (go_at_call 14; ((with_reducible refine (ref_commit_any _ _ z7 z8 _ _ _ H73.out H83.out (by omega) (by omega) (by omega) (by omega)).mono ?_); rintro e v2 ⟨rfl, rfl⟩))
          refine (commit_any _ a6 M T _ _ _ (toInts HM3.out) (toInts HT3.out) (by omega) (by omega) (by omega) (by omega)).mono ?_
          rintro e wd ⟨rfl, hbd⟩
          have HT4 := Lib.hid (HT3.out.below hbd (Nat.le_refl _))
          have HM4 := Lib.hid (HM3.out.below hbd (Nat.le_refl _))
          have hb11 := hb10.trans (hbd.mono hb10.size)
          clear hbd hb10
          go_wp2_with (go_at_call 14; ((with_reducible refine (ref_commit_any _ _ M T _ _ _ HM4.out HT4.out (by omega) (by omega) (by omega) (by omega)).mono ?_); rintro e v2 ⟨rfl, rfl⟩))
          go_ret
          exact ⟨rfl, hb11⟩

end Go.Proofs.Ytkckinhbbnochaa
