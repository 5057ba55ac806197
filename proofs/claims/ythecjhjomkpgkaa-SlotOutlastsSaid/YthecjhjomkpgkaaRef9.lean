/- mementoref3.Set on a disk that has power for both. -/
import Derived.Test.YthecjhjomkpgkaaRef8
namespace Go.Proofs.Ythecjhjomkpgkaa.K
open Go.ChangeShapes Go.WideShapes Go.ChangeAt Go.RowKit
set_option linter.unusedVariables false

set_option maxRecDepth 100000 in
set_option maxHeartbeats 1000000 in
theorem rset_live {F : Nat → Prop} {w : World} {B : Nat} {secs : List (List Int)} {wl : List (Int × List Int)} {l : Int} (h : RDisk F w B secs wl l) (c g A q : Nat) (a : Int) (hA : (a = (A : Int)) ∨ (a < 0 ∧ A = 0)) (hA1 : A ≤ 9223372036854775807) (hc : c < 18446744073709551616) (hq : c % 2 = q) (hq1 : q < secs.length) (hl : (l != 0) = true) (hl2 : (less l != 0) = true) (hf : wl.length < 1000000) :
    Calls Try.prog 18 #[.pointer (some ⟨B, 0, none⟩), .agg #[.int .u64 c, .int .u64 g, .int .i64 a]] w (RFlushPost F w B (settleN secs (wl ++ [((q : Int), slotB c g A)]) (wl ++ [((q : Int), slotB c g A)]).length) (less (less l))) := by
  have htm : (c : Int).tmod 2 = (q : Int) := by rw [Int.tmod_eq_emod_of_nonneg (by omega)]; omega
  have hwq : IntKind.i64.wrap (q : Int) = (q : Int) := IntWalk.i64_in _ (by omega)
  have hq0 : (q : Int) < 2 := by omega
  have D1 := Lib.hid (h.alloc (.cells #[.int .u64 c, .int .u64 g, .int .i64 a] 31))
  have hx1 := Blk.alloc w 31 #[.int .u64 c, .int .u64 g, .int .i64 a]
  have hb1 : Below w.heap.size w (w.alloc (.cells #[.int .u64 c, .int .u64 g, .int .i64 a] 31)) := (Below.refl _ _).alloc (Nat.le_refl _) _
  have hBlt : B < w.heap.size := by obtain ⟨vs, vl, hh, -⟩ := h.body; exact hh.lt
  have X1 := Lib.hid hx1
  have B1 := Lib.hid hb1
  have HQ := Lib.hid hq
  have HL1 := Lib.hid hl
  have HL2 := Lib.hid hl2
  have HF := Lib.hid hf
  clear hx1 hb1 h hq hl hl2 hf
  go_enter Try.func18, Try.ntmps18
  go_wp2_with fail
  obtain ⟨w2, hw2⟩ : ∃ x, w.alloc (.cells #[.int .u64 c, .int .u64 g, .int .i64 a] 31) = x := ⟨_, rfl⟩
  rw [hw2] at D1 X1 B1 ⊢
  have D2 : Hid (RDisk F w2.drew B secs wl l) := Lib.hid (D1.out.later (Below.refl _ w2).drew)
  have BL2 : Hid (B < w2.heap.size) := Lib.hid (Nat.lt_of_lt_of_le hBlt B1.out.size)
  have hx : ∀ W, Keep (fun _ => False) w2.drew W → Blk W w.heap.size 31 [.int .u64 c, .int .u64 g, .int .i64 a] := fun W hW => (X1.out.keep (Keep.drew (fun _ => False) _) (fun h => h)).keep hW (fun h => h)
  have HX0 := Lib.hid (fun W hW => (hx W hW).cell 0)
  have HX1 := Lib.hid (fun W hW => (hx W hW).cell 1)
  have HX2 := Lib.hid (fun W hW => (hx W hW).cell 2)
  clear hx hw2
  refine regionE_begin 7 (fun W => Keep (fun _ => False) w2.drew W) (by kernel_rfl) ?_
  refine stepE_any 0 (some 6) (v := ?va0) (fun _ => Keep.refl _ _) rfl (by rfl) (by kernel_rfl) (by kernel_rfl) (by kernel_rfl) (by decide) (fun _ _ _ h => h) (by rfl) ?ya0 ?na0
  case ya0 => intro W; go_simp; try with_reducible rfl
  try simp only [Act.put, List.setIfInBounds_toArray, List.set_cons_zero, List.set_cons_succ]
  refine stepE_any 1 (some 7) (v := ?va1) (fun _ => Keep.refl _ _) rfl (by rfl) (by kernel_rfl) (by kernel_rfl) (by kernel_rfl) (by decide) (fun _ _ _ h => h) (by rfl) ?ya1 ?na1
  case ya1 => intro W; go_simp; try with_reducible rfl
  try simp only [Act.put, List.setIfInBounds_toArray, List.set_cons_zero, List.set_cons_succ]
  refine stepE_read 2 14 (some 8) (v := ?va2) (Keep.refl _ _) rfl (by rfl) (by kernel_rfl) (by kernel_rfl) (by kernel_rfl) (by kernel_rfl) (by kernel_rfl) (fun _ _ _ h => h) (by rfl) ?ya2 ?na2
  case ya2 => intro W hW; have q0 := HX0.out W hW; go_simp; try with_reducible rfl
  try simp only [Act.put, List.setIfInBounds_toArray, List.set_cons_zero, List.set_cons_succ]
  refine stepE_any 3 (some 9) (v := ?va3) (fun _ => Keep.refl _ _) rfl (by rfl) (by kernel_rfl) (by kernel_rfl) (by kernel_rfl) (by decide) (fun _ _ _ h => h) (by rfl) ?ya3 ?na3
  case ya3 => intro W; go_simp; try with_reducible rfl
  try simp only [Act.put, List.setIfInBounds_toArray, List.set_cons_zero, List.set_cons_succ]
  refine stepE_any 4 (some 10) (v := ?va4) (fun _ => Keep.refl _ _) rfl (by rfl) (by kernel_rfl) (by kernel_rfl) (by kernel_rfl) (by decide) (fun _ _ _ h => h) (by rfl) ?ya4 ?na4
  case ya4 => intro W; go_simp; try with_reducible rfl
  try simp only [Act.put, List.setIfInBounds_toArray, List.set_cons_zero, List.set_cons_succ]
  refine stepE_read 5 14 (some 11) (v := ?va5) (Keep.refl _ _) rfl (by rfl) (by kernel_rfl) (by kernel_rfl) (by kernel_rfl) (by kernel_rfl) (by kernel_rfl) (fun _ _ _ h => h) (by rfl) ?ya5 ?na5
  case ya5 => intro W hW; have q0 := HX0.out W hW; have q1 := HX1.out W hW; have q2 := HX2.out W hW; go_simp; try with_reducible rfl
  try simp only [Act.put, List.setIfInBounds_toArray, List.set_cons_zero, List.set_cons_succ]
  -- 6: call:11 -> 12
  refine stepE_only 6 rfl (by kernel_rfl) (by rfl) (fun K' hK => ?_)
  go_simp
  refine (pput_any _ c g A a hA hA1).mono ?_
  rintro e w4 ⟨u4, rfl, ho4, hb4⟩
  have hk4 : Keep (fun _ => False) w2.drew w4 := Keep.ofBelow hb4
  refine hK _ _ hk4 ?_
  have hd4 := D2.out.later hb4
  have hn4 : NumsOff (fun k => k = B) w4 u4 (slotB c g A) := NumsOff.ofOwn (by exact ho4) (fun j hj1 hj2 h => by have h' : j = B := h; have h9 : w2.drew.heap.size = w2.heap.size := rfl; have := BL2.out; omega)
  have D4 := Lib.hid hd4
  have N4 := Lib.hid hn4
  have K4 := Lib.hid hb4
  clear ho4 hb4 hk4 hd4 hn4
  clear hK K'
  try simp only [Act.put, List.setIfInBounds_toArray, List.set_cons_zero, List.set_cons_succ]
  -- 7: call:55 -> 13
  refine stepE_end 7 rfl (by kernel_rfl) (by rfl) (by rfl) (fun K' hK => ?_)
  go_simp
  refine (rwrite_live D4.out q hq1 u4 (slotB c g A) N4.out (Nat.le_of_eq (slotB_len c g A)) (slotB_sec c g A).2 HL1.out HF.out).mono ?_
  rintro e w5 ⟨rfl, hd5, hk5⟩
  refine hK _ _ ?_
  clear hK K'
  try simp only [Act.put, List.setIfInBounds_toArray, List.set_cons_zero, List.set_cons_succ]
  refine stepE_any 8 (some 5) (v := ?va8) (fun h => (Bool.false_ne_true (h.symm.trans (by rfl))).elim) rfl (by rfl) (by kernel_rfl) (by kernel_rfl) (by kernel_rfl) (by decide) (fun _ _ _ h => h) (by rfl) ?ya8 ?na8
  case ya8 => intro W; go_simp; try with_reducible rfl
  try simp only [Act.put, List.setIfInBounds_toArray, List.set_cons_zero, List.set_cons_succ]
  refine wpAnyE_done (by kernel_rfl) ?_ _
  rw [pad_slot] at hd5
  have D5 := Lib.hid hd5
  have K5 := Lib.hid hk5
  have K14 := Lib.hid ((Keep.ofBelow (bad := fun k => k = B) B1.out).trans ((Keep.drew (fun k => k = B) w2).trans (Keep.ofBelow (bad := fun k => k = B) K4.out)))
  clear hd5 hk5 D4 N4 K4 D2 D1 X1 B1 HX0 HX1 HX2
  go_wp2_with fail
  refine (rflush_live D5.out (by omega) HL2.out).mono ?_
  rintro e w6 ⟨rfl, hd6, hk6⟩
  have D6 := Lib.hid hd6
  have K6 := Lib.hid hk6
  clear hd6 hk6
  go_wp2
  go_ret
  exact ⟨rfl, D6.out, (K14.out.trans K5.out).trans K6.out⟩
end Go.Proofs.Ythecjhjomkpgkaa.K
