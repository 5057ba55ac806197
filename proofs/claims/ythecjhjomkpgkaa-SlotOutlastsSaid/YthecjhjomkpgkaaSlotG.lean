/- slot.Set, whatever power is left. -/
import Derived.Test.YthecjhjomkpgkaaSlot4
namespace Go.Proofs.Ythecjhjomkpgkaa.K
open Go.ChangeShapes Go.WideShapes Go.ChangeAt Go.RowKit
set_option linter.unusedVariables false

set_option maxRecDepth 100000 in
set_option maxHeartbeats 1000000 in
theorem set_gen {w : World} {B S : Nat} {secs : List (List Int)} {l : Int} (h : IsDisk w B S (.slice none 0 0) secs [] l) (c g A q : Nat) (a : Int) (hA : (a = (A : Int)) ∨ (a < 0 ∧ A = 0)) (hA1 : A ≤ 9223372036854775807) (hc : c < 18446744073709551616) (hq : c % 2 = q) (hq1 : q < secs.length) (hl : (l != 0) = true) (hl2 : (less l != 0) = true) :
    Calls Try.prog 17 #[.pointer (some ⟨B, 0, none⟩), .agg #[.int .u64 c, .int .u64 g, .int .i64 a]] w (fun e w' => e = .returned (.int .i64 0) ∧ IsDisk w' B S (.slice none 0 0) (secs.set q (slotB c g A)) [] (less (less l)) ∧ Keep (Mine B S (.slice none 0 0)) w w') := by
  have htm : (c : Int).tmod 2 = (q : Int) := by rw [Int.tmod_eq_emod_of_nonneg (by omega)]; omega
  have hwq : IntKind.i64.wrap (q : Int) = (q : Int) := IntWalk.i64_in _ (by omega)
  have hq0 : (q : Int) < 2 := by omega
  have D1 := Lib.hid (h.alloc (.cells #[.int .u64 c, .int .u64 g, .int .i64 a] 24))
  have hx1 := Blk.alloc w 24 #[.int .u64 c, .int .u64 g, .int .i64 a]
  have hb1 : Below w.heap.size w (w.alloc (.cells #[.int .u64 c, .int .u64 g, .int .i64 a] 24)) := (Below.refl _ _).alloc (Nat.le_refl _) _
  have X1 := Lib.hid hx1
  have B1 := Lib.hid hb1
  have HH := Lib.hid h
  have HQ := Lib.hid hq
  have HL1 := Lib.hid hl
  have HL2 := Lib.hid hl2
  clear hx1 hb1 h hq hl hl2
  go_enter Try.func17, Try.ntmps17
  go_wp2_with fail
  obtain ⟨w2, hw2⟩ : ∃ x, w.alloc (.cells #[.int .u64 c, .int .u64 g, .int .i64 a] 24) = x := ⟨_, rfl⟩
  rw [hw2] at D1 X1 B1 ⊢
  have D2 : Hid (IsDisk w2.drew B S (.slice none 0 0) secs [] l) := Lib.hid (D1.out.keep (Keep.drew (fun _ => False) _) (fun _ _ h => h))
  have hx : ∀ W, Keep (fun _ => False) w2.drew W → Blk W w.heap.size 24 [.int .u64 c, .int .u64 g, .int .i64 a] := fun W hW => (X1.out.keep (Keep.drew (fun _ => False) _) (fun h => h)).keep hW (fun h => h)
  have HX0 := Lib.hid (fun W hW => (hx W hW).cell 0)
  have HX1 := Lib.hid (fun W hW => (hx W hW).cell 1)
  have HX2 := Lib.hid (fun W hW => (hx W hW).cell 2)
  clear hx hw2
  refine regionE_begin 7 (fun W => Keep (fun _ => False) w2.drew W) (by kernel_rfl) ?_
  refine stepE_any 0 (some 8) (v := ?va0) (fun _ => Keep.refl _ _) rfl (by rfl) (by kernel_rfl) (by kernel_rfl) (by kernel_rfl) (by decide) (fun _ _ _ h => h) (by rfl) ?ya0 ?na0
  case ya0 => intro W; go_simp; try with_reducible rfl
  try simp only [Act.put, List.setIfInBounds_toArray, List.set_cons_zero, List.set_cons_succ]
  refine stepE_any 1 (some 9) (v := ?va1) (fun _ => Keep.refl _ _) rfl (by rfl) (by kernel_rfl) (by kernel_rfl) (by kernel_rfl) (by decide) (fun _ _ _ h => h) (by rfl) ?ya1 ?na1
  case ya1 => intro W; go_simp; try with_reducible rfl
  try simp only [Act.put, List.setIfInBounds_toArray, List.set_cons_zero, List.set_cons_succ]
  refine stepE_read 2 14 (some 10) (v := ?va2) (Keep.refl _ _) rfl (by rfl) (by kernel_rfl) (by kernel_rfl) (by kernel_rfl) (by kernel_rfl) (by kernel_rfl) (fun _ _ _ h => h) (by rfl) ?ya2 ?na2
  case ya2 => intro W hW; have q0 := HX0.out W hW; go_simp; try with_reducible rfl
  try simp only [Act.put, List.setIfInBounds_toArray, List.set_cons_zero, List.set_cons_succ]
  refine stepE_any 3 (some 11) (v := ?va3) (fun _ => Keep.refl _ _) rfl (by rfl) (by kernel_rfl) (by kernel_rfl) (by kernel_rfl) (by decide) (fun _ _ _ h => h) (by rfl) ?ya3 ?na3
  case ya3 => intro W; go_simp; try with_reducible rfl
  try simp only [Act.put, List.setIfInBounds_toArray, List.set_cons_zero, List.set_cons_succ]
  refine stepE_any 4 (some 12) (v := ?va4) (fun _ => Keep.refl _ _) rfl (by rfl) (by kernel_rfl) (by kernel_rfl) (by kernel_rfl) (by decide) (fun _ _ _ h => h) (by rfl) ?ya4 ?na4
  case ya4 => intro W; go_simp; try with_reducible rfl
  try simp only [Act.put, List.setIfInBounds_toArray, List.set_cons_zero, List.set_cons_succ]
  refine stepE_read 5 14 (some 13) (v := ?va5) (Keep.refl _ _) rfl (by rfl) (by kernel_rfl) (by kernel_rfl) (by kernel_rfl) (by kernel_rfl) (by kernel_rfl) (fun _ _ _ h => h) (by rfl) ?ya5 ?na5
  case ya5 => intro W hW; have q0 := HX0.out W hW; have q1 := HX1.out W hW; have q2 := HX2.out W hW; go_simp; try with_reducible rfl
  try simp only [Act.put, List.setIfInBounds_toArray, List.set_cons_zero, List.set_cons_succ]
  -- 6: call:10 -> 14
  refine stepE_only 6 rfl (by kernel_rfl) (by rfl) (fun K' hK => ?_)
  go_simp
  refine (sput_at _ c g A a hA hA1).mono ?_
  rintro e w4 ⟨rfl, hg4, hb4⟩
  have hk4 : Keep (fun _ => False) w2.drew w4 := Keep.ofBelow hb4
  refine hK _ _ hk4 ?_
  obtain ⟨G, hG⟩ : ∃ G, w2.drew.heap.size + 1 = G := ⟨_, rfl⟩
  rw [hG] at hg4 ⊢
  have hd4 := D2.out.later hb4
  have hgm : ¬ Mine B S (.slice none 0 0) G := fun hm => by have := D2.out.mine_lt _ hm; omega
  have hn4 : NumsOff (Mine B S (.slice none 0 0)) w4 (.slice (some ⟨G, 0, none⟩) 64 64) (slotB c g A) := ⟨_, 64, by rw [slotB_len], .inr ⟨G, 0, rfl, hg4.lt, hgm, fun j hj => by rw [Nat.zero_add, hg4.cell]; exact B8_get _ j hj⟩⟩
  have D4 := Lib.hid hd4
  have N4 := Lib.hid hn4
  have K4 := Lib.hid hb4
  clear hg4 hb4 hk4 hd4 hn4 hgm hG
  clear hK K'
  try simp only [Act.put, List.setIfInBounds_toArray, List.set_cons_zero, List.set_cons_succ]
  -- 7: call:53 -> 15
  refine stepE_end 7 rfl (by kernel_rfl) (by rfl) (by rfl) (fun K' hK => ?_)
  go_simp
  refine (write_live D4.out q hq1 _ (slotB c g A) N4.out (Nat.le_of_eq (slotB_len c g A)) (slotB_sec c g A).2 HL1.out (by simp)).mono ?_
  rintro e w5 ⟨rfl, vu5, hd5, hk5, hv5⟩
  refine hK _ _ ?_
  clear hK K'
  try simp only [Act.put, List.setIfInBounds_toArray, List.set_cons_zero, List.set_cons_succ]
  refine stepE_any 8 (some 5) (v := ?va8) (fun h => (Bool.false_ne_true (h.symm.trans (by rfl))).elim) rfl (by rfl) (by kernel_rfl) (by kernel_rfl) (by kernel_rfl) (by decide) (fun _ _ _ h => h) (by rfl) ?ya8 ?na8
  case ya8 => intro W; go_simp; try with_reducible rfl
  try simp only [Act.put, List.setIfInBounds_toArray, List.set_cons_zero, List.set_cons_succ]
  refine wpAnyE_done (by kernel_rfl) ?_ _
  rw [pad_slot] at hd5
  have D5 := Lib.hid hd5
  have K5 := Lib.hid hk5
  have K14 := Lib.hid ((Keep.ofBelow (bad := Mine B S (.slice none 0 0)) B1.out).trans ((Keep.drew (Mine B S (.slice none 0 0)) w2).trans (Keep.ofBelow (bad := Mine B S (.slice none 0 0)) K4.out)))
  clear hd5 hk5 hv5 D4 N4 K4 D2 D1 X1 B1 HX0 HX1 HX2
  go_wp2_with fail
  refine (flush_live D5.out HL2.out).mono ?_
  rintro e w6 ⟨rfl, hd6, hk6⟩
  have D6 := Lib.hid hd6
  have K6 := Lib.hid hk6
  clear hd6 hk6
  go_wp2
  go_ret
  exact ⟨rfl, D6.out, (K14.out.trans K5.out).trans ⟨K6.out.1, K6.out.2.1, K6.out.2.2.1, K6.out.2.2.2.1, fun k hk hn => K6.out.2.2.2.2 k hk (fun e => hn (.inl e))⟩⟩

set_option maxRecDepth 100000 in
set_option maxHeartbeats 1000000 in
theorem set_dead1 {w : World} {B S : Nat} {secs : List (List Int)} (h : IsDisk w B S (.slice none 0 0) secs [] 1) (c g A q : Nat) (a : Int) (hA : (a = (A : Int)) ∨ (a < 0 ∧ A = 0)) (hA1 : A ≤ 9223372036854775807) (hc : c < 18446744073709551616) (hq : c % 2 = q) (hq1 : q < secs.length) :
    Calls Try.prog 17 #[.pointer (some ⟨B, 0, none⟩), .agg #[.int .u64 c, .int .u64 g, .int .i64 a]] w (fun e w' => e = .returned (.int .i64 26) ∧ ∃ vu', IsDisk w' B S vu' (secs.set q (slotB c g A)) [⟨q, secs.getD q [], slotB c g A⟩] 0 ∧ Keep (Mine B S (.slice none 0 0)) w w' ∧ ∀ k, vu'.ownBlock = some k → w.heap.size ≤ k) := by
  have htm : (c : Int).tmod 2 = (q : Int) := by rw [Int.tmod_eq_emod_of_nonneg (by omega)]; omega
  have hwq : IntKind.i64.wrap (q : Int) = (q : Int) := IntWalk.i64_in _ (by omega)
  have hq0 : (q : Int) < 2 := by omega
  have D1 := Lib.hid (h.alloc (.cells #[.int .u64 c, .int .u64 g, .int .i64 a] 24))
  have hx1 := Blk.alloc w 24 #[.int .u64 c, .int .u64 g, .int .i64 a]
  have hb1 : Below w.heap.size w (w.alloc (.cells #[.int .u64 c, .int .u64 g, .int .i64 a] 24)) := (Below.refl _ _).alloc (Nat.le_refl _) _
  have X1 := Lib.hid hx1
  have B1 := Lib.hid hb1
  have HH := Lib.hid h
  have HQ := Lib.hid hq
  clear hx1 hb1 h hq
  go_enter Try.func17, Try.ntmps17
  go_wp2_with fail
  obtain ⟨w2, hw2⟩ : ∃ x, w.alloc (.cells #[.int .u64 c, .int .u64 g, .int .i64 a] 24) = x := ⟨_, rfl⟩
  rw [hw2] at D1 X1 B1 ⊢
  have D2 : Hid (IsDisk w2.drew B S (.slice none 0 0) secs [] 1) := Lib.hid (D1.out.keep (Keep.drew (fun _ => False) _) (fun _ _ h => h))
  have hx : ∀ W, Keep (fun _ => False) w2.drew W → Blk W w.heap.size 24 [.int .u64 c, .int .u64 g, .int .i64 a] := fun W hW => (X1.out.keep (Keep.drew (fun _ => False) _) (fun h => h)).keep hW (fun h => h)
  have HX0 := Lib.hid (fun W hW => (hx W hW).cell 0)
  have HX1 := Lib.hid (fun W hW => (hx W hW).cell 1)
  have HX2 := Lib.hid (fun W hW => (hx W hW).cell 2)
  clear hx hw2
  refine regionE_begin 7 (fun W => Keep (fun _ => False) w2.drew W) (by kernel_rfl) ?_
  refine stepE_any 0 (some 8) (v := ?va0) (fun _ => Keep.refl _ _) rfl (by rfl) (by kernel_rfl) (by kernel_rfl) (by kernel_rfl) (by decide) (fun _ _ _ h => h) (by rfl) ?ya0 ?na0
  case ya0 => intro W; go_simp; try with_reducible rfl
  try simp only [Act.put, List.setIfInBounds_toArray, List.set_cons_zero, List.set_cons_succ]
  refine stepE_any 1 (some 9) (v := ?va1) (fun _ => Keep.refl _ _) rfl (by rfl) (by kernel_rfl) (by kernel_rfl) (by kernel_rfl) (by decide) (fun _ _ _ h => h) (by rfl) ?ya1 ?na1
  case ya1 => intro W; go_simp; try with_reducible rfl
  try simp only [Act.put, List.setIfInBounds_toArray, List.set_cons_zero, List.set_cons_succ]
  refine stepE_read 2 14 (some 10) (v := ?va2) (Keep.refl _ _) rfl (by rfl) (by kernel_rfl) (by kernel_rfl) (by kernel_rfl) (by kernel_rfl) (by kernel_rfl) (fun _ _ _ h => h) (by rfl) ?ya2 ?na2
  case ya2 => intro W hW; have q0 := HX0.out W hW; go_simp; try with_reducible rfl
  try simp only [Act.put, List.setIfInBounds_toArray, List.set_cons_zero, List.set_cons_succ]
  refine stepE_any 3 (some 11) (v := ?va3) (fun _ => Keep.refl _ _) rfl (by rfl) (by kernel_rfl) (by kernel_rfl) (by kernel_rfl) (by decide) (fun _ _ _ h => h) (by rfl) ?ya3 ?na3
  case ya3 => intro W; go_simp; try with_reducible rfl
  try simp only [Act.put, List.setIfInBounds_toArray, List.set_cons_zero, List.set_cons_succ]
  refine stepE_any 4 (some 12) (v := ?va4) (fun _ => Keep.refl _ _) rfl (by rfl) (by kernel_rfl) (by kernel_rfl) (by kernel_rfl) (by decide) (fun _ _ _ h => h) (by rfl) ?ya4 ?na4
  case ya4 => intro W; go_simp; try with_reducible rfl
  try simp only [Act.put, List.setIfInBounds_toArray, List.set_cons_zero, List.set_cons_succ]
  refine stepE_read 5 14 (some 13) (v := ?va5) (Keep.refl _ _) rfl (by rfl) (by kernel_rfl) (by kernel_rfl) (by kernel_rfl) (by kernel_rfl) (by kernel_rfl) (fun _ _ _ h => h) (by rfl) ?ya5 ?na5
  case ya5 => intro W hW; have q0 := HX0.out W hW; have q1 := HX1.out W hW; have q2 := HX2.out W hW; go_simp; try with_reducible rfl
  try simp only [Act.put, List.setIfInBounds_toArray, List.set_cons_zero, List.set_cons_succ]
  -- 6: call:10 -> 14
  refine stepE_only 6 rfl (by kernel_rfl) (by rfl) (fun K' hK => ?_)
  go_simp
  refine (sput_at _ c g A a hA hA1).mono ?_
  rintro e w4 ⟨rfl, hg4, hb4⟩
  have hk4 : Keep (fun _ => False) w2.drew w4 := Keep.ofBelow hb4
  refine hK _ _ hk4 ?_
  obtain ⟨G, hG⟩ : ∃ G, w2.drew.heap.size + 1 = G := ⟨_, rfl⟩
  rw [hG] at hg4 ⊢
  have hd4 := D2.out.later hb4
  have hgm : ¬ Mine B S (.slice none 0 0) G := fun hm => by have := D2.out.mine_lt _ hm; omega
  have hn4 : NumsOff (Mine B S (.slice none 0 0)) w4 (.slice (some ⟨G, 0, none⟩) 64 64) (slotB c g A) := ⟨_, 64, by rw [slotB_len], .inr ⟨G, 0, rfl, hg4.lt, hgm, fun j hj => by rw [Nat.zero_add, hg4.cell]; exact B8_get _ j hj⟩⟩
  have D4 := Lib.hid hd4
  have N4 := Lib.hid hn4
  have K4 := Lib.hid hb4
  clear hg4 hb4 hk4 hd4 hn4 hgm hG
  clear hK K'
  try simp only [Act.put, List.setIfInBounds_toArray, List.set_cons_zero, List.set_cons_succ]
  -- 7: call:53 -> 15
  refine stepE_end 7 rfl (by kernel_rfl) (by rfl) (by rfl) (fun K' hK => ?_)
  go_simp
  refine (write_live D4.out q hq1 _ (slotB c g A) N4.out (Nat.le_of_eq (slotB_len c g A)) (slotB_sec c g A).2 rfl (by simp)).mono ?_
  rintro e w5 ⟨rfl, vu5, hd5, hk5, hv5⟩
  refine hK _ _ ?_
  clear hK K'
  try simp only [Act.put, List.setIfInBounds_toArray, List.set_cons_zero, List.set_cons_succ]
  refine stepE_any 8 (some 5) (v := ?va8) (fun h => (Bool.false_ne_true (h.symm.trans (by rfl))).elim) rfl (by rfl) (by kernel_rfl) (by kernel_rfl) (by kernel_rfl) (by decide) (fun _ _ _ h => h) (by rfl) ?ya8 ?na8
  case ya8 => intro W; go_simp; try with_reducible rfl
  try simp only [Act.put, List.setIfInBounds_toArray, List.set_cons_zero, List.set_cons_succ]
  refine wpAnyE_done (by kernel_rfl) ?_ _
  rw [pad_slot, show less 1 = 0 from rfl, List.nil_append] at hd5
  have D5 := Lib.hid hd5
  have K5 := Lib.hid hk5
  have K14 := Lib.hid ((Keep.ofBelow (bad := Mine B S (.slice none 0 0)) B1.out).trans ((Keep.drew (Mine B S (.slice none 0 0)) w2).trans (Keep.ofBelow (bad := Mine B S (.slice none 0 0)) K4.out)))
  have V5 : Hid (∀ k, vu5.ownBlock = some k → w.heap.size ≤ k) := Lib.hid (fun k hk => by
    rcases hv5 with e | e
    · rw [e] at hk; cases hk
    · exact Nat.le_trans K14.out.size (e k hk))
  clear hd5 hk5 hv5 D4 N4 K4 D2 D1 X1 B1 HX0 HX1 HX2
  go_wp2_with fail
  refine (flush_dead D5.out rfl).mono ?_
  rintro e w6 ⟨rfl, hd6, hk6⟩
  have D6 := Lib.hid hd6
  have K6 : Hid (Keep (Mine B S (.slice none 0 0)) w5 w6) := Lib.hid ⟨hk6.1, hk6.2.1, hk6.2.2.1, hk6.2.2.2.1, fun k hk hn => hk6.2.2.2.2 k hk (fun e => hn (.inl e))⟩
  clear hd6 hk6
  go_wp2
  go_ret
  exact ⟨rfl, vu5, D6.out, (K14.out.trans K5.out).trans K6.out, V5.out⟩

set_option maxRecDepth 100000 in
set_option maxHeartbeats 1000000 in
theorem set_dead0 {w : World} {B S : Nat} {secs : List (List Int)} (h : IsDisk w B S (.slice none 0 0) secs [] 0) (c g A q : Nat) (a : Int) (hA : (a = (A : Int)) ∨ (a < 0 ∧ A = 0)) (hA1 : A ≤ 9223372036854775807) (hc : c < 18446744073709551616) (hq : c % 2 = q) (hq1 : q < secs.length) :
    Calls Try.prog 17 #[.pointer (some ⟨B, 0, none⟩), .agg #[.int .u64 c, .int .u64 g, .int .i64 a]] w (fun e w' => e = .returned (.int .i64 26) ∧ IsDisk w' B S (.slice none 0 0) secs [] 0 ∧ Keep (Mine B S (.slice none 0 0)) w w') := by
  have htm : (c : Int).tmod 2 = (q : Int) := by rw [Int.tmod_eq_emod_of_nonneg (by omega)]; omega
  have hwq : IntKind.i64.wrap (q : Int) = (q : Int) := IntWalk.i64_in _ (by omega)
  have hq0 : (q : Int) < 2 := by omega
  have D1 := Lib.hid (h.alloc (.cells #[.int .u64 c, .int .u64 g, .int .i64 a] 24))
  have hx1 := Blk.alloc w 24 #[.int .u64 c, .int .u64 g, .int .i64 a]
  have hb1 : Below w.heap.size w (w.alloc (.cells #[.int .u64 c, .int .u64 g, .int .i64 a] 24)) := (Below.refl _ _).alloc (Nat.le_refl _) _
  have X1 := Lib.hid hx1
  have B1 := Lib.hid hb1
  have HH := Lib.hid h
  have HQ := Lib.hid hq
  clear hx1 hb1 h hq
  go_enter Try.func17, Try.ntmps17
  go_wp2_with fail
  obtain ⟨w2, hw2⟩ : ∃ x, w.alloc (.cells #[.int .u64 c, .int .u64 g, .int .i64 a] 24) = x := ⟨_, rfl⟩
  rw [hw2] at D1 X1 B1 ⊢
  have D2 : Hid (IsDisk w2.drew B S (.slice none 0 0) secs [] 0) := Lib.hid (D1.out.keep (Keep.drew (fun _ => False) _) (fun _ _ h => h))
  have hx : ∀ W, Keep (fun _ => False) w2.drew W → Blk W w.heap.size 24 [.int .u64 c, .int .u64 g, .int .i64 a] := fun W hW => (X1.out.keep (Keep.drew (fun _ => False) _) (fun h => h)).keep hW (fun h => h)
  have HX0 := Lib.hid (fun W hW => (hx W hW).cell 0)
  have HX1 := Lib.hid (fun W hW => (hx W hW).cell 1)
  have HX2 := Lib.hid (fun W hW => (hx W hW).cell 2)
  clear hx hw2
  refine regionE_begin 7 (fun W => Keep (fun _ => False) w2.drew W) (by kernel_rfl) ?_
  refine stepE_any 0 (some 8) (v := ?va0) (fun _ => Keep.refl _ _) rfl (by rfl) (by kernel_rfl) (by kernel_rfl) (by kernel_rfl) (by decide) (fun _ _ _ h => h) (by rfl) ?ya0 ?na0
  case ya0 => intro W; go_simp; try with_reducible rfl
  try simp only [Act.put, List.setIfInBounds_toArray, List.set_cons_zero, List.set_cons_succ]
  refine stepE_any 1 (some 9) (v := ?va1) (fun _ => Keep.refl _ _) rfl (by rfl) (by kernel_rfl) (by kernel_rfl) (by kernel_rfl) (by decide) (fun _ _ _ h => h) (by rfl) ?ya1 ?na1
  case ya1 => intro W; go_simp; try with_reducible rfl
  try simp only [Act.put, List.setIfInBounds_toArray, List.set_cons_zero, List.set_cons_succ]
  refine stepE_read 2 14 (some 10) (v := ?va2) (Keep.refl _ _) rfl (by rfl) (by kernel_rfl) (by kernel_rfl) (by kernel_rfl) (by kernel_rfl) (by kernel_rfl) (fun _ _ _ h => h) (by rfl) ?ya2 ?na2
  case ya2 => intro W hW; have q0 := HX0.out W hW; go_simp; try with_reducible rfl
  try simp only [Act.put, List.setIfInBounds_toArray, List.set_cons_zero, List.set_cons_succ]
  refine stepE_any 3 (some 11) (v := ?va3) (fun _ => Keep.refl _ _) rfl (by rfl) (by kernel_rfl) (by kernel_rfl) (by kernel_rfl) (by decide) (fun _ _ _ h => h) (by rfl) ?ya3 ?na3
  case ya3 => intro W; go_simp; try with_reducible rfl
  try simp only [Act.put, List.setIfInBounds_toArray, List.set_cons_zero, List.set_cons_succ]
  refine stepE_any 4 (some 12) (v := ?va4) (fun _ => Keep.refl _ _) rfl (by rfl) (by kernel_rfl) (by kernel_rfl) (by kernel_rfl) (by decide) (fun _ _ _ h => h) (by rfl) ?ya4 ?na4
  case ya4 => intro W; go_simp; try with_reducible rfl
  try simp only [Act.put, List.setIfInBounds_toArray, List.set_cons_zero, List.set_cons_succ]
  refine stepE_read 5 14 (some 13) (v := ?va5) (Keep.refl _ _) rfl (by rfl) (by kernel_rfl) (by kernel_rfl) (by kernel_rfl) (by kernel_rfl) (by kernel_rfl) (fun _ _ _ h => h) (by rfl) ?ya5 ?na5
  case ya5 => intro W hW; have q0 := HX0.out W hW; have q1 := HX1.out W hW; have q2 := HX2.out W hW; go_simp; try with_reducible rfl
  try simp only [Act.put, List.setIfInBounds_toArray, List.set_cons_zero, List.set_cons_succ]
  -- 6: call:10 -> 14
  refine stepE_only 6 rfl (by kernel_rfl) (by rfl) (fun K' hK => ?_)
  go_simp
  refine (sput_at _ c g A a hA hA1).mono ?_
  rintro e w4 ⟨rfl, hg4, hb4⟩
  have hk4 : Keep (fun _ => False) w2.drew w4 := Keep.ofBelow hb4
  refine hK _ _ hk4 ?_
  obtain ⟨G, hG⟩ : ∃ G, w2.drew.heap.size + 1 = G := ⟨_, rfl⟩
  rw [hG] at hg4 ⊢
  have hd4 := D2.out.later hb4
  have hgm : ¬ Mine B S (.slice none 0 0) G := fun hm => by have := D2.out.mine_lt _ hm; omega
  have hn4 : NumsOff (Mine B S (.slice none 0 0)) w4 (.slice (some ⟨G, 0, none⟩) 64 64) (slotB c g A) := ⟨_, 64, by rw [slotB_len], .inr ⟨G, 0, rfl, hg4.lt, hgm, fun j hj => by rw [Nat.zero_add, hg4.cell]; exact B8_get _ j hj⟩⟩
  have D4 := Lib.hid hd4
  have N4 := Lib.hid hn4
  have K4 := Lib.hid hb4
  clear hg4 hb4 hk4 hd4 hn4 hgm hG
  clear hK K'
  try simp only [Act.put, List.setIfInBounds_toArray, List.set_cons_zero, List.set_cons_succ]
  -- 7: call:53 -> 15
  refine stepE_end 7 rfl (by kernel_rfl) (by rfl) (by rfl) (fun K' hK => ?_)
  go_simp
  refine (write_dead D4.out q hq1 _ 64 64 (by decide)).mono ?_
  rintro e w5 ⟨rfl, hd5, hk5⟩
  refine hK _ _ ?_
  clear hK K'
  try simp only [Act.put, List.setIfInBounds_toArray, List.set_cons_zero, List.set_cons_succ]
  refine stepE_any 8 (some 5) (v := ?va8) (fun h => (Bool.false_ne_true (h.symm.trans (by rfl))).elim) rfl (by rfl) (by kernel_rfl) (by kernel_rfl) (by kernel_rfl) (by decide) (fun _ _ _ h => h) (by rfl) ?ya8 ?na8
  case ya8 => intro W; go_simp; try with_reducible rfl
  try simp only [Act.put, List.setIfInBounds_toArray, List.set_cons_zero, List.set_cons_succ]
  refine wpAnyE_done (by kernel_rfl) ?_ _
  have K14 := Lib.hid ((Keep.ofBelow (bad := Mine B S (.slice none 0 0)) B1.out).trans ((Keep.drew (Mine B S (.slice none 0 0)) w2).trans (Keep.ofBelow (bad := Mine B S (.slice none 0 0)) K4.out)))
  have D5 := Lib.hid hd5
  have K5 : Hid (Keep (Mine B S (.slice none 0 0)) w4 w5) := Lib.hid ⟨hk5.1, hk5.2.1, hk5.2.2.1, hk5.2.2.2.1, fun k hk hn => hk5.2.2.2.2 k hk (fun e => hn (.inl e))⟩
  clear N4 K4 D2 D1 X1 B1 HX0 HX1 HX2 D4 hd5 hk5
  go_wp2
  go_ret
  exact ⟨rfl, D5.out, K14.out.trans K5.out⟩
end Go.Proofs.Ythecjhjomkpgkaa.K
