/- mementoref3's disk: Flush. -/
import Derived.Test.YthecjhjomkpgkaaRef5
namespace Go.Proofs.Ythecjhjomkpgkaa.K
open Go.ChangeShapes Go.WideShapes Go.ChangeAt Go.RowKit
set_option linter.unusedVariables false

theorem settleN_ok {secs : List (List Int)} {wl : List (Int × List Int)} (hs : ∀ s ∈ secs, Sec s) (hw : ∀ k ∈ wl, (0 ≤ k.1 ∧ k.1 < secs.length) ∧ Sec k.2) : ∀ k, k ≤ wl.length → ∀ s ∈ settleN secs wl k, Sec s
  | 0, _, s, h => hs s h
  | k + 1, hk, s, h => by
    rw [settleN] at h
    rcases List.mem_or_eq_of_mem_set h with h | h
    · exact settleN_ok hs hw k (by omega) s h
    · rw [h]
      exact (hw _ (by rw [List.getD_eq_getElem?_getD, List.getElem?_eq_getElem (show k < wl.length by omega)]; exact List.getElem_mem _)).2
def RFlushPost (F : Nat → Prop) (w : World) (B : Nat) (secs : List (List Int)) (l : Int) (e : Ending) (w' : World) : Prop := e = .returned (.int .i64 0) ∧ RDisk F w' B secs [] l ∧ Keep (fun k => k = B) w w'

set_option maxRecDepth 100000 in
set_option maxHeartbeats 1000000 in
theorem rflush_live {F : Nat → Prop} {w : World} {B : Nat} {secs : List (List Int)} {wl : List (Int × List Int)} {l : Int} (h : RDisk F w B secs wl l) (hs0 : 0 < secs.length) (hl : (l != 0) = true) :
    Calls Try.prog 56 #[.pointer (some ⟨B, 0, none⟩)] w (RFlushPost F w B (settleN secs wl wl.length) (less l)) := by
  obtain ⟨vs, vl, h1, h2, h3⟩ := h.body
  obtain ⟨aL, cL, hvl, -⟩ := h3.at
  have hB := h1.lt
  have H1 := Lib.hid h1
  have H2 := Lib.hid h2
  have H3 := Lib.hid h3
  have HD := Lib.hid h
  have HS0 := Lib.hid hs0
  have HLV := Lib.hid hl
  clear h1 h2 h3 h hs0 hl
  go_enter Try.func56, Try.ntmps56
  go_wp2_with fail
  refine (rspend_any w B _ vl l H1.out HD.out.left0 HD.out.left1).mono ?_
  rintro e w1 ⟨rfl, hr1, hk1⟩
  rw [HLV.out]
  have hsub : ∀ k, k = B → F k := fun k h => by rw [h]; exact HD.out.fB
  have FB1 : Hid (∀ k, F k → k < w1.drew.heap.size) := Lib.hid (fun k hF => Nat.lt_of_lt_of_le (HD.out.fbd k hF) hk1.size)
  have hx1 : ∀ W, Keep (fun _ => False) w1.drew W → W.cell? ⟨B, 1, none⟩ = some vl := fun W hW => by
    rw [((hr1.keep (Keep.drew (fun _ => False) _) (fun h => h)).keep hW (fun h => h)).cell]; rfl
  have HX1 := Lib.hid hx1
  have D1 : Hid (RHead w1.drew B vs vl (less l)) := Lib.hid (hr1.keep (Keep.drew (fun _ => False) _) (fun h => h))
  have L1 := Lib.hid ((H2.out.keep hk1 hsub).keep (Keep.drew (fun _ => False) w1) (fun _ h => h.elim))
  have W1 := Lib.hid ((H3.out.keep hk1 hsub).keep (Keep.drew (fun _ => False) w1) (fun _ h => h.elim))
  have K1 := Lib.hid (hk1.trans (Keep.drew (fun k => k = B) w1))
  clear hx1 hr1 hk1 hsub
  subst hvl
  go_wp2_with fail
  refine regionE_begin 10 (fun W => Keep (fun _ => False) w1.drew W) (by kernel_rfl) ?_
  refine stepE_any 0 (some 6) (v := ?va0) (fun _ => Keep.refl _ _) rfl (by rfl) (by kernel_rfl) (by kernel_rfl) (by kernel_rfl) (by decide) (fun _ _ _ h => h) (by rfl) ?ya0 ?na0
  case ya0 => intro W; go_simp; try with_reducible rfl
  try simp only [Act.put, List.setIfInBounds_toArray, List.set_cons_zero, List.set_cons_succ]
  refine stepE_any 1 (some 7) (v := ?va1) (fun _ => Keep.refl _ _) rfl (by rfl) (by kernel_rfl) (by kernel_rfl) (by kernel_rfl) (by decide) (fun _ _ _ h => h) (by rfl) ?ya1 ?na1
  case ya1 => intro W; go_simp; try with_reducible rfl
  try simp only [Act.put, List.setIfInBounds_toArray, List.set_cons_zero, List.set_cons_succ]
  refine stepE_any 2 (some 8) (v := ?va2) (fun _ => Keep.refl _ _) rfl (by rfl) (by kernel_rfl) (by kernel_rfl) (by kernel_rfl) (by decide) (fun _ _ _ h => h) (by rfl) ?ya2 ?na2
  case ya2 => intro W; go_simp; try with_reducible rfl
  try simp only [Act.put, List.setIfInBounds_toArray, List.set_cons_zero, List.set_cons_succ]
  refine stepE_any 3 (some 9) (v := ?va3) (fun _ => Keep.refl _ _) rfl (by rfl) (by kernel_rfl) (by kernel_rfl) (by kernel_rfl) (by decide) (fun _ _ _ h => h) (by rfl) ?ya3 ?na3
  case ya3 => intro W; go_simp; try with_reducible rfl
  try simp only [Act.put, List.setIfInBounds_toArray, List.set_cons_zero, List.set_cons_succ]
  refine stepE_read 4 14 (some 10) (v := ?va4) (Keep.refl _ _) rfl (by rfl) (by kernel_rfl) (by kernel_rfl) (by kernel_rfl) (by kernel_rfl) (by kernel_rfl) (fun _ _ _ h => h) (by rfl) ?ya4 ?na4
  case ya4 => intro W hW; have q := HX1.out W hW; go_simp; try with_reducible rfl
  try simp only [Act.put, List.setIfInBounds_toArray, List.set_cons_zero, List.set_cons_succ]
  refine stepE_any 5 (some 11) (v := ?va5) (fun _ => Keep.refl _ _) rfl (by rfl) (by kernel_rfl) (by kernel_rfl) (by kernel_rfl) (by decide) (fun _ _ _ h => h) (by rfl) ?ya5 ?na5
  case ya5 => intro W; go_simp; try with_reducible rfl
  try simp only [Act.put, List.setIfInBounds_toArray, List.set_cons_zero, List.set_cons_succ]
  refine stepE_any 6 (some 12) (v := ?va6) (fun _ => Keep.refl _ _) rfl (by rfl) (by kernel_rfl) (by kernel_rfl) (by kernel_rfl) (by decide) (fun _ _ _ h => h) (by rfl) ?ya6 ?na6
  case ya6 => intro W; go_simp; try with_reducible rfl
  try simp only [Act.put, List.setIfInBounds_toArray, List.set_cons_zero, List.set_cons_succ]
  refine stepE_any 7 (some 13) (v := ?va7) (fun _ => Keep.refl _ _) rfl (by rfl) (by kernel_rfl) (by kernel_rfl) (by kernel_rfl) (by decide) (fun _ _ _ h => h) (by rfl) ?ya7 ?na7
  case ya7 => intro W; go_simp; try with_reducible rfl
  try simp only [Act.put, List.setIfInBounds_toArray, List.set_cons_zero, List.set_cons_succ]
  refine stepE_any 8 (some 14) (v := ?va8) (fun _ => Keep.refl _ _) rfl (by rfl) (by kernel_rfl) (by kernel_rfl) (by kernel_rfl) (by decide) (fun _ _ _ h => h) (by rfl) ?ya8 ?na8
  case ya8 => intro W; go_simp; try with_reducible rfl
  try simp only [Act.put, List.setIfInBounds_toArray, List.set_cons_zero, List.set_cons_succ]
  refine stepE_read 9 14 (some 15) (v := ?va9) (Keep.refl _ _) rfl (by rfl) (by kernel_rfl) (by kernel_rfl) (by kernel_rfl) (by kernel_rfl) (by kernel_rfl) (fun _ _ _ h => h) (by rfl) ?ya9 ?na9
  case ya9 => intro W hW; have q := HX1.out W hW; go_simp; try with_reducible rfl
  try simp only [Act.put, List.setIfInBounds_toArray, List.set_cons_zero, List.set_cons_succ]
  -- 10: call:58 -> 16
  refine stepE_end 10 rfl (by kernel_rfl) (by rfl) (by rfl) (fun K' hK => ?_)
  go_simp
  refine (settle_any D1.out L1.out W1.out HD.out.fB FB1.out HS0.out HD.out.secs_ok HD.out.wl_ok HD.out.many HD.out.few).mono ?_
  rintro e w3 ⟨rfl, hh3, hk3⟩
  refine hK _ _ ?_
  clear hK K'
  refine wpAnyE_done (by kernel_rfl) ?_ _
  have HH := Lib.hid hh3
  have K3 := Lib.hid hk3
  clear hh3 hk3
  go_wp2
  go_ret
  obtain ⟨vs', ha, hb⟩ := HH.out
  refine ⟨rfl, ⟨⟨vs', _, ha, hb, ⟨[], rfl, ⟨none, 0, rfl, Nat.le_refl _, .inl ⟨rfl, fun _ => rfl⟩⟩, fun r hr => absurd hr (by simp)⟩⟩, HD.out.fB, fun k hF => Nat.lt_of_lt_of_le (FB1.out k hF) K3.out.size, settleN_ok HD.out.secs_ok HD.out.wl_ok _ (Nat.le_refl _), fun k hk => absurd hk (by simp), by rw [settleN_len]; exact HD.out.many, Nat.zero_le _, ?_, ?_⟩, K1.out.trans K3.out⟩
  · have := HD.out.left0; unfold less; split <;> omega
  · have := HD.out.left1; unfold less; split <;> omega
end Go.Proofs.Ythecjhjomkpgkaa.K
