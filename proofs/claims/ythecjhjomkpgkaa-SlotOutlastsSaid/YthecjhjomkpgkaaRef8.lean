/- mementoref3.NewDisk. -/
import Derived.Test.YthecjhjomkpgkaaRef7
namespace Go.Proofs.Ythecjhjomkpgkaa.K
open Go.ChangeShapes Go.WideShapes Go.ChangeAt Go.RowKit
set_option linter.unusedVariables false

set_option maxRecDepth 100000 in
set_option maxHeartbeats 1000000 in
theorem rnew_any (w : World) (n : Nat) (hn : n ≤ 1000) :
    Calls Try.prog 16 #[.int .i64 n] w fun e w' => ∃ B, e = .returned (.pointer (some ⟨B, 0, none⟩)) ∧ w.heap.size ≤ B ∧ RDisk (fun k => k ≤ B) w' B (List.replicate n zeros) [] (-1) ∧ Below w.heap.size w w' := by
  obtain ⟨B, hBe⟩ : ∃ B, w.heap.size = B := ⟨_, rfl⟩
  have H1 : Hid (RHead (w.alloc (.cells #[.slice none 0 0, .slice none 0 0, .int .i64 (-1)] 95)) B (.slice none 0 0) (.slice none 0 0) (-1)) := Lib.hid (by
    have h := Blk.alloc w 95 #[.slice none 0 0, .slice none 0 0, .int .i64 (-1)]
    rw [hBe] at h; exact h)
  have B1 : Hid (Below w.heap.size w (w.alloc (.cells #[.slice none 0 0, .slice none 0 0, .int .i64 (-1)] 95))) := Lib.hid ((Below.refl _ _).alloc (Nat.le_refl _) _)
  have hmin : ¬ (1048576 : Int) < n := by omega
  have hnI : (n : Int) ≤ 1000 := by omega
  go_enter Try.func16, Try.ntmps16
  go_wp2
  rw [hBe] at B1
  obtain ⟨w1, hw1⟩ : ∃ x, w.alloc (.cells #[.slice none 0 0, .slice none 0 0, .int .i64 (-1)] 95) = x := ⟨_, rfl⟩
  rw [hw1] at H1 B1 ⊢
  have HBE := Lib.hid hBe
  clear hw1 hBe
  go_loopw [4] (fun q wr => ∃ (k : Nat) (us : List Value) (vS : Value), k ≤ n ∧ q = .int .i64 k ∧ us.length = k ∧ RHead wr B vS (.slice none 0 0) (-1) ∧ wr.ownsRow (B + 1) 25 1 vS k us ∧ (∀ j, j < k → ∃ u, us[j]? = some u ∧ NumsC (fun b => b ≤ B ∨ vS.ownBlock = some b) wr u zeros) ∧ Below B w wr) (fun q _ => n - (intOf q).toNat)
  case atStart => exact ⟨0, [], .slice none 0 0, Nat.zero_le _, rfl, rfl, H1.out, World.ownsRow_nil _ _ _ _, fun j hj => absurd hj (Nat.not_lt_zero _), B1.out⟩
  case round =>
    obtain ⟨k, us, vS, hk, rfl, hul, hr, hown, hus, hbel⟩ := hrel
    by_cases hlt : k < n
    · have hx0 : ∀ W, Keep (fun _ => False) wr.drew W → W.cell? ⟨B, 0, none⟩ = some vS := fun W hW => by
        rw [((hr.keep (Keep.drew (fun _ => False) _) (fun h => h)).keep hW (fun h => h)).cell]; rfl
      have HX0 := Lib.hid hx0
      have HR := Lib.hid hr
      have HO := Lib.hid hown
      have HUS := Lib.hid hus
      have HUL := Lib.hid hul
      have HBL := Lib.hid hbel
      have HBlt : Hid (B < wr.heap.size) := Lib.hid hr.lt
      have hkI : (k : Int) < n := by omega
      have hkM : (k : Int) ≤ 1000 := by omega
      clear hx0 hr hown hus hul hbel
      go_wp2_with fail
      refine regionE_begin 7 (fun W => Keep (fun _ => False) wr.drew W) (by kernel_rfl) ?_
      refine stepE_any 0 (some 13) (v := ?va0) (fun _ => Keep.refl _ _) rfl (by rfl) (by kernel_rfl) (by kernel_rfl) (by kernel_rfl) (by decide) (fun _ _ _ h => h) (by rfl) ?ya0 ?na0
      case ya0 => intro W; go_simp; try with_reducible rfl
      try simp only [Act.put, List.setIfInBounds_toArray, List.set_cons_zero, List.set_cons_succ]
      refine stepE_any 1 (some 14) (v := ?va1) (fun _ => Keep.refl _ _) rfl (by rfl) (by kernel_rfl) (by kernel_rfl) (by kernel_rfl) (by decide) (fun _ _ _ h => h) (by rfl) ?ya1 ?na1
      case ya1 => intro W; go_simp; try with_reducible rfl
      try simp only [Act.put, List.setIfInBounds_toArray, List.set_cons_zero, List.set_cons_succ]
      refine stepE_any 2 (some 15) (v := ?va2) (fun _ => Keep.refl _ _) rfl (by rfl) (by kernel_rfl) (by kernel_rfl) (by kernel_rfl) (by decide) (fun _ _ _ h => h) (by rfl) ?ya2 ?na2
      case ya2 => intro W; go_simp; try with_reducible rfl
      try simp only [Act.put, List.setIfInBounds_toArray, List.set_cons_zero, List.set_cons_succ]
      refine stepE_any 3 (some 16) (v := ?va3) (fun _ => Keep.refl _ _) rfl (by rfl) (by kernel_rfl) (by kernel_rfl) (by kernel_rfl) (by decide) (fun _ _ _ h => h) (by rfl) ?ya3 ?na3
      case ya3 => intro W; go_simp; try with_reducible rfl
      try simp only [Act.put, List.setIfInBounds_toArray, List.set_cons_zero, List.set_cons_succ]
      refine stepE_read 4 14 (some 17) (v := ?va4) (Keep.refl _ _) rfl (by rfl) (by kernel_rfl) (by kernel_rfl) (by kernel_rfl) (by kernel_rfl) (by kernel_rfl) (fun _ _ _ h => h) (by rfl) ?ya4 ?na4
      case ya4 => intro W hW; have q := HX0.out W hW; go_simp; try with_reducible rfl
      try simp only [Act.put, List.setIfInBounds_toArray, List.set_cons_zero, List.set_cons_succ]
      -- 5: call:52 -> 18
      refine stepE_only 5 rfl (by kernel_rfl) (by rfl) (fun K' hK => ?_)
      go_simp
      refine (sector_any _ _ [] (IsNums.nil .u8 _ none 0) (by decide)).mono ?_
      rintro e w3 ⟨u3, rfl, ho3, hb3⟩
      rw [show pad [] = zeros from rfl] at ho3
      have BB3 := Lib.hid hb3
      have P3 := Lib.hid ho3
      obtain ⟨p3, c3, hu3⟩ := ownsRow_shape ho3
      subst hu3
      refine hK _ _ (Keep.ofBelow hb3) ?_
      clear ho3 hb3
      clear hK K'
      try simp only [Act.put, List.setIfInBounds_toArray, List.set_cons_zero, List.set_cons_succ]
      -- 6: buildSlice -> 19
      refine stepE_only 6 rfl (by kernel_rfl) (by rfl) (fun K' hK => ?_)
      go_simp
      refine hK _ _ ((Keep.ofBelow BB3.out).trans (Keep.alloc (fun _ => False) _ _)) ?_
      clear hK K'
      try simp only [Act.put, List.setIfInBounds_toArray, List.set_cons_zero, List.set_cons_succ]
      -- 7: builtin:append -> 20
      refine stepE_end 7 rfl (by kernel_rfl) (by rfl) (by rfl) (fun K' hK => ?_)
      have how : (w3.alloc (.cells #[.slice p3 64 c3] 25)).ownsRow (B + 1) 25 1 vS k us := own_keep (own_keep (own_keep HO.out (Keep.drew (fun _ => False) wr) (fun _ _ h => h)) (Keep.ofBelow (bad := fun _ => False) BB3.out) (fun _ _ h => h)) (Keep.alloc (fun _ => False) _ _) (fun _ _ h => h)
      have hcw : ∀ j u, ([.slice p3 64 c3] : List Value)[j]? = some u → (w3.alloc (.cells #[.slice p3 64 c3] 25)).cell? ((⟨w3.heap.size, 0, none⟩ : Addr).add j) = some u := fun j u hj => by
        rw [Addr.add_lit, Nat.zero_add, (Blk.alloc w3 25 #[.slice p3 64 c3]).cell]
        simpa using hj
      refine wp_appW (.tmp 17) (.tmp 19) 33 rfl (B + 1) 25 _ 1 24 Try.underlying33 infoBs rfl (by omega) vS k us how ⟨w3.heap.size, 0, none⟩ 1 1 [.slice p3 64 c3] rfl hcw (by intro v hv; simp at hv; rw [hv]; rfl) (by unfold maxLen; omega) (by omega) (by have := BB3.out.size; have h9 : wr.drew.heap.size = wr.heap.size := rfl; have := HBlt.out; simp; omega) (by rfl) (by rfl) (fun v4 w4 hown4 hg4 hv4 => ?_)
      have O4 := Lib.hid hown4
      have G4 := Lib.hid hg4
      have V4 := Lib.hid hv4
      have OW := Lib.hid how
      obtain ⟨p4, c4, hv4e⟩ := ownsRow_shape hown4
      subst hv4e
      have hz3 : wr.drew.heap.size ≤ w3.heap.size := BB3.out.size
      have hz4 : wr.drew.heap.size = wr.heap.size := rfl
      have hb4 : Keep (fun k => vS.ownBlock = some k) wr w4 := (((Keep.drew (fun k => vS.ownBlock = some k) wr).trans (Keep.ofBelow BB3.out)).trans (Keep.alloc _ w3 (.cells #[.slice p3 64 c3] 25))).trans ⟨hg4.os, hg4.tape, hg4.output, hg4.size, fun j hj hn => hg4.block j hj (fun e => hn e.symm)⟩
      have hB4 := HR.out.keep hb4 (fun e => by have := (HO.out.lt B e).1; omega)
      have b4 := hB4.cell 0
      have f4 := hB4.free 0
      have K4 := Lib.hid hb4
      have HB4 := Lib.hid hB4
      refine hK _ _ ?_
      try simp only [List.getElem_toArray, List.getElem_cons_succ, List.getElem_cons_zero]
      clear hown4 hg4 hv4 how hcw hb4 hB4 hz3 hz4
      clear hK K'
      try simp only [Act.put, List.setIfInBounds_toArray, List.set_cons_zero, List.set_cons_succ]
      refine stepE_any 8 (some 21) (v := ?va8) (fun h => (Bool.false_ne_true (h.symm.trans (by rfl))).elim) rfl (by rfl) (by kernel_rfl) (by kernel_rfl) (by kernel_rfl) (by decide) (fun _ _ _ h => h) (by rfl) ?ya8 ?na8
      case ya8 => intro W; go_simp; try with_reducible rfl
      try simp only [Act.put, List.setIfInBounds_toArray, List.set_cons_zero, List.set_cons_succ]
      refine stepE_any 9 (some 22) (v := ?va9) (fun h => (Bool.false_ne_true (h.symm.trans (by rfl))).elim) rfl (by rfl) (by kernel_rfl) (by kernel_rfl) (by kernel_rfl) (by decide) (fun _ _ _ h => h) (by rfl) ?ya9 ?na9
      case ya9 => intro W; go_simp; try with_reducible rfl
      try simp only [Act.put, List.setIfInBounds_toArray, List.set_cons_zero, List.set_cons_succ]
      -- 10: store -> None
      refine stepE_end 10 rfl (by kernel_rfl) (by rfl) (by rfl) (fun K' hK => ?_)
      go_simp
      refine hK _ _ ?_
      clear hK K'
      refine wpAnyE_done (by kernel_rfl) ?_ _
      go_wp2
      go_roundw
      case rel =>
        have hlt0 : B < wr.heap.size := HBlt.out
        have hz3 : wr.heap.size ≤ w3.heap.size := BB3.out.size
        have hsa : (w3.alloc (.cells #[.slice p3 64 c3] 25)).heap.size = w3.heap.size + 1 := by simp
        have hown4 : ∀ b, (Value.slice p4 (k + 1) c4).ownBlock = some b → vS.ownBlock = some b ∨ w3.heap.size ≤ b := fun b hb => by
          rcases V4.out with e | e
          · left; rw [← e]; exact hb
          · right; rw [e] at hb; injection hb with hb; omega
        have hvs : ∀ b, vS.ownBlock = some b → B + 1 ≤ b ∧ b < wr.heap.size := fun b hb => HO.out.lt b hb
        have ks : Keep (fun b => b = B) w4 (w4.setCell ⟨B, 0, none⟩ (.slice p4 (k + 1) c4)) := Keep.setCell (bad := fun b => b = B) rfl _
        refine ⟨k + 1, us ++ [.slice p3 64 c3], .slice p4 (k + 1) c4, by omega, by go_num, by rw [List.length_append, HUL.out]; rfl, HB4.out.setCell 0 _, own_keep O4.out ks (fun b hb e => by have := (O4.out.lt b hb).1; omega), fun j hj => ?_, (HBL.out.trans (K4.out.below (fun b hb => by have := hvs b hb; omega) (by omega))).setCell (Nat.le_refl _) _⟩
        by_cases e : j = k
        · subst e
          refine ⟨.slice p3 64 c3, by rw [List.getElem?_append_right (by rw [HUL.out]; exact Nat.le_refl _), HUL.out, Nat.sub_self]; rfl, ?_⟩
          have h3 : NumsC (fun b => b ≤ B ∨ vS.ownBlock = some b ∨ w3.heap.size ≤ b) w3 (.slice p3 64 c3) zeros := NumsC.ofOwn P3.out (by
            rintro b hb1 hb2 (h | h | h)
            · have h9 : wr.drew.heap.size = wr.heap.size := rfl
              omega
            · have := hvs b h
              have h9 : wr.drew.heap.size = wr.heap.size := rfl
              omega
            · omega)
          have kk : Keep (fun b => b ≤ B ∨ vS.ownBlock = some b ∨ w3.heap.size ≤ b) w3 w4 := (Keep.alloc _ w3 (.cells #[.slice p3 64 c3] 25)).trans ⟨G4.out.os, G4.out.tape, G4.out.output, G4.out.size, fun b hb hn => G4.out.block b hb (fun e => hn (.inr (.inl e.symm)))⟩
          exact ((h3.keep kk (fun _ h => h)).keep ks (fun _ h => .inl (Nat.le_of_eq h))).mono (fun b _ h => h.elim .inl (fun h => (hown4 b h).elim (fun h => .inr (.inl h)) (fun h => .inr (.inr h))))
        · obtain ⟨u, hu, hn⟩ := HUS.out j (by omega)
          refine ⟨u, by rw [List.getElem?_append_left (by rw [HUL.out]; omega)]; exact hu, ?_⟩
          have h3 : NumsC (fun b => b ≤ B ∨ vS.ownBlock = some b ∨ wr.heap.size ≤ b) wr u zeros := hn.mono (fun b hb h => h.elim .inl (fun h => h.elim .inr (fun h => absurd h (by omega))))
          exact ((h3.keep K4.out (fun _ h => .inr (.inl h))).keep ks (fun _ h => .inl (Nat.le_of_eq h))).mono (fun b _ h => h.elim .inl (fun h => (hown4 b h).elim (fun h => .inr (.inl h)) (fun h => .inr (.inr (by omega)))))
      case measure => simp [intOf]; omega
    · obtain rfl : k = n := by omega
      have HR := Lib.hid hr
      have HO := Lib.hid hown
      have HUS := Lib.hid hus
      have HUL := Lib.hid hul
      have HBL := Lib.hid hbel
      clear hr hown hus hul hbel
      go_wp2
      go_ret
      refine ⟨B, rfl, by have := HBE.out; omega, ⟨⟨vS, _, HR.out, ?_, ⟨[], rfl, ⟨none, 0, rfl, Nat.le_refl _, .inl ⟨rfl, fun _ => rfl⟩⟩, fun r hr => absurd hr (by simp)⟩⟩, Nat.le_refl B, fun k h => Nat.lt_of_le_of_lt h HR.out.lt, fun s hs => by rw [List.eq_of_mem_replicate hs]; exact Sec.zeros, fun q hq => absurd hq (by simp), by rw [List.length_replicate]; omega, Nat.zero_le _, by omega, by omega⟩, by have := HBE.out; rw [this]; exact HBL.out⟩
      rcases HO.out.2 with ⟨e, h0⟩ | ⟨g, cap, cur, e, hbg, hgg, hle, hcm, hsz, htk⟩
      · exact ⟨none, 0, by rw [e, List.length_replicate, h0], .inl (by rw [List.length_replicate]; exact h0)⟩
      · refine ⟨some ⟨g, 0, none⟩, cap, by rw [e, List.length_replicate], .inr ⟨g, 0, rfl, (Array.getElem?_eq_some_iff.1 hgg).1, fun h => by have h' : g ≤ B := h; omega, fun j hj => ?_⟩⟩
        rw [List.length_replicate] at hj
        obtain ⟨u, hu, hn⟩ := HUS.out j hj
        refine ⟨u, ?_, ?_⟩
        · have := HO.out.cells (g := g) (by rw [e]; rfl) j u hu
          rw [Addr.add_lit] at this
          exact this
        · have hz : (List.replicate k zeros).getD j [] = zeros := by simp [List.getD, hj]
          rw [hz]
          exact hn.mono (fun _ _ h => .inl h)
end Go.Proofs.Ythecjhjomkpgkaa.K
