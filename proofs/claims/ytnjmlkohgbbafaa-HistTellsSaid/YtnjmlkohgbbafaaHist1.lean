/- hist.copied. -/
import Derived.Test.YtnjmlkohgbbafaaVers
import Derived.Outline
namespace Go.Proofs.Ytnjmlkohgbbafaa.K
open Go.ChangeShapes Go.WideShapes Go.ChangeAt Go.RowKit
set_option linter.unusedVariables false

def CopiedPost (w : World) (ks : List (Int × List Int)) (e : Ending) (w' : World) : Prop :=
  ∃ v, e = .returned v ∧ OwnVers w' w.heap.size v ks ∧ Below w.heap.size w w'

set_option maxRecDepth 100000 in
set_option maxHeartbeats 1000000 in
theorem copied_any (w : World) (v : Value) (ks : List (Int × List Int)) (hv : Vers w v ks) (hok : ∀ k ∈ ks, KeyOk k) (hn : ks.length ≤ 1000000) :
    Calls Try.prog 52 #[v] w (CopiedPost w ks) := by
  obtain ⟨rs0, rfl, ⟨a, c, rfl, hc, hrows⟩, hdata⟩ := hv
  rw [List.length_map] at hn
  have HR := Lib.hid hrows
  have HD := Lib.hid hdata
  have HOKS := Lib.hid hok
  clear hrows hdata hok
  go_enter Try.func52, Try.ntmps52
  go_wp2
  go_loopw [3, 8] (fun u i wr => ∃ k : Nat, k ≤ rs0.length ∧ i = .int .i64 k ∧ OwnVers wr w.heap.size u ((rs0.take k).map VR.key) ∧ Below w.heap.size w wr) (fun _ i _ => rs0.length - (intOf i).toNat)
  case atStart => exact ⟨0, Nat.zero_le _, rfl, OwnVers.nil _ _, Below.refl _ _⟩
  case round =>
    obtain ⟨k, hk, rfl, ⟨rs, hrk, hown, hoff⟩, hbel⟩ := hrel
    by_cases hlt : k < rs0.length
    · obtain ⟨h0, -⟩ | ⟨b, off, rfl, hblt, hrow⟩ := HR.out
      · omega
      have hrk9 := hrow k hlt
      have hlenk : rs.length = k := by have := congrArg List.length hrk; simp at this; omega
      obtain ⟨r9, hr9⟩ : ∃ r, rs0.getD k ⟨0, [], .slice none 0 0⟩ = r := ⟨_, rfl⟩
      rw [hr9] at hrk9
      have hmem : r9 ∈ rs0 := by
        rw [← hr9]
        have : rs0.getD k ⟨0, [], .slice none 0 0⟩ = rs0[k] := by simp [List.getD, hlt]
        rw [this]; exact List.getElem_mem _
      have hnd := HD.out r9 hmem
      have hok9 := HOKS.out r9.key (List.mem_map_of_mem hmem)
      have hst : (rs0.take (k + 1)).map VR.key = (rs0.take k).map VR.key ++ [r9.key] := by
        rw [List.take_succ_eq_append_getElem hlt, List.map_append]
        have : rs0[k] = r9 := by rw [← hr9]; simp [List.getD, hlt]
        rw [this]; rfl
      have HST := Lib.hid hst
      have hrr : wr.rangeAt b (off + k * 2) r9.cells := fun j u hj => by rw [hbel.cell hblt]; exact hrk9 j u hj
      have HRR := Lib.hid hrr
      have HOK := Lib.hid hok9
      have HONE := Lib.hid (VR.one hnd)
      have hndr : IsNums .u8 wr r9.val r9.data := hnd.below hbel (Nat.le_refl _)
      have HNR := Lib.hid hndr
      obtain ⟨pv, cv, hvv, -⟩ := id hndr
      have HVV := Lib.hid hvv
      have HO := Lib.hid hown
      have HOFF := Lib.hid hoff
      have HRK := Lib.hid hrk
      have HLK := Lib.hid hlenk
      have HBL := Lib.hid hbel
      have hkI : (k : Int) < rs0.length := by omega
      have hinf : (Try.prog.info? 54).map (·.size) = some r9.cells.length := infoVr
      have HINF := Lib.hid hinf
      clear hst hrk9 hmem hnd hok9 hr9 hrow hrr hndr hvv hown hoff hrk hlenk hbel hinf
      go_wp2_with (first | ((with_reducible refine wpList_loadM (.tmp 10) b (off + k * 2) r9.cells _ HRR.out Try.underlying54 rfl ?_ ?_ ?_); exact HINF.out; exact rfl) | ((with_reducible refine wpList_storeN (.tmp 5) (.tmp 11) r9.cells HONE.out ?_ ?_ ?_ ?_ ?_); exact HINF.out; exact rfl; exact rfl; exact rfl; intro w2 hb2 hbl2 hz2; have HZ2 := Lib.hid hz2; have HB2 := Lib.hid hb2; have HBL2 := Lib.hid hbl2; clear hz2 hb2 hbl2))
      try simp only [Act.put, List.setIfInBounds_toArray, List.set_cons_zero, List.set_cons_succ]
      have hsq : ∀ W, Keep (fun _ => False) w2.drew W → W.cell? ⟨wr.heap.size, 0, none⟩ = some (.int .i64 r9.seq) := fun W hW => by
        rw [hW.cell (fun h => h) (show wr.heap.size < w2.drew.heap.size from HB2.out.lt)]; exact HB2.out.cell 0
      have hvl : ∀ W, Keep (fun _ => False) w2.drew W → W.cell? ⟨wr.heap.size, 1, none⟩ = some (.slice pv r9.data.length cv) := fun W hW => by
        rw [hW.cell (fun h => h) (show wr.heap.size < w2.drew.heap.size from HB2.out.lt), ← HVV.out]; exact HB2.out.cell 1
      have hnd2 : IsNums .u8 w2.drew (.slice pv r9.data.length cv) r9.data := by
        rw [← HVV.out]
        exact (HNR.out.below HBL2.out (Nat.le_refl _)).below (B := w2.heap.size) ⟨rfl, rfl, rfl, Nat.le_refl _, fun _ _ => rfl⟩ (Nat.le_refl _)
      have HSQ := Lib.hid hsq
      have HVL := Lib.hid hvl
      have HND := Lib.hid hnd2
      clear hsq hvl hnd2
      refine regionE_begin 8 (fun W => Keep (fun _ => False) w2.drew W) (by kernel_rfl) ?_
      refine stepE_any 0 (some 12) (v := ?va0) (fun _ => Keep.refl _ _) rfl (by rfl) (by kernel_rfl) (by kernel_rfl) (by kernel_rfl) (by decide) (fun _ _ _ h => h) (by rfl) ?ya0 ?na0
      case ya0 => intro W; go_simp; try with_reducible rfl
      try simp only [Act.put, List.setIfInBounds_toArray, List.set_cons_zero, List.set_cons_succ]
      refine stepE_any 1 (some 13) (v := ?va1) (fun _ => Keep.refl _ _) rfl (by rfl) (by kernel_rfl) (by kernel_rfl) (by kernel_rfl) (by decide) (fun _ _ _ h => h) (by rfl) ?ya1 ?na1
      case ya1 => intro W; go_simp; try with_reducible rfl
      try simp only [Act.put, List.setIfInBounds_toArray, List.set_cons_zero, List.set_cons_succ]
      refine stepE_read 2 12 (some 14) (v := ?va2) (Keep.refl _ _) rfl (by rfl) (by kernel_rfl) (by kernel_rfl) (by kernel_rfl) (by kernel_rfl) (by kernel_rfl) (fun _ _ _ h => h) (by rfl) ?ya2 ?na2
      case ya2 => intro W hW; have q := HSQ.out W hW; go_simp; try with_reducible rfl
      try simp only [Act.put, List.setIfInBounds_toArray, List.set_cons_zero, List.set_cons_succ]
      refine stepE_any 3 (some 15) (v := ?va3) (fun _ => Keep.refl _ _) rfl (by rfl) (by kernel_rfl) (by kernel_rfl) (by kernel_rfl) (by decide) (fun _ _ _ h => h) (by rfl) ?ya3 ?na3
      case ya3 => intro W; go_simp; try with_reducible rfl
      try simp only [Act.put, List.setIfInBounds_toArray, List.set_cons_zero, List.set_cons_succ]
      refine stepE_read 4 12 (some 16) (v := ?va4) (Keep.refl _ _) rfl (by rfl) (by kernel_rfl) (by kernel_rfl) (by kernel_rfl) (by kernel_rfl) (by kernel_rfl) (fun _ _ _ h => h) (by rfl) ?ya4 ?na4
      case ya4 => intro W hW; have q := HVL.out W hW; go_simp; try with_reducible rfl
      try simp only [Act.put, List.setIfInBounds_toArray, List.set_cons_zero, List.set_cons_succ]
      -- 5: builtin:append -> 17
      refine stepE_only 5 rfl (by kernel_rfl) (by rfl) (fun K' hK => ?_)
      refine wp_appN (.const (.slice none 0 0)) (.tmp 16) 27 rfl w2.drew.heap.size 5 .u8 1 Try.underlying27 info_u8 (by omega) _ 0 [] (World.ownsRow_nil _ _ _ _) _ r9.data HND.out (by have h : r9.data.length ≤ 1000000 := HOK.out.2.2.1; omega) (Nat.le_refl _) (by rfl) (by rfl) (fun v5 w5 hown5 hb5 => ?_)
      obtain ⟨p5, c5, rfl⟩ := ownsRow_shape hown5
      rw [Nat.zero_add, List.nil_append] at hown5
      have hk5 : Keep (fun _ => False) w2.drew w5 := Keep.ofBelow hb5
      refine hK _ _ hk5 ?_
      rw [Nat.zero_add]
      have HO5 := Lib.hid hown5
      have HB5 := Lib.hid hb5
      have HK5 := Lib.hid hk5
      clear hown5 hb5 hk5
      clear hK K'
      try simp only [Act.put, List.setIfInBounds_toArray, List.set_cons_zero, List.set_cons_succ]
      refine stepE_any 6 (some 18) (v := ?va6) (fun _ => HK5.out) rfl (by rfl) (by kernel_rfl) (by kernel_rfl) (by kernel_rfl) (by decide) (fun _ _ _ h => h) (by rfl) ?ya6 ?na6
      case ya6 => intro W; go_simp; try with_reducible rfl
      try simp only [Act.put, List.setIfInBounds_toArray, List.set_cons_zero, List.set_cons_succ]
      -- 7: buildSlice -> 19
      refine stepE_only 7 rfl (by kernel_rfl) (by rfl) (fun K' hK => ?_)
      refine wp_buildS1 41 54 (.tmp 18) rfl [.int .i64 r9.seq, .slice p5 r9.data.length c5] _ 32 Try.underlying41 infoVer (by simp) (by simp) (by rfl) (hK _ _ (HK5.out.trans (Keep.alloc _ _ _)) ?_)
      clear hK K'
      try simp only [Act.put, List.setIfInBounds_toArray, List.set_cons_zero, List.set_cons_succ]
      -- 8: builtin:append -> 20
      refine stepE_end 8 rfl (by kernel_rfl) (by rfl) (by rfl) (fun K' hK => ?_)
      have how : (w5.alloc (.cells #[.int .i64 r9.seq, .slice p5 r9.data.length c5] 54)).ownsRow w.heap.size 54 2 u3 rs.length (rs.flatMap VR.cells) := own_keep (own_keep (own_keep HO.out (Keep.ofBelow (bad := fun _ => False) HBL2.out) (fun _ _ h => h)) ((Keep.drew (fun _ => False) w2).trans HK5.out) (fun _ _ h => h)) (Keep.alloc (fun _ => False) _ _) (fun _ _ h => h)
      have hcw : ∀ j u, ([.int .i64 r9.seq, .slice p5 r9.data.length c5] : List Value)[j]? = some u → (w5.alloc (.cells #[.int .i64 r9.seq, .slice p5 r9.data.length c5] 54)).cell? ((⟨w5.heap.size, 0, none⟩ : Addr).add j) = some u := fun j u hj => by
        rw [Addr.add_lit, Nat.zero_add, (Blk.alloc w5 54 #[.int .i64 r9.seq, .slice p5 r9.data.length c5]).cell]
        simpa using hj
      have hz5 : w.heap.size ≤ w5.heap.size := by have := HBL.out.size; have := HBL2.out.size; have h3 := HK5.out.size; have h4 : w2.drew.heap.size = w2.heap.size := rfl; omega
      refine wp_appW (.tmp 12) (.tmp 19) 41 rfl w.heap.size 54 _ 2 32 Try.underlying41 infoVer rfl (by omega) u3 rs.length _ how ⟨w5.heap.size, 0, none⟩ 1 1 [.int .i64 r9.seq, .slice p5 r9.data.length c5] rfl hcw (by intro v hv; simp at hv; rcases hv with rfl | rfl <;> rfl) (by have := HLK.out; unfold maxLen; omega) (by have := HLK.out; omega) (by simp; omega) (by rfl) (by rfl) (fun v6 w6 hown6 hg6 hv6 => hK _ _ ?_)
      have HO6 := Lib.hid hown6
      have HG6 := Lib.hid hg6
      have HV6 := Lib.hid hv6
      have HOW := Lib.hid how
      have HZ5 := Lib.hid hz5
      clear hown6 hg6 hv6 how hcw hz5
      clear hK K'
      try simp only [Act.put, List.setIfInBounds_toArray, List.set_cons_zero, List.set_cons_succ]
      refine stepE_any 9 (some 3) (v := ?va9) (fun h => (Bool.false_ne_true (h.symm.trans (by rfl))).elim) rfl (by rfl) (by kernel_rfl) (by kernel_rfl) (by kernel_rfl) (by decide) (fun _ _ _ h => h) (by rfl) ?ya9 ?na9
      case ya9 => intro W; go_simp; try with_reducible rfl
      try simp only [Act.put, List.setIfInBounds_toArray, List.set_cons_zero, List.set_cons_succ]
      refine wpAnyE_done (by kernel_rfl) ?_ _
      go_wp2
      go_roundw
      case rel =>
        have hg6 := HG6.out
        have hz2 := HZ2.out
        have hd2 : w2.drew.heap.size = w2.heap.size := rfl
        have hz5 := HK5.out.size
        have hbz := HBL.out.size
        have hal : (w5.alloc (.cells #[.int .i64 r9.seq, .slice p5 r9.data.length c5] 54)).heap.size = w5.heap.size + 1 := by simp
        have hb26 : Below wr.heap.size wr w5 := HBL2.out.drew.trans (HB5.out.mono (show wr.heap.size ≤ w2.drew.heap.size by omega))
        have hown3 := HO.out.lt
        have kw : Keep (fun j => u3.ownBlock = some j) wr w6 := ((Keep.ofBelow (bad := fun j => u3.ownBlock = some j) hb26).trans (Keep.alloc _ _ _)).trans ⟨hg6.os, hg6.tape, hg6.output, hg6.size, fun j hj hn => hg6.block j hj (fun e => hn e.symm)⟩
        have k56 : Keep (fun j => u3.ownBlock = some j) w5 w6 := (Keep.alloc (fun j => u3.ownBlock = some j) w5 (.cells #[.int .i64 r9.seq, .slice p5 r9.data.length c5] 54)).trans ⟨hg6.os, hg6.tape, hg6.output, hg6.size, fun j hj hn => hg6.block j hj (fun e => hn e.symm)⟩
        have hblk : ∀ j, v6.ownBlock = some j → u3.ownBlock = some j ∨ j = w5.heap.size + 1 := fun j hj => by
          rcases HV6.out with e | e
          · left; rw [← e]; exact hj
          · right; rw [e] at hj; injection hj with hj; omega
        refine ⟨k + 1, by omega, by go_num, ⟨rs ++ [⟨r9.seq, r9.data, .slice p5 r9.data.length c5⟩], ?_, ?_, ?_⟩, ?_⟩
        · rw [HST.out, List.map_append, HRK.out]; rfl
        · rw [List.length_append, List.flatMap_append]
          exact HO6.out
        · intro r hr
          rcases List.mem_append.1 hr with hr | hr
          · have h1 := (HOFF.out r hr).keep kw (fun _ e => e)
            obtain ⟨a', c', e1, h2 | ⟨b', o', e2, h3, h4, h5⟩⟩ := HOFF.out r hr
            · exact ⟨a', c', e1, .inl h2⟩
            · refine ⟨a', c', e1, .inr ⟨b', o', e2, Nat.lt_of_lt_of_le h3 kw.size, fun hbad => ?_, fun j hj => ?_⟩⟩
              · rcases hblk b' hbad with h | h
                · exact h4 h
                · omega
              · rw [kw.cell h4 h3]; exact h5 j hj
          · obtain rfl : r = ⟨r9.seq, r9.data, .slice p5 r9.data.length c5⟩ := by simpa using hr
            have h1 : NumsOff (fun j => u3.ownBlock = some j ∨ j = w5.heap.size + 1) w5 (.slice p5 r9.data.length c5) r9.data := NumsOff.ofOwn HO5.out (by
              rintro j hj1 hj2 (h | h)
              · have := (hown3 j h).2; omega
              · omega)
            obtain ⟨a', c', e1, h2 | ⟨b', o', e2, h3, h4, h5⟩⟩ := h1
            · exact ⟨a', c', e1, .inl h2⟩
            · refine ⟨a', c', e1, .inr ⟨b', o', e2, Nat.lt_of_lt_of_le h3 k56.size, fun hbad => h4 (hblk b' hbad), fun j hj => ?_⟩⟩
              rw [k56.cell (fun h => h4 (.inl h)) h3]; exact h5 j hj
        · exact HBL.out.trans (kw.below (by intro j e; exact (hown3 j e).1) hbz)
      case measure => simp [intOf]; omega
    · obtain rfl : k = rs0.length := by omega
      rw [List.take_length] at hrk
      go_wp2
      go_ret
      exact ⟨_, rfl, ⟨rs, hrk, hown, hoff⟩, hbel⟩
end Go.Proofs.Ytnjmlkohgbbafaa.K
