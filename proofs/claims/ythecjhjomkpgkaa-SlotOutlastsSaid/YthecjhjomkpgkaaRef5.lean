/- mementoref3's disk: settle. -/
import Derived.Test.YthecjhjomkpgkaaRef4
import Derived.Deep.Slices
namespace Go.Proofs.Ythecjhjomkpgkaa.K
open Go.ChangeShapes Go.WideShapes Go.ChangeAt Go.RowKit
set_option linter.unusedVariables false

def settleN (secs : List (List Int)) (wl : List (Int × List Int)) : Nat → List (List Int)
  | 0 => secs
  | k + 1 => (settleN secs wl k).set (wl.getD k (0, [])).1.toNat (wl.getD k (0, [])).2
theorem settleN_len (secs : List (List Int)) (wl : List (Int × List Int)) : ∀ k, (settleN secs wl k).length = secs.length
  | 0 => rfl
  | k + 1 => by rw [settleN, List.length_set, settleN_len secs wl k]
theorem infoBs : (Try.prog.info? 25).map (fun i => (i.zero, i.size, i.bytes)) = some (some (.slice none 0 0), 1, 24) := by kernel_rfl

/-- The row of sectors that is being made. -/
def Making (F : Nat → Prop) (g : Nat) (wr : World) (secs : List (List Int)) : Prop := ∃ cur : List Value, Blk wr g 25 cur ∧ secs.length ≤ cur.length ∧ ∀ j, j < secs.length → ∃ u, cur[j]? = some u ∧ NumsC (fun k => F k ∨ k = g) wr u (secs.getD j [])

theorem Making.set {F : Nat → Prop} {g : Nat} {wr : World} {secs : List (List Int)} (h : Making F g wr secs) (i : Nat) (u : Value) (s : List Int) (hu : NumsC (fun k => F k ∨ k = g) wr u s) : Making F g (wr.setCell ⟨g, i, none⟩ u) (secs.set i s) := by
  obtain ⟨cur, h1, h2, h3⟩ := h
  have hk : Keep (fun k => k = g) wr (wr.setCell ⟨g, i, none⟩ u) := Keep.setCell (bad := fun k => k = g) rfl _
  refine ⟨cur.set i u, h1.setCell i u, by rw [List.length_set, List.length_set]; exact h2, fun j hj => ?_⟩
  rw [List.length_set] at hj
  by_cases e : i = j
  · subst e
    refine ⟨u, by rw [List.getElem?_set_self (by omega)], ?_⟩
    have : (secs.set i s).getD i [] = s := by rw [List.getD_eq_getElem?_getD, List.getElem?_set_self hj]; rfl
    rw [this]
    exact hu.keep hk (fun _ h => .inr h)
  · obtain ⟨v, hv, hn⟩ := h3 j hj
    refine ⟨v, by rw [List.getElem?_set_ne e]; exact hv, ?_⟩
    have : (secs.set i s).getD j [] = secs.getD j [] := by rw [List.getD_eq_getElem?_getD, List.getElem?_set_ne e, ← List.getD_eq_getElem?_getD]
    rw [this]
    exact hn.keep hk (fun _ h => .inr h)

theorem Making.same {F : Nat → Prop} {g : Nat} {wr W : World} {secs : List (List Int)} (h : Making F g wr secs) (hk : Keep (fun _ => False) wr W) : Making F g W secs := by
  obtain ⟨cur, h1, h2, h3⟩ := h
  refine ⟨cur, h1.keep hk (fun h => h), h2, fun j hj => ?_⟩
  obtain ⟨u, hu, hn⟩ := h3 j hj
  exact ⟨u, hu, hn.keep hk (fun _ h => h.elim)⟩

set_option maxRecDepth 100000 in
set_option maxHeartbeats 1000000 in
theorem settle_any {F : Nat → Prop} {w : World} {B : Nat} {vs vh vl : Value} {secs : List (List Int)} {wl : List (Int × List Int)} {l : Int} (h1 : RHead w B vs vh l) (h2 : LOff F w vs secs) (h3 : WOff F w vl wl) (hFB : F B) (hfb : ∀ k, F k → k < w.heap.size) (hs0 : 0 < secs.length) (hsec : ∀ s ∈ secs, Sec s) (hwo : ∀ k ∈ wl, (0 ≤ k.1 ∧ k.1 < secs.length) ∧ Sec k.2) (hmany : secs.length ≤ 1048576) (hfew : wl.length ≤ 1000000) :
    Calls Try.prog 58 #[.pointer (some ⟨B, 0, none⟩), .int .i64 wl.length, vl] w fun e w' => e = .returned (.tuple #[]) ∧ (∃ vs', RHead w' B vs' (.slice none 0 0) l ∧ LOff F w' vs' (settleN secs wl wl.length)) ∧ Keep (fun k => k = B) w w' := by
  obtain ⟨aS, cS, rfl, hz | ⟨bS, oS, rfl, hbS, hbB, hcS⟩⟩ := h2
  · omega
  obtain ⟨aL, cL, rfl, hLL⟩ := h3.at
  have hB := h1.lt
  have b0 := h1.cell 0
  haveI : Inhabited Value := ⟨undef⟩
  obtain ⟨U, hU⟩ := Deep.choose_lt hcS
  have hnews : ∀ j u, ((List.range secs.length).map U)[j]? = some u → w.cell? ((⟨bS, oS, none⟩ : Addr).add j) = some u := fun j u hj => by
    have hjl : j < secs.length := by have := (List.getElem?_eq_some_iff.1 hj).1; simpa using this
    rw [Addr.add_lit, (hU j hjl).1]
    simp [hjl] at hj
    rw [hj]
  have hone : ∀ u ∈ (List.range secs.length).map U, u.oneCell' = true := fun u hu => by
    obtain ⟨j, hj, rfl⟩ := List.mem_map.1 hu
    obtain ⟨a, c, e, -⟩ := (hU j (by simpa using hj)).2
    rw [e]; rfl
  have H1 := Lib.hid h1
  have HLL := Lib.hid hLL
  have HUU := Lib.hid hU
  have HNEWS := Lib.hid hnews
  have HONE := Lib.hid hone
  have HWO := Lib.hid hwo
  have HS0 := Lib.hid hs0
  clear h1 h3 hLL hU hnews hone hwo hcS
  go_enter Try.func58, Try.ntmps58
  go_wp2_with ((with_reducible refine wpList_appW (.const (.slice none 0 0)) (.tmp 11) 33 w.heap.size 25 _ 1 24 Try.underlying33 infoBs rfl ?_ _ 0 [] (World.ownsRow_nil _ _ _ _) ⟨bS, oS, none⟩ secs.length cS ((List.range secs.length).map U) ?_ HNEWS.out HONE.out ?_ ?_ (Nat.le_refl _) ?_ ?_ ?_); omega; (simp); (unfold maxLen; omega); omega; exact rfl; exact rfl; intro v1 w1 hown1 hg1 hv1; rw [Nat.zero_add, List.nil_append] at hown1; obtain ⟨p1, c1, hv1e⟩ := ownsRow_shape hown1; have hb1 := (Below.refl w.heap.size w).grown hg1 (Nat.le_refl _) (fun j hj => by cases hj); have O1 := Lib.hid hown1; have B1 := Lib.hid hb1; subst hv1e; clear hown1 hg1 hv1 hb1)
  obtain ⟨g, hg, hgw, hmk⟩ : ∃ g, p1 = some ⟨g, 0, none⟩ ∧ w.heap.size ≤ g ∧ Making F g w1 secs := by
    rcases O1.out.2 with ⟨-, h0⟩ | ⟨g, cap, cur, e, hbg, hgg, hle, hcm, hsz, htk⟩
    · have := HS0.out; omega
    · injection e with e1 e2 e3
      refine ⟨g, e1, hbg, cur.toList, by unfold Blk; rw [Array.toArray_toList]; exact hgg, by have hq : cur.toList.length = cap * 1 := (by rw [Array.length_toList]; exact hsz); omega, fun j hj => ⟨U j, ?_, ?_⟩⟩
      · have : (cur.toList.take (secs.length * 1))[j]? = some (U j) := by rw [htk]; simp [hj]
        rw [List.getElem?_take, if_pos (by omega)] at this
        exact this
      · exact ((HUU.out j hj).2.mono (fun k hk h => h.elim (fun h => h) (fun h => absurd (show k = g from h) (by omega)))).keep (Keep.ofBelow (bad := fun _ => False) B1.out) (fun _ h => h.elim)
  subst hg
  have hgB : g ≠ B := by omega
  have MK := Lib.hid hmk
  clear hmk O1 HNEWS HONE
  go_wp2
  go_loopw [7] (fun q wr => ∃ k : Nat, k ≤ wl.length ∧ q = .int .i64 k ∧ Making F g wr (settleN secs wl k) ∧ Keep (fun k => k = g) w1 wr) (fun q _ => wl.length - (intOf q).toNat)
  case atStart => exact ⟨0, Nat.zero_le _, rfl, MK.out, Keep.refl _ _⟩
  case round =>
    obtain ⟨k, hk, rfl, hmk, hkp⟩ := hrel
    have hsz1 : w.heap.size ≤ w1.heap.size := B1.out.size
    by_cases hlt : k < wl.length
    · obtain hz | ⟨bL, oL, rfl, hbL, hbLB, hcL⟩ := HLL.out
      · omega
      obtain ⟨u, hx, hy, hnu⟩ := hcL k hlt
      have hmem : wl.getD k (0, []) ∈ wl := by rw [List.getD_eq_getElem?_getD, List.getElem?_eq_getElem hlt]; exact List.getElem_mem hlt
      have hwk := HWO.out _ hmem
      obtain ⟨i, hie⟩ : ∃ i : Nat, (wl.getD k (0, [])).1 = i := ⟨(wl.getD k (0, [])).1.toNat, by omega⟩
      have hst : settleN secs wl (k + 1) = (settleN secs wl k).set i (wl.getD k (0, [])).2 := by
        show (settleN secs wl k).set (wl.getD k (0, [])).1.toNat _ = _
        rw [hie]; rfl
      rw [hie] at hx hwk
      have hnr : NumsC (fun k => F k ∨ k = g) wr u (wl.getD k (0, [])).2 := ((hnu.mono (bad' := fun k => F k ∨ k = g) (fun k hk h => h.elim (fun h => h) (fun h => absurd (show k = g from h) (by omega)))).keep (Keep.ofBelow (bad := fun _ => False) B1.out) (fun _ h => h.elim)).keep hkp (fun _ h => .inr h)
      obtain ⟨pu, cu, hue, -⟩ := id hnr
      rw [hwk.2.1] at hue
      subst hue
      have hcw : ∀ x v, x.block < w.heap.size → w.cell? x = some v → wr.cell? x = some v := fun x v hx hv => by
        rw [hkp.cell (by omega) (by omega), B1.out.cell hx]; exact hv
      have hi1 := hcw _ _ hbL hx
      have hv1 := hcw _ _ hbL hy
      have hgl : g < wr.heap.size := by obtain ⟨cur, hb, -⟩ := hmk; exact hb.lt
      have hbl2 : bL < wr.heap.size := Nat.lt_of_lt_of_le (Nat.lt_of_lt_of_le hbL hsz1) hkp.size
      have HI1 := Lib.hid (fun W (hW : Keep (fun _ => False) wr.drew W) => (by rw [hW.cell (fun h => h) hbl2]; exact hi1 : W.cell? ⟨bL, oL + k * 2, none⟩ = some (.int .i64 i)))
      have HV1 := Lib.hid (fun W (hW : Keep (fun _ => False) wr.drew W) => (by rw [hW.cell (fun h => h) hbl2]; exact hv1 : W.cell? ⟨bL, oL + k * 2 + 1, none⟩ = some (.slice pu 64 cu)))
      obtain ⟨cur, hcb, hcl, hcj⟩ := id hmk
      rw [settleN_len] at hcl hcj
      obtain ⟨uo, huo, -⟩ := hcj i (by omega)
      have hgc : wr.cell? ⟨g, i, none⟩ = some uo := by rw [hcb.cell]; exact huo
      have hgf := hcb.free i
      have HST := Lib.hid hst
      have HMK := Lib.hid hmk
      have HKP := Lib.hid hkp
      have HNR := Lib.hid hnr
      have hkI : (k : Int) < wl.length := by omega
      have hkM : (k : Int) ≤ 1000000 := by omega
      have hiI : (i : Int) < secs.length := by omega
      have hiM : (i : Int) ≤ 1048576 := by omega
      clear hx hy hnu hmem hwk hie hst hnr hcw hi1 hv1 hgl hbl2 hcb hcl hcj huo hmk hkp hcL
      go_wp2_with fail
      refine regionE_begin 12 (fun W => Keep (fun _ => False) wr.drew W) (by kernel_rfl) ?_
      refine stepE_any 0 (some 18) (v := ?va0) (fun _ => Keep.refl _ _) rfl (by rfl) (by kernel_rfl) (by kernel_rfl) (by kernel_rfl) (by decide) (fun _ _ _ h => h) (by rfl) ?ya0 ?na0
      case ya0 => intro W; go_simp; try with_reducible rfl
      try simp only [Act.put, List.setIfInBounds_toArray, List.set_cons_zero, List.set_cons_succ]
      refine stepE_any 1 (some 19) (v := ?va1) (fun _ => Keep.refl _ _) rfl (by rfl) (by kernel_rfl) (by kernel_rfl) (by kernel_rfl) (by decide) (fun _ _ _ h => h) (by rfl) ?ya1 ?na1
      case ya1 => intro W; go_simp; try with_reducible rfl
      try simp only [Act.put, List.setIfInBounds_toArray, List.set_cons_zero, List.set_cons_succ]
      refine stepE_any 2 (some 20) (v := ?va2) (fun _ => Keep.refl _ _) rfl (by rfl) (by kernel_rfl) (by kernel_rfl) (by kernel_rfl) (by decide) (fun _ _ _ h => h) (by rfl) ?ya2 ?na2
      case ya2 => intro W; go_simp; try with_reducible rfl
      try simp only [Act.put, List.setIfInBounds_toArray, List.set_cons_zero, List.set_cons_succ]
      refine stepE_any 3 (some 21) (v := ?va3) (fun _ => Keep.refl _ _) rfl (by rfl) (by kernel_rfl) (by kernel_rfl) (by kernel_rfl) (by decide) (fun _ _ _ h => h) (by rfl) ?ya3 ?na3
      case ya3 => intro W; go_simp; try with_reducible rfl
      try simp only [Act.put, List.setIfInBounds_toArray, List.set_cons_zero, List.set_cons_succ]
      refine stepE_any 4 (some 22) (v := ?va4) (fun _ => Keep.refl _ _) rfl (by rfl) (by kernel_rfl) (by kernel_rfl) (by kernel_rfl) (by decide) (fun _ _ _ h => h) (by rfl) ?ya4 ?na4
      case ya4 => intro W; go_simp; try with_reducible rfl
      try simp only [Act.put, List.setIfInBounds_toArray, List.set_cons_zero, List.set_cons_succ]
      refine stepE_read 5 14 (some 23) (v := ?va5) (Keep.refl _ _) rfl (by rfl) (by kernel_rfl) (by kernel_rfl) (by kernel_rfl) (by kernel_rfl) (by kernel_rfl) (fun _ _ _ h => h) (by rfl) ?ya5 ?na5
      case ya5 => intro W hW; have q := HI1.out W hW; go_simp; try with_reducible rfl
      try simp only [Act.put, List.setIfInBounds_toArray, List.set_cons_zero, List.set_cons_succ]
      refine stepE_any 6 (some 24) (v := ?va6) (fun _ => Keep.refl _ _) rfl (by rfl) (by kernel_rfl) (by kernel_rfl) (by kernel_rfl) (by decide) (fun _ _ _ h => h) (by rfl) ?ya6 ?na6
      case ya6 => intro W; go_simp; try with_reducible rfl
      try simp only [Act.put, List.setIfInBounds_toArray, List.set_cons_zero, List.set_cons_succ]
      refine stepE_any 7 (some 25) (v := ?va7) (fun _ => Keep.refl _ _) rfl (by rfl) (by kernel_rfl) (by kernel_rfl) (by kernel_rfl) (by decide) (fun _ _ _ h => h) (by rfl) ?ya7 ?na7
      case ya7 => intro W; go_simp; try with_reducible rfl
      try simp only [Act.put, List.setIfInBounds_toArray, List.set_cons_zero, List.set_cons_succ]
      refine stepE_any 8 (some 26) (v := ?va8) (fun _ => Keep.refl _ _) rfl (by rfl) (by kernel_rfl) (by kernel_rfl) (by kernel_rfl) (by decide) (fun _ _ _ h => h) (by rfl) ?ya8 ?na8
      case ya8 => intro W; go_simp; try with_reducible rfl
      try simp only [Act.put, List.setIfInBounds_toArray, List.set_cons_zero, List.set_cons_succ]
      refine stepE_any 9 (some 27) (v := ?va9) (fun _ => Keep.refl _ _) rfl (by rfl) (by kernel_rfl) (by kernel_rfl) (by kernel_rfl) (by decide) (fun _ _ _ h => h) (by rfl) ?ya9 ?na9
      case ya9 => intro W; go_simp; try with_reducible rfl
      try simp only [Act.put, List.setIfInBounds_toArray, List.set_cons_zero, List.set_cons_succ]
      refine stepE_read 10 14 (some 28) (v := ?va10) (Keep.refl _ _) rfl (by rfl) (by kernel_rfl) (by kernel_rfl) (by kernel_rfl) (by kernel_rfl) (by kernel_rfl) (fun _ _ _ h => h) (by rfl) ?ya10 ?na10
      case ya10 => intro W hW; have q := HV1.out W hW; go_simp; try with_reducible rfl
      try simp only [Act.put, List.setIfInBounds_toArray, List.set_cons_zero, List.set_cons_succ]
      refine stepE_any 11 (some 29) (v := ?va11) (fun _ => Keep.refl _ _) rfl (by rfl) (by kernel_rfl) (by kernel_rfl) (by kernel_rfl) (by decide) (fun _ _ _ h => h) (by rfl) ?ya11 ?na11
      case ya11 => intro W; go_simp; try with_reducible rfl
      try simp only [Act.put, List.setIfInBounds_toArray, List.set_cons_zero, List.set_cons_succ]
      -- 12: store -> None
      refine stepE_end 12 rfl (by kernel_rfl) (by rfl) (by rfl) (fun K' hK => ?_)
      go_simp
      refine hK _ _ ?_
      clear hK K'
      refine wpAnyE_done (by kernel_rfl) ?_ _
      go_wp2
      go_roundw
      case rel =>
        have hset := ((HMK.out.same (Keep.drew (fun _ => False) wr)).set i (.slice pu 64 cu) _ (HNR.out.keep (Keep.drew (fun _ => False) wr) (fun _ h => h.elim)))
        have hkp2 : Keep (fun k => k = g) w1 (wr.drew.setCell ⟨g, i, none⟩ (.slice pu 64 cu)) := (HKP.out.trans (Keep.drew (fun k => k = g) wr)).trans (Keep.setCell (bad := fun k => k = g) rfl _)
        exact ⟨k + 1, by omega, by go_num, by rw [HST.out]; exact hset, hkp2⟩
      case measure => simp [intOf]; omega
    · obtain rfl : k = wl.length := by omega
      have hBr : RHead wr B (.slice (some ⟨bS, oS, none⟩) secs.length cS) vh l := (H1.out.below B1.out hB).keep hkp (fun h => hgB (h.symm))
      have hb0 := hBr.cell 0
      have hf0 := hBr.free 0
      have hb1 := hBr.cell 1
      have hf1 := hBr.free 1
      have HBR := Lib.hid hBr
      have HMK := Lib.hid hmk
      have HKP := Lib.hid hkp
      clear hBr hmk hkp b0
      go_wp2
      go_returns
      have k1 : Keep (fun k => k = B) wr ((wr.setCell ⟨B, 0, none⟩ (.slice (some ⟨g, 0, none⟩) secs.length c1)).setCell ⟨B, 1, none⟩ (.slice none 0 0)) := (Keep.setCell (bad := fun k => k = B) rfl _).trans (Keep.setCell (bad := fun k => k = B) rfl _)
      refine ⟨rfl, ⟨_, (HBR.out.setCell 0 (.slice (some ⟨g, 0, none⟩) secs.length c1)).setCell 1 (.slice none 0 0), LOff.keep (bad' := fun k => k = B) ?_ k1 (fun k h => by rw [h]; exact hFB)⟩, (Keep.trans' (Keep.ofBelow (bad := fun k => k = B) B1.out) HKP.out (fun i hi e => absurd (show i = g from e) (by omega))).trans k1⟩
      obtain ⟨cur, hcb, hcl, hcj⟩ := HMK.out
      refine ⟨_, c1, by rw [settleN_len], .inr ⟨g, 0, rfl, hcb.lt, fun h => by have := hfb g h; omega, fun j hj => ?_⟩⟩
      obtain ⟨u, hu, hn⟩ := hcj j hj
      exact ⟨u, by rw [Nat.zero_add, hcb.cell]; exact hu, hn.mono (fun _ _ h => .inl h)⟩
end Go.Proofs.Ythecjhjomkpgkaa.K
