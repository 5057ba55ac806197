/- What crc.Seal returns. -/
import Derived.Test.YtkbehdjaegomgaaDoorCrc3
namespace Go.Proofs.YtkbehdjaegomgaaDoor.K
open Go.ChangeShapes Go.WideShapes Go.ChangeAt Go.RowKit
set_option linter.unusedVariables false

theorem own_below {w w' : World} {base B : Nat} {e : TypeId} {size : Nat} {v : Value} {n : Nat} {xs : List Value} (h : w.ownsRow base e size v n xs) (hb : Below B w w') (hB : w.heap.size ≤ B) : w'.ownsRow base e size v n xs := by
  refine ⟨h.1, ?_⟩
  rcases h.2 with h0 | ⟨g, cap, cur, hv, hg, hc, h1, h2, h3, h4⟩
  · exact .inl h0
  · refine .inr ⟨g, cap, cur, hv, hg, ?_, h1, h2, h3, h4⟩
    rw [hb.block g (by have := (Array.getElem?_eq_some_iff.1 hc).1; omega)]
    exact hc

theorem IsLists.one {w : World} {u : Value} {bs : List Int} (h : IsNums .u8 w u bs) (N : Nat) (hN : N = w.heap.size) (e : TypeId) : IsLists (w.alloc (.cells #[u] e)) (.slice (some ⟨N, 0, none⟩) 1 1) [bs] := by
  subst hN
  refine ⟨_, 1, rfl, .inr ⟨_, 0, rfl, by simp, fun j hj => ?_⟩⟩
  obtain rfl : j = 0 := by simpa using hj
  refine ⟨u, ?_, h.alloc _⟩
  unfold World.cell? World.alloc
  simp

def sealC (bs : List Int) : List Int := bs ++ fourC (sumC [bs])
theorem sealC_len (bs : List Int) : (sealC bs).length = bs.length + 4 := by simp [sealC, fourC_len]

theorem TabOk.alloc {w : World} (h : TabOk w) (h1 : 1 ≤ w.heap.size) (o : Obj) : TabOk (w.alloc o) := h.below ((Below.refl w.heap.size w).alloc (Nat.le_refl _) o) h1

set_option maxRecDepth 100000 in
set_option maxHeartbeats 2000000 in
theorem seal_any (v : Value) (bs : List Int) (w : World) (hT : TabOk w) (h1 : 1 ≤ w.heap.size) (hv : IsNums .u8 w v bs) (hb : Bytes bs) (hl : bs.length ≤ 10000) :
    Calls Tryd.prog 14 #[v] w fun e w' => ∃ u, e = .returned u ∧ w'.ownsRow w.heap.size 5 1 u (sealC bs).length ((sealC bs).map (Value.int .u8)) ∧ Below w.heap.size w w' := by
  obtain ⟨i0, hi, hz0, hz1, hz2⟩ := info_parts info_u8
  obtain ⟨N, hN⟩ : ∃ N, w.heap.size = N := ⟨_, rfl⟩
  have HV := Lib.hid hv
  obtain ⟨p, cc, rfl, h⟩ := hv
  have HT := Lib.hid hT
  have HB := Lib.hid hb
  clear h hT hb
  obtain ⟨L, hL⟩ : ∃ L, bs.length = L := ⟨_, rfl⟩
  have HL := Lib.hid hL
  rw [hL] at hl HV
  go_enter Tryd.func14, Tryd.ntmps14
  rw [hL]
  clear hL
  go_wp2_with (first
    | (at_make; refine wpList_make_own _ rfl _ _ 22 rfl N 5 i0 (.int .u8 0) 1 Tryd.underlying22 hi hz0 hz1 _ _ _ (L + 4) rfl rfl (by omega) (by rw [hz2]; omega) (by unfold maxLen; omega) (by omega) ?_; intro w1 hown hgrow; rw [hN] at hown; have hb1 : Below N w w1 := (Below.refl _ w).grown hgrow (by omega) (fun j hj => by cases hj); have HV1 := Lib.hid (HV.out.below hb1 (by omega)); have hs1 := hb1.size)
    | (at_builtin; refine wpList_appN rfl _ _ 22 rfl N 5 .u8 1 Tryd.underlying22 info_u8 (by omega) _ _ _ rfl hown _ _ rfl HV1.out (by rw [HL.out]; omega) (by omega) ?_; intro v2 w2 hown2 hb2; clear hown; have hs2 := hb2.size))
  have HV2 := Lib.hid (HV.out.below (hb1.trans hb2) (by omega))
  have HT2 := Lib.hid (HT.out.below (hb1.trans hb2) (by omega))
  refine (sum_any _ [bs] _ (HT2.out.alloc (by omega) _) (IsLists.one HV2.out w2.heap.size rfl _) (by
    intro j hj
    obtain rfl : j = 0 := by simpa using hj
    exact ⟨HB.out, by show bs.length ≤ _; rw [HL.out]; omega⟩) (by simp)).mono ?_
  rintro e w3 ⟨rfl, rfl⟩
  go_wp2_with fail
  refine (four_any (sumC [bs]) _ (sumC_range _)).mono ?_
  rintro e w4 ⟨u4, rfl, hown4, hb4⟩
  have hz2 : (w2.alloc (Obj.cells #[Value.slice p L cc] 22)).heap.size = w2.heap.size + 1 := by simp
  have hown5 : w4.ownsRow N 5 1 v2 (0 + bs.length) ([] ++ List.map (Value.int IntKind.u8) bs) := own_below (hown2.alloc _) hb4 (Nat.le_refl _)
  have hs4 := hb4.size
  have HN := Lib.hid (IsNums.ofOwn hown4)
  have hb5 : Below N w w4 := ((hb1.trans hb2).alloc (by omega) _).trans (hb4.mono (by omega))
  clear hown2 hown4 hb4 hb1 hb2 hgrow HV HV1 HV2 HT2
  go_wp2_with (at_builtin; refine wpList_appN rfl _ _ 22 rfl N 5 .u8 1 Tryd.underlying22 info_u8 (by omega) _ _ _ rfl hown5 _ _ rfl HN.out (by rw [HL.out, fourC_len]; omega) (by omega) ?_; intro v6 w6 hown6 hb6)
  go_ret
  refine ⟨_, rfl, ?_, by rw [hN]; exact hb5.trans hb6⟩
  rw [hN]
  have e1 : (sealC bs).length = 0 + bs.length + (fourC (sumC [bs])).length := by rw [sealC_len, fourC_len]; omega
  rw [e1]
  simpa [sealC] using hown6
end Go.Proofs.YtkbehdjaegomgaaDoor.K
