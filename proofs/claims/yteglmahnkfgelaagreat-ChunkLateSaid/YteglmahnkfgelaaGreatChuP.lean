/- chunk: pushes of a volume are right, and what a chunk of them is. -/
import Derived.Test.YteglmahnkfgelaaGreatChu10
import Derived.Test.YteglmahnkfgelaaGreatG5
namespace Go.Proofs.YteglmahnkfgelaaGreat.K
open Go.ChangeShapes Go.WideShapes Go.ChangeAt Go.RowKit
set_option linter.unusedVariables false
set_option linter.unusedSimpArgs false
theorem its_mem {bl sz : Int} {l : List (Int × List Int)} (h : ItemsR bl sz l) {x : Int × List Int} (hx : x ∈ l) : 0 ≤ x.1 ∧ x.1 < bl ∧ (x.2.length : Int) = sz := by
 obtain ⟨j, hj, rfl⟩ := List.getElem_of_mem hx
 have h1 := h.2.2 j hj
 rw [List.getD, List.getElem?_eq_getElem hj] at h1
 exact ⟨h1.1, h1.2.1, h1.2.2.1⟩
theorem items_right {bl sz fi cnt : Int} {l : List (Int × List Int)} (h : ItemsR bl sz l) (hne : 0 < (itemsL fi cnt l).length) : ItemsR cnt sz (itemsL fi cnt l) := by
 refine ⟨hne, Nat.le_trans (itemsL_len fi cnt l) h.2.1, ?_⟩
 have hu : (itemsL fi cnt l).Pairwise fun x y => x.1 ≠ y.1 := by
   unfold itemsL
   rw [List.pairwise_map]
   refine ((itemsR_unl h).filter _).imp ?_
   intro a b hab e
   exact hab (by have e' : a.1 - fi = b.1 - fi := e; omega)
 intro j hj
 have hm : (itemsL fi cnt l)[j] ∈ itemsL fi cnt l := List.getElem_mem hj
 have hg : (itemsL fi cnt l).getD j i0 = (itemsL fi cnt l)[j] := by rw [List.getD, List.getElem?_eq_getElem hj]; rfl
 rw [hg]
 have hb : 0 ≤ ((itemsL fi cnt l)[j]).1 ∧ ((itemsL fi cnt l)[j]).1 < cnt ∧ ((((itemsL fi cnt l)[j]).2.length : Nat) : Int) = sz := by
   revert hm
   generalize (itemsL fi cnt l)[j] = z
   intro hm
   unfold itemsL at hm
   obtain ⟨x, hx, rfl⟩ := List.mem_map.1 hm
   have h1 := List.mem_filter.1 hx
   have h2 := of_decide_eq_true h1.2
   have h3 := its_mem h h1.1
   exact ⟨by show 0 ≤ x.1 - fi; omega, by show x.1 - fi < cnt; omega, h3.2.2⟩
 refine ⟨hb.1, hb.2.1, hb.2.2, ?_⟩
 rintro ⟨e, he, e1⟩
 obtain ⟨i, hi, rfl⟩ := List.getElem_of_mem he
 rw [List.length_take] at hi
 rw [List.getElem_take] at e1
 exact (List.pairwise_iff_getElem.1 hu) i j (by omega) hj (by omega) e1
theorem push_nonempty {fi cnt : Int} {W : List PWr} {e : PWr} (he : e ∈ pushL fi cnt W) : 0 < e.2.length := by
 unfold pushL at he
 exact of_decide_eq_true (List.mem_filter.1 he).2
theorem push_ok {bl sz : Int} {ws : List PWr} (hw : WrPre bl sz ws ws.length) (hwl : ws.length ≤ 1000000) {vo ch fi cnt fl2 : Int} (hsh : ShOk vo ch cnt sz) {mk tq : Nat} (hmk : mk ≤ tq) (htq : tq ≤ ws.length) (h4 : tq ≤ mk + 4) (hfl2 : 0 ≤ fl2 ∧ fl2 ≤ tq) : PuOk vo ch cnt sz mk tq fl2 (pushL fi cnt ((ws.take tq).drop mk)) := by
 refine ⟨hsh, by omega, by omega, hfl2, ?_, ?_⟩
 · refine Nat.le_trans (push_len _ _ _) ?_
   rw [List.length_drop, List.length_take]; omega
 have hR : (pushL fi cnt ((ws.take tq).drop mk)).Pairwise fun a b => a.1 < b.1 := push_rise ((ws_rise hw).take).drop
 have hM : ∀ e ∈ pushL fi cnt ((ws.take tq).drop mk), (mk : Int) < e.1 ∧ e.1 ≤ tq ∧ ItemsR cnt sz e.2 := by
   intro e he
   have h0 := push_nonempty he
   obtain ⟨w, hwm, rfl⟩ := push_mem he
   have h2 := ws_take hw (List.mem_of_mem_drop hwm)
   exact ⟨ws_drop (e := w) hw hwm, h2.2, items_right (ws_mem hw (List.mem_of_mem_take (List.mem_of_mem_drop hwm))).1 h0⟩
 intro j hj
 have hg : (pushL fi cnt ((ws.take tq).drop mk)).getD j w1 = (pushL fi cnt ((ws.take tq).drop mk))[j] := by rw [List.getD, List.getElem?_eq_getElem hj]; rfl
 rw [hg]
 have h1 := hM _ (List.getElem_mem hj)
 refine ⟨?_, h1.2.1, h1.2.2⟩
 split
 · exact h1.1
 have hg2 : (pushL fi cnt ((ws.take tq).drop mk)).getD (j - 1) w1 = (pushL fi cnt ((ws.take tq).drop mk))[j - 1]'(by omega) := by rw [List.getD, List.getElem?_eq_getElem (by omega)]; rfl
 rw [hg2]
 exact (List.pairwise_iff_getElem.1 hR) (j - 1) j (by omega) hj (by omega)
theorem chu_hb {bl sz : Int} {ws : List PWr} (hw : WrPre bl sz ws ws.length) (hsz : sz ≤ 32) {fi fl : Int} {cnt m : Nat} (hm : m ≤ 1000) : HB 900000 (chuH ws fi cnt m fl) := fun h hh => by
 have h1 := chu_right hw hh
 exact ⟨h1.1, by omega, fun v hv => by have := (h1.2.1 v hv).2.2; omega, by decide⟩
theorem chu_rise {bl sz : Int} {ws : List PWr} (hw : WrPre bl sz ws ws.length) {fi fl : Int} {cnt m : Nat} : ∀ h ∈ chuH ws fi cnt m fl, Rise h := fun h hh => (chu_right hw hh).1
theorem chunk_math {bl pe ch : Int} {len : Nat} (h1 : 1 ≤ pe) (h2 : pe ≤ bl) (h3 : bl ≤ 256) (hl : (len : Int) = (bl + pe - 1) / pe) (hc : 0 ≤ ch ∧ ch < len) : 0 ≤ ch * pe ∧ ch * pe ≤ 1000000 ∧ 1 ≤ bl - ch * pe := by
 have q1 := Int.ediv_mul_le (bl + pe - 1) (show pe ≠ 0 by omega)
 rw [← hl] at q1
 have q3 : 0 ≤ ch * pe := Int.mul_nonneg hc.1 (by omega)
 have q4 : ch * pe ≤ ((len : Int) - 1) * pe := Int.mul_le_mul_of_nonneg_right (by omega) (by omega)
 rw [Int.sub_mul, Int.one_mul] at q4
 exact ⟨q3, by omega, by omega⟩
structure CkOk (y : VolV) (k fn cnt : Nat) : Prop where
 kp : k < y.place.length
 fe : (fn : Int) = (k : Int) * y.pe
 ce : (cnt : Int) = min y.pe (y.bl - fn)
 pos : 1 ≤ cnt
 top : fn + cnt ≤ y.bl.toNat
 k255 : k ≤ 255
 c256 : cnt ≤ 256
 fnb : fn ≤ 1000
theorem ck_ok {y : VolV} {n k : Nat} (hS : VolS n y) (hk : k < y.place.length) : ∃ fn cnt, CkOk y k fn cnt := by
 obtain ⟨v1, -⟩ := hS.1
 obtain ⟨n1, n2, n3, n4, n5, n6, n7, n8, n9, n10, n11⟩ := v1
 have h := chunk_math n7 n8 n4 n9.2 (ch := (k : Int)) ⟨by omega, by omega⟩
 have hkb : (k : Int) ≤ (k : Int) * y.pe := by
   have := Int.mul_le_mul_of_nonneg_left n7 (show (0 : Int) ≤ k by omega)
   omega
 exact ⟨((k : Int) * y.pe).toNat, (min y.pe (y.bl - (k : Int) * y.pe)).toNat, hk, by omega, by omega, by omega, by omega, by omega, by omega, by omega⟩
def tqN (y : VolV) (m : Nat) : Nat := min (m + 4) y.ws.length
def pwN (y : VolV) (fn cnt m : Nat) : List PWr := pushL (fn : Int) (cnt : Int) ((y.ws.take (tqN y m)).drop m)
def chN (y : VolV) (fn cnt m : Nat) : List (List Ver) := chuH y.ws (fn : Int) cnt m (min y.fl (m : Int))
theorem chN_len (y : VolV) (fn cnt m : Nat) : (chN y fn cnt m).length = cnt := chuH_len _ _ _ _ _
structure VolF (y : VolV) : Prop where
 wr : WrPre y.bl y.sz y.ws y.ws.length
 wl : y.ws.length ≤ 1000
 fl0 : 0 ≤ y.fl
 fl1 : y.fl ≤ y.ws.length
 vo : 0 ≤ y.vo ∧ y.vo ≤ 7
 bl : 1 ≤ y.bl ∧ y.bl ≤ 256
 sz : 1 ≤ y.sz ∧ y.sz ≤ 32
 pe : 1 ≤ y.pe ∧ y.pe ≤ y.bl
theorem VolS.f {y : VolV} {n : Nat} (hS : VolS n y) (hn : n ≤ 1000) : VolF y := by
 obtain ⟨v1, v2, v3, v4, v5, v6, v7, v8, v9⟩ := hS.1
 obtain ⟨n1, n2, n3, n4, n5, n6, n7, n8, n9, n10, n11⟩ := v1
 have := hS.2.2.2.1
 exact ⟨v9, by omega, v6, v7, ⟨n1, n2⟩, ⟨n3, n4⟩, ⟨n5, n6⟩, ⟨n7, n8⟩⟩
theorem CkOk.sh {y : VolV} {k fn cnt : Nat} (h : CkOk y k fn cnt) (hF : VolF y) : ShOk y.vo k cnt y.sz := ⟨hF.vo, ⟨by omega, by have := h.k255; omega⟩, ⟨by have := h.pos; omega, by have := h.c256; omega⟩, hF.sz⟩
theorem pw_ok {y : VolV} {k fn cnt : Nat} (h : CkOk y k fn cnt) (hF : VolF y) {m : Nat} (hm : m ≤ y.ws.length) : PuOk y.vo k cnt y.sz m (tqN y m) (min y.fl (tqN y m)) (pwN y fn cnt m) := by
 have := hF.wl; have := hF.fl0
 exact push_ok hF.wr (by omega) (h.sh hF) (by unfold tqN; omega) (by unfold tqN; omega) (by unfold tqN; omega) (by omega)
theorem ch_apply {y : VolV} {k fn cnt : Nat} (h : CkOk y k fn cnt) (hF : VolF y) {m : Nat} (hm : m ≤ y.ws.length) : (applyW m (chN y fn cnt m) (pwN y fn cnt m)).map (fun x => pruneF x (min y.fl (tqN y m))) = chN y fn cnt (tqN y m) := by
 have := hF.wl
 have h1 := chu_apply hF.wr (by omega) (fi := fn) (fl := min y.fl (m : Int)) (fl2 := min y.fl (tqN y m)) (cnt := cnt) (mk := m) (m := m) (tq := tqN y m) (Nat.le_refl _) hm (by unfold tqN; omega)
 rw [show max m (tqN y m) = tqN y m by unfold tqN; omega] at h1
 exact h1
end Go.Proofs.YteglmahnkfgelaaGreat.K
