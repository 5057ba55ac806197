/- chunk: a chunk of a volume's writes, as far as a mark. -/
import Derived.Test.YteglmahnkfgelaaGreatChuN
namespace Go.Proofs.YteglmahnkfgelaaGreat.K
open Go.ChangeShapes Go.WideShapes Go.ChangeAt Go.RowKit
set_option linter.unusedVariables false
set_option linter.unusedSimpArgs false
theorem itemsR_unl {bl sz : Int} {l : Its} (h : ItemsR bl sz l) : Unl l := by
 unfold Unl
 rw [List.pairwise_iff_getElem]
 intro i j hi hj hij e
 have h1 := (h.2.2 j hj).2.2.2
 refine h1 ⟨l[i], ?_, ?_⟩
 · rw [List.mem_iff_getElem]
   exact ⟨i, by rw [List.length_take]; omega, by rw [List.getElem_take]⟩
 rw [List.getD, List.getElem?_eq_getElem hj]; exact e
theorem ws_at {bl sz : Int} {ws : List PWr} (h : WrPre bl sz ws ws.length) {j : Nat} (hj : j < ws.length) : (ws[j]).1 = j + 1 ∧ ItemsR bl sz (ws[j]).2 := by
 have := h j hj
 rw [List.getD, List.getElem?_eq_getElem hj] at this
 exact this
theorem ws_mem {bl sz : Int} {ws : List PWr} (h : WrPre bl sz ws ws.length) {e : PWr} (he : e ∈ ws) : ItemsR bl sz e.2 ∧ 1 ≤ e.1 ∧ e.1 ≤ ws.length := by
 obtain ⟨j, hj, rfl⟩ := List.getElem_of_mem he
 have := ws_at h hj
 exact ⟨this.2, by omega, by omega⟩
theorem ws_take {bl sz : Int} {ws : List PWr} (h : WrPre bl sz ws ws.length) {t : Nat} {e : PWr} (he : e ∈ ws.take t) : 1 ≤ e.1 ∧ e.1 ≤ t := by
 obtain ⟨j, hj, rfl⟩ := List.getElem_of_mem he
 rw [List.length_take] at hj
 have := ws_at h (j := j) (by omega)
 rw [List.getElem_take]
 omega
theorem ws_drop {bl sz : Int} {ws : List PWr} (h : WrPre bl sz ws ws.length) {tq m : Nat} {e : PWr} (he : e ∈ (ws.take tq).drop m) : (m : Int) < e.1 := by
 obtain ⟨j, hj, rfl⟩ := List.getElem_of_mem he
 rw [List.length_drop, List.length_take] at hj
 have := ws_at h (j := m + j) (by omega)
 rw [List.getElem_drop, List.getElem_take]
 omega
theorem ws_rise {bl sz : Int} {ws : List PWr} (h : WrPre bl sz ws ws.length) : ws.Pairwise fun a b => a.1 < b.1 := by
 rw [List.pairwise_iff_getElem]
 intro i j hi hj hij
 have h1 := ws_at h hi
 have h2 := ws_at h hj
 omega
theorem ws_filter {bl sz : Int} {ws : List PWr} (h : WrPre bl sz ws ws.length) {mk m tq : Nat} (hm : mk ≤ m) : ((ws.take tq).drop mk).filter (fun e => decide ((m : Int) < e.1)) = (ws.take tq).drop m := by
 have e : (ws.take tq).drop mk = ((ws.take tq).drop mk).take (m - mk) ++ (ws.take tq).drop m := by
   have h1 := (List.take_append_drop (m - mk) ((ws.take tq).drop mk)).symm
   rw [List.drop_drop, show mk + (m - mk) = m by omega] at h1
   exact h1
 rw [e, List.filter_append, List.filter_eq_nil_iff.2 (fun x hx => ?_), List.filter_eq_self.2 (fun x hx => by simpa using ws_drop h hx), List.nil_append]
 obtain ⟨j, hj, rfl⟩ := List.getElem_of_mem hx
 rw [List.length_take, List.length_drop, List.length_take] at hj
 have h2 := ws_at h (j := mk + j) (by omega)
 rw [List.getElem_take, List.getElem_drop, List.getElem_take]
 simp
 omega
theorem push_filter {fi cnt : Int} {m : Int} : ∀ {W : List PWr}, (pushL fi cnt W).filter (fun e => decide (m < e.1)) = pushL fi cnt (W.filter fun e => decide (m < e.1))
 | [] => rfl
 | e :: W => by
   have ih := push_filter (fi := fi) (cnt := cnt) (m := m) (W := W)
   unfold pushL at ih ⊢
   rw [List.map_cons]
   by_cases h : 0 < (itemsL fi cnt e.2).length
   · rw [List.filter_cons_of_pos (by simpa using h)]
     by_cases h2 : m < e.1
     · rw [List.filter_cons_of_pos (by simpa using h2), List.filter_cons_of_pos (by simpa using h2), List.map_cons, List.filter_cons_of_pos (by simpa using h), ih]
     rw [List.filter_cons_of_neg (by simpa using h2), List.filter_cons_of_neg (by simpa using h2), ih]
   rw [List.filter_cons_of_neg (by simpa using h)]
   by_cases h2 : m < e.1
   · rw [List.filter_cons_of_pos (by simpa using h2), List.map_cons, List.filter_cons_of_neg (by simpa using h), ih]
   rw [List.filter_cons_of_neg (by simpa using h2), ih]
theorem push_mem {fi cnt : Int} {W : List PWr} {e : PWr} (he : e ∈ pushL fi cnt W) : ∃ w ∈ W, e = (w.1, itemsL fi cnt w.2) := by
 unfold pushL at he
 obtain ⟨w, hw, rfl⟩ := List.mem_map.1 (List.mem_filter.1 he).1
 exact ⟨w, hw, rfl⟩
theorem push_rise {fi cnt : Int} {W : List PWr} (h : W.Pairwise fun a b => a.1 < b.1) : (pushL fi cnt W).Pairwise fun a b => a.1 < b.1 := by
 unfold pushL
 refine List.Pairwise.filter _ ?_
 rw [List.pairwise_map]
 exact h
theorem items_unl {fi cnt : Int} {l : Its} (h : Unl l) : Unl (itemsL fi cnt l) := by
 unfold itemsL Unl
 rw [List.pairwise_map]
 exact (List.Pairwise.filter _ h).imp fun {a b} hab => by
   show a.1 - fi ≠ b.1 - fi
   intro e; exact hab (by omega)
theorem items_in {fi cnt : Int} {l : Its} {x : Int × List Int} (h : x ∈ itemsL fi cnt l) : 0 ≤ x.1 ∧ x.1 < cnt := by
 unfold itemsL at h
 obtain ⟨y, hy, rfl⟩ := List.mem_map.1 h
 have := (List.mem_filter.1 hy).2
 simp at this
 constructor
 · show 0 ≤ y.1 - fi; omega
 show y.1 - fi < cnt; omega
def chuH (ws : List PWr) (fi : Int) (cnt m : Nat) (fl : Int) : Hs := (List.range cnt).map fun (i : Nat) => pruneF (blkH (ws.take m) (fi + (i : Int))) fl
theorem chuH_len (ws : List PWr) (fi : Int) (cnt m : Nat) (fl : Int) : (chuH ws fi cnt m fl).length = cnt := by unfold chuH; rw [List.length_map, List.length_range]
theorem chuH_at {ws : List PWr} {fi : Int} {cnt m : Nat} {fl : Int} {i : Nat} (hi : i < cnt) : (chuH ws fi cnt m fl).getD i [] = pruneF (blkH (ws.take m) (fi + (i : Int))) fl := by
 unfold chuH
 rw [List.getD, List.getElem?_map, List.getElem?_range hi]; rfl
theorem blk_mem {W : List PWr} {b : Int} {v : Ver} (h : v ∈ blkH W b) : ∃ e ∈ W, v.1 = e.1 ∧ ∃ x ∈ e.2, v.2 = x.2 := by
 unfold blkH at h
 obtain ⟨e, he, h2⟩ := List.mem_filterMap.1 h
 obtain ⟨d, hd, rfl⟩ := Option.map_eq_some_iff.1 h2
 unfold hitD at hd
 obtain ⟨x, hx, rfl⟩ := Option.map_eq_some_iff.1 hd
 exact ⟨e, he, rfl, x, List.mem_of_find?_eq_some hx, rfl⟩
theorem blk_rise {W : List PWr} {b : Int} (h : W.Pairwise fun a b => a.1 < b.1) : Rise (blkH W b) := by
 induction W with
 | nil => exact List.Pairwise.nil
 | cons e W ih =>
   have h1 := List.pairwise_cons.1 h
   rw [blk_cons]
   cases hitD b e.2 with
   | none => exact ih h1.2
   | some d =>
     refine List.pairwise_cons.2 ⟨fun v hv => ?_, ih h1.2⟩
     obtain ⟨e2, he2, h2, -⟩ := blk_mem hv
     have := h1.1 e2 he2
     show e.1 < v.1
     omega
theorem mem_prune {h : List Ver} {f : Int} {v : Ver} (hv : v ∈ pruneF h f) : v ∈ h := List.mem_of_mem_drop hv
theorem chu_apply {bl sz : Int} {ws : List PWr} (hw : WrPre bl sz ws ws.length) (hwl : ws.length ≤ 1000000) {fi fl fl2 : Int} {cnt mk m tq : Nat} (hmk : mk ≤ m) (hm : m ≤ ws.length) (hfl : fl ≤ fl2) :
   (applyW m (chuH ws fi cnt m fl) (pushL fi cnt ((ws.take tq).drop mk))).map (fun h => pruneF h fl2) = chuH ws fi cnt (max m tq) fl2 := by
 have hsub : ∀ w ∈ (ws.take tq).drop mk, w ∈ ws := fun w h => List.mem_of_mem_take (List.mem_of_mem_drop h)
 have hR : ((ws.take tq).drop mk).Pairwise fun a b => a.1 < b.1 := ((ws_rise hw).take).drop
 have hA := applyW_at (m := m) (W := pushL fi cnt ((ws.take tq).drop mk)) (H := chuH ws fi cnt m fl) (push_rise hR) (fun e he => by
   obtain ⟨w, h1, rfl⟩ := push_mem he
   have h2 := ws_mem hw (hsub w h1)
   refine ⟨⟨h2.2.1, by have := h2.2.2; show w.1 ≤ _; omega⟩, items_unl (itemsR_unl h2.1), fun x hx => ?_⟩
   rw [chuH_len]
   exact items_in hx) (fun i v hv e he h9 => by
   rcases Nat.lt_or_ge i cnt with hi | hi
   · rw [chuH_at hi] at hv
     obtain ⟨e2, he2, h3, -⟩ := blk_mem (mem_prune hv)
     have := ws_take hw he2
     omega
   rw [List.getD, List.getElem?_eq_none (by rw [chuH_len]; exact hi)] at hv
   exact absurd hv (by simp))
 apply List.ext_getElem
 · rw [List.length_map, applyW_len, chuH_len, chuH_len]
 intro i h1 h2
 rw [chuH_len] at h2
 have hi : i < (applyW m (chuH ws fi cnt m fl) (pushL fi cnt ((ws.take tq).drop mk))).length := by rw [applyW_len, chuH_len]; exact h2
 have e1 := hA i
 rw [List.getD, List.getElem?_eq_getElem hi] at e1
 have e2 := chuH_at (ws := ws) (fi := fi) (m := max m tq) (fl := fl2) h2
 rw [List.getD, List.getElem?_eq_getElem (by rw [chuH_len]; exact h2)] at e2
 rw [List.getElem_map]
 simp only [Option.getD_some] at e1 e2
 rw [e1, e2, chuH_at h2, push_filter, ws_filter hw hmk, blk_push (by omega), prune_prune hfl, ← blk_app]
 congr 2
 rcases Nat.le_total m tq with h | h
 · rw [Nat.max_eq_right h]
   have h8 := List.take_append_drop m (ws.take tq)
   rw [List.take_take, Nat.min_eq_left h] at h8
   exact h8
 rw [Nat.max_eq_left h, List.drop_eq_nil_of_le (by rw [List.length_take]; omega), List.append_nil]
theorem chuH_zero (ws : List PWr) (fi : Int) (cnt : Nat) (fl : Int) : chuH ws fi cnt 0 fl = List.replicate cnt [] := by
 apply List.ext_getElem
 · rw [chuH_len, List.length_replicate]
 intro i h1 h2
 have h3 := chuH_at (ws := ws) (fi := fi) (m := 0) (fl := fl) (i := i) (by rw [chuH_len] at h1; exact h1)
 rw [List.getD, List.getElem?_eq_getElem h1] at h3
 rw [List.getElem_replicate]
 exact h3
theorem chu_right {bl sz : Int} {ws : List PWr} (hw : WrPre bl sz ws ws.length) {fi fl : Int} {cnt m : Nat} {h : List Ver} (hh : h ∈ chuH ws fi cnt m fl) : Rise h ∧ (∀ v ∈ h, 1 ≤ v.1 ∧ v.1 ≤ m ∧ (v.2.length : Int) = sz) ∧ pruneF h fl = h ∧ h.length ≤ m := by
 unfold chuH at hh
 obtain ⟨i, -, rfl⟩ := List.mem_map.1 hh
 have hr : Rise (blkH (ws.take m) (fi + (i : Int))) := blk_rise (ws_rise hw).take
 refine ⟨prune_rise hr, fun v hv => ?_, ?_, ?_⟩
 · obtain ⟨e, he, h1, x, hx, h2⟩ := blk_mem (mem_prune hv)
   have h3 := ws_take hw he
   have h4 := (ws_mem hw (List.mem_of_mem_take he)).1
   obtain ⟨j, hj, rfl⟩ := List.getElem_of_mem hx
   have h5 := (h4.2.2 j hj).2.2.1
   rw [List.getD, List.getElem?_eq_getElem hj] at h5
   refine ⟨by omega, by omega, by rw [h2]; exact h5⟩
 · have := prune_prune (h := blkH (ws.take m) (fi + (i : Int))) (n := []) (f := fl) (g := fl) (Int.le_refl _)
   rwa [List.append_nil, List.append_nil] at this
 have h1 : (pruneF (blkH (ws.take m) (fi + (i : Int))) fl).length ≤ (blkH (ws.take m) (fi + (i : Int))).length := by unfold pruneF; rw [List.length_drop]; omega
 have h2 : (blkH (ws.take m) (fi + (i : Int))).length ≤ (ws.take m).length := List.length_filterMap_le _ _
 rw [List.length_take] at h2
 omega
theorem st_items {b : Nat} : ∀ {l : Its} {L : List (List Int)}, Unl l → b < L.length → (l.foldl stStep L).getD b [] = (hitD (b : Int) l).getD (L.getD b [])
 | [], L, _, _ => rfl
 | x :: l, L, hu, hb => by
   have hu' := List.pairwise_cons.1 hu
   have hl : (stStep L x).length = L.length := by unfold stStep; split <;> simp
   show (l.foldl stStep (stStep L x)).getD b [] = _
   rw [st_items hu'.2 (by rw [hl]; exact hb), hit_cons]
   by_cases h : x.1 = (b : Int)
   · rw [if_pos h, hit_none (fun y hy => by rw [← h]; exact fun e => hu'.1 y hy e.symm)]
     unfold stStep
     rw [if_pos (by omega)]
     show (L.set x.1.toNat x.2).getD b [] = x.2
     rw [show x.1.toNat = b by omega, List.getD, List.getElem?_set_self hb]; rfl
   rw [if_neg h]
   congr 1
   unfold stStep
   split
   · rw [List.getD, List.getElem?_set_ne (by omega)]; rfl
   rfl
theorem st_blk {b : Nat} : ∀ {W : List PWr} {L : List (List Int)}, (∀ e ∈ W, Unl e.2) → b < L.length → (W.foldl stW L).getD b [] = (((blkH W (b : Int)).getLast?).map (·.2)).getD (L.getD b [])
 | [], L, _, _ => rfl
 | e :: W, L, hu, hb => by
   show (W.foldl stW (stW L e)).getD b [] = _
   rw [st_blk (fun x hx => hu x (by simp [hx])) (by rw [stW_len]; exact hb), blk_cons]
   have h1 : (stW L e).getD b [] = (hitD (b : Int) e.2).getD (L.getD b []) := st_items (hu e (by simp)) hb
   rw [h1]
   cases hW : blkH W (b : Int) with
   | nil => cases hitD (b : Int) e.2 <;> rfl
   | cons v t => cases hitD (b : Int) e.2 <;> simp [List.getLast?_cons]
theorem chu_read {bl sz : Int} {ws : List PWr} (hw : WrPre bl sz ws ws.length) {fi fl : Int} {fn cnt m t i : Nat} (hfn : fi = fn) (hfl : fl ≤ t) (htm : t ≤ m) (hi : i < cnt) (hb : fn + i < bl.toNat) : (atF ((chuH ws fi cnt m fl).getD i []) t).getD (List.replicate sz.toNat 0) = (stL bl sz ws t).getD (fn + i) [] := by
 have hsplit : blkH (ws.take m) (fi + (i : Int)) = blkH (ws.take t) (fi + (i : Int)) ++ blkH ((ws.take m).drop t) (fi + (i : Int)) := by
   rw [← blk_app]
   have h8 := List.take_append_drop t (ws.take m)
   rw [List.take_take, Nat.min_eq_left htm] at h8
   rw [h8]
 rw [chuH_at hi, at_prune hfl, hsplit, at_app (fun v hv => by
   obtain ⟨e, he, h1, -⟩ := blk_mem hv
   have := ws_drop hw he
   omega), at_last (fun v hv => by
   obtain ⟨e, he, h1, -⟩ := blk_mem hv
   have := ws_take hw he
   omega)]
 have h := st_blk (b := fn + i) (W := ws.take t) (L := stZ bl sz) (fun e he => itemsR_unl (ws_mem hw (List.mem_of_mem_take he)).1) (by unfold stZ; rw [List.length_replicate]; exact hb)
 rw [show ((fn + i : Nat) : Int) = fi + (i : Int) by omega] at h
 rw [h]
 congr 1
 unfold stZ
 rw [List.getD, List.getElem?_replicate, if_pos hb]
 rfl
end Go.Proofs.YteglmahnkfgelaaGreat.K
