/- export: streams one behind another: the mathematics. -/
import Derived.Test.YtamjnimaeecmoaaGreatExpM
namespace Go.Proofs.YtamjnimaeecmoaaGreat.K
open Go.ChangeShapes Go.WideShapes Go.ChangeAt Go.RowKit
set_option linter.unusedVariables false
set_option linter.unusedSimpArgs false
theorem selI_succ (S : List (List Int)) (P : Nat → Bool) (b : Nat) : selI S P (b + 1) = selI S P b ++ (if P b = true then [((b : Int), S.getD b [])] else []) := by
 unfold selI
 rw [List.range_succ, List.filter_append, List.map_append]
 congr 1
 by_cases h : P b = true
 · rw [if_pos h, List.filter_cons_of_pos h]; rfl
 rw [if_neg h, List.filter_cons_of_neg h]; rfl
theorem selI_get {S : List (List Int)} {P : Nat → Bool} {N k : Nat} {e : Int × List Int} (h : (selI S P N)[k]? = some e) : ∃ q : Nat, q < N ∧ P q = true ∧ e = ((q : Int), S.getD q []) := by
 have hm := List.mem_of_getElem? h
 unfold selI at hm
 obtain ⟨q, hq, rfl⟩ := List.mem_map.1 hm
 have h1 := List.mem_filter.1 hq
 exact ⟨q, List.mem_range.1 h1.1, h1.2, rfl⟩
theorem selI_rise (S : List (List Int)) (P : Nat → Bool) (N : Nat) : (selI S P N).Pairwise fun a b => a.1 < b.1 := by
 unfold selI
 rw [List.pairwise_map]
 refine (List.Pairwise.filter _ List.pairwise_lt_range).imp fun {a b} h => ?_
 show (a : Int) < (b : Int)
 omega
theorem sel_at {S : List (List Int)} {P : Nat → Bool} {b N : Nat} (hb : b < N) :
   (P b = true ∧ (selI S P b).length < (selI S P N).length ∧ (selI S P N)[(selI S P b).length]? = some ((b : Int), S.getD b []) ∧ (selI S P (b + 1)).length = (selI S P b).length + 1) ∨
   (P b = false ∧ (selI S P b).length < (selI S P N).length ∧ (∃ q d, (selI S P N)[(selI S P b).length]? = some (q, d) ∧ (b : Int) < q) ∧ (selI S P (b + 1)).length = (selI S P b).length) ∨
   (P b = false ∧ (selI S P N).length ≤ (selI S P b).length ∧ (selI S P (b + 1)).length = (selI S P b).length) := by
 have h1 := selI_succ S P b
 have h2 := selI_ck S P (b + 1) (N - (b + 1))
 rw [show b + 1 + (N - (b + 1)) = N by omega] at h2
 cases hP : P b with
 | true =>
   rw [if_pos hP] at h1
   rw [h1] at h2
   refine .inl ⟨rfl, ?_, ?_, ?_⟩
   · rw [h2, List.length_append, List.length_append, List.length_singleton]; omega
   · rw [h2, List.append_assoc, List.getElem?_append_right (Nat.le_refl _), Nat.sub_self]; rfl
   rw [h1, List.length_append]; rfl
 | false =>
   rw [if_neg (by rw [hP]; simp), List.append_nil] at h1
   rw [h1] at h2
   rcases Nat.lt_or_ge (selI S P b).length (selI S P N).length with h3 | h3
   · refine .inr (.inl ⟨rfl, h3, ?_, by rw [h1]⟩)
     obtain ⟨e, he⟩ : ∃ e, (selI S P N)[(selI S P b).length]? = some e := ⟨_, List.getElem?_eq_getElem h3⟩
     refine ⟨e.1, e.2, he, ?_⟩
     rw [h2, List.getElem?_append_right (Nat.le_refl _), Nat.sub_self] at he
     have hm := List.mem_of_getElem? he
     unfold ckI at hm
     obtain ⟨q, -, rfl⟩ := List.mem_map.1 hm
     show (b : Int) < ((b + 1 + q : Nat) : Int)
     omega
   exact .inr (.inr ⟨rfl, h3, by rw [h1]⟩)
theorem stL_at {y : VolV} {n t b : Nat} (hS : VolS n y) (hn : n ≤ 1000) (hb : b < y.bl.toNat) (hf : y.fl ≤ (t : Int)) (ht : t ≤ y.ws.length) : (atF (pruneF (blkH (y.ws.take y.ws.length) (b : Int)) (min y.fl (y.ws.length : Int))) (t : Int)).getD (List.replicate y.sz.toNat 0) = (stL y.bl y.sz y.ws t).getD b [] := by
 have hF := hS.f hn
 have h := chu_read hF.wr (fi := ((0 : Nat) : Int)) (fl := min y.fl (y.ws.length : Int)) (fn := 0) (cnt := y.bl.toNat) (m := y.ws.length) (t := t) (i := b) rfl (by have := hF.fl1; omega) ht hb (by omega)
 rw [chuH_at hb] at h
 rw [show ((0 : Nat) : Int) + (b : Int) = (b : Int) by omega, show (0 + b : Nat) = b by omega] at h
 exact h
theorem same_at {y : VolV} {n t u b : Nat} (hS : VolS n y) (hn : n ≤ 1000) (hb : b < y.bl.toNat) (hf : y.fl ≤ (t : Int)) (htu : t ≤ u) (hu : u ≤ y.ws.length) (hc : chgB y (t : Int) (u : Int) b = false) : (stL y.bl y.sz y.ws t).getD b [] = (stL y.bl y.sz y.ws u).getD b [] := by
 have hF := hS.f hn
 rw [← stL_at hS hn hb hf (by omega), ← stL_at hS hn hb (by omega) hu]
 unfold chgB at hc
 have hr : Rise (pruneF (blkH (y.ws.take y.ws.length) (b : Int)) (min y.fl (y.ws.length : Int))) := prune_rise (blk_rise (ws_rise hF.wr).take)
 rw [chg_no hr (by omega) hc]
def stI (y : VolV) (x : Int × Nat) : List (Int × List Int) := if x.1 < 0 then wholeI (stL y.bl y.sz y.ws x.2) y.bl.toNat else selI (stL y.bl y.sz y.ws x.2) (chgB y x.1 (x.2 : Int)) y.bl.toNat
def stR (y : VolV) (x : Int × Nat) : List D := [.v (.int .i64 y.bl), .v (.int .i64 y.sz), .v (.int .i64 x.1), .v (.int .i64 (x.2 : Int)), .l 2 ((stI y x).map itD)]
theorem stR_get {y : VolV} {L : List (Int × Nat)} {i : Nat} {x : Int × Nat} (e : L[i]? = some x) : (L.map (stR y))[i]? = some [.v (.int .i64 y.bl), .v (.int .i64 y.sz), .v (.int .i64 x.1), .v (.int .i64 (x.2 : Int)), .l 2 ((stI y x).map itD)] := by simp [e, stR]
theorem stI_sub (y : VolV) (x : Int × Nat) : ∃ P : Nat → Bool, stI y x = selI (stL y.bl y.sz y.ws x.2) P y.bl.toNat ∧ (x.1 < 0 → P = fun _ => true) ∧ (0 ≤ x.1 → P = chgB y x.1 (x.2 : Int)) := by
 unfold stI
 by_cases h : x.1 < 0
 · rw [if_pos h]
   exact ⟨fun _ => true, (selI_all _ _).symm, fun _ => rfl, fun h2 => by omega⟩
 rw [if_neg h]
 exact ⟨_, rfl, fun h2 => absurd h2 h, fun _ => rfl⟩
def ChS (y : VolV) (L : List (Int × Nat)) : Prop := ∀ (i : Nat) (x : Int × Nat), L[i]? = some x → (y.fl ≤ (x.2 : Int) ∧ x.2 ≤ y.ws.length) ∧ -1 ≤ x.1 ∧ x.1 ≤ (x.2 : Int) ∧ (i = 0 → x.1 = -1) ∧ ∀ (j : Nat) (z : Int × Nat), i = j + 1 → L[j]? = some z → x.1 = (z.2 : Int)
theorem ChS.ok {y : VolV} {n i : Nat} {L : List (Int × Nat)} {x : Int × Nat} (h : ChS y L) (hS : VolS n y) (hn : n ≤ 1000) (hx : L[i]? = some x) : StreamOk y.bl y.sz x.1 (x.2 : Int) (stI y x) := by
 obtain ⟨⟨h1, h2⟩, h3, h4, -, -⟩ := h i x hx
 have hF := hS.f hn
 have hb := hF.bl
 have hz := hF.sz
 have hf0 := hF.fl0
 have hwl := hF.wl
 obtain ⟨P, hP, hP1, hP2⟩ := stI_sub y x
 rw [hP]
 have hlen := selI_len (stL y.bl y.sz y.ws x.2) P y.bl.toNat
 refine ⟨hb, hz, h3, ⟨by omega, by omega⟩, h4, fun h5 => ?_, fun k e he => ?_, by omega⟩
 · rw [hP1 (by omega), selI_all, wholeI_len]; omega
 obtain ⟨q, hq, -, rfl⟩ := selI_get he
 refine ⟨?_, by show (q : Int) < y.bl; omega, stL_sz hS.1 x.2 q (by rw [stL_len]; exact hq)⟩
 unfold lastB
 split
 · show (-1 : Int) < (q : Int); omega
 rename_i h0
 have hk := (List.getElem?_eq_some_iff.1 he).1
 have h7 := (List.pairwise_iff_getElem.1 (selI_rise (stL y.bl y.sz y.ws x.2) P y.bl.toNat)) (k - 1) k (by omega) hk (by omega)
 rw [(List.getElem?_eq_some_iff.1 he).2] at h7
 rw [List.getD, List.getElem?_eq_getElem (by omega)]
 exact h7
theorem ChS.snoc {y : VolV} {L : List (Int × Nat)} {f : Int} {t : Nat} (h : ChS y L) (ht : y.fl ≤ (t : Int) ∧ t ≤ y.ws.length) (hf : f ≤ (t : Int)) (h0 : -1 ≤ f) (hL0 : L = [] → f = -1) (hLn : ∀ z, L[L.length - 1]? = some z → f = (z.2 : Int)) : ChS y (L ++ [(f, t)]) := by
 intro i x hx
 rcases Nat.lt_or_ge i L.length with h1 | h1
 · rw [List.getElem?_append_left h1] at hx
   obtain ⟨a1, a2, a3, a4, a5⟩ := h i x hx
   exact ⟨a1, a2, a3, a4, fun j z hj hz => a5 j z hj (by rw [List.getElem?_append_left (by omega)] at hz; exact hz)⟩
 have h2 := (List.getElem?_eq_some_iff.1 hx).1
 rw [List.length_append, List.length_singleton] at h2
 obtain rfl : i = L.length := by omega
 rw [List.getElem?_append_right (Nat.le_refl _), Nat.sub_self] at hx
 obtain rfl : (f, t) = x := by simpa using hx
 refine ⟨ht, h0, hf, fun e => hL0 (List.eq_nil_of_length_eq_zero e), fun j z hj hz => ?_⟩
 rw [List.getElem?_append_left (by omega)] at hz
 exact hLn z (by rw [show L.length - 1 = j by omega]; exact hz)
end Go.Proofs.YtamjnimaeecmoaaGreat.K
