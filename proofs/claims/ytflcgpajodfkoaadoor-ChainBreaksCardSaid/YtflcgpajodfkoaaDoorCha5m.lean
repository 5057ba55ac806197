/- chain: a chain of which one is left out. -/
import Derived.Test.YtflcgpajodfkoaaDoorCha4
namespace Go.Proofs.YtflcgpajodfkoaaDoor.K
open Go.ChangeShapes Go.WideShapes Go.ChangeAt Go.RowKit
set_option linter.unusedVariables false
set_option linter.unusedSimpArgs false
theorem tmod_natC {a : Int} {n : Nat} (ha : 0 ≤ a) (hn : 0 < n) : ∃ x : Nat, a.tmod (n : Int) = (x : Int) ∧ x < n := by
 have h1 := Int.emod_nonneg a (show (n : Int) ≠ 0 by omega)
 have h2 := Int.emod_lt_of_pos a (show (0 : Int) < n by omega)
 exact ⟨(a % n).toNat, by rw [Int.tmod_eq_emod_of_nonneg ha]; omega, by omega⟩
abbrev restV (ss : List StrV) (k : Nat) : List StrV := ss.take k ++ ss.drop (k + 1)
theorem rest_mem {ss : List StrV} {k : Nat} {s : StrV} (h : s ∈ restV ss k) : s ∈ ss := by
 rcases List.mem_append.1 h with h | h
 · exact List.mem_of_mem_take h
 exact List.mem_of_mem_drop h
theorem rest_len (ss : List StrV) (k : Nat) : (restV ss k).length ≤ ss.length := by
 rw [List.length_append, List.length_take, List.length_drop]; omega
theorem rest_cases {y : VolV} {ss : List StrV} {k : Nat} {sk : StrV} (h : SegCh y (-1) ss) (h2 : 2 ≤ ss.length) (hsk : ss[k]? = some sk) : (ChainOk (restV ss k) ∧ k = ss.length - 1) ∨ (ChainOk (restV ss k) ∧ k ≠ ss.length - 1 ∧ 0 < k ∧ sk.fr = sk.to) ∨ (¬ ChainOk (restV ss k) ∧ k ≠ ss.length - 1 ∧ ¬ (0 < k ∧ sk.fr = sk.to)) := by
 have hk : k < ss.length := (List.getElem?_eq_some_iff.1 hsk).1
 have hsp : ss = ss.take k ++ sk :: ss.drop (k + 1) := by
   have e := List.take_append_drop k ss
   rw [List.drop_eq_getElem_cons hk] at e
   have e2 : ss[k] = sk := Option.some.inj ((List.getElem?_eq_getElem hk).symm.trans hsk)
   rw [e2] at e; exact e.symm
 have hc := h
 rw [hsp] at hc
 obtain ⟨c1, t, a1, a2, a3, c2⟩ := SegCh.app.1 hc
 have hlen : (restV ss k).length = ss.length - 1 := by rw [List.length_append, List.length_take, List.length_drop]; omega
 by_cases hke : k = ss.length - 1
 · refine .inl ⟨?_, hke⟩
   have e : restV ss k = ss.take k := by
     show ss.take k ++ ss.drop (k + 1) = _
     rw [List.drop_of_length_le (by omega), List.append_nil]
   rw [e]
   exact c1.chain (by rw [List.length_take]; omega)
 by_cases hf : 0 < k ∧ sk.fr = sk.to
 · refine .inr (.inl ⟨?_, hke, hf.1, hf.2⟩)
   have hch : SegCh y (-1) (restV ss k) := SegCh.app.2 ⟨c1, by
     have e : endT (-1) (ss.take k) = (t : Int) := by have := hf.2; rw [a3] at this; exact this
     rw [e]; exact c2⟩
   exact hch.chain (by omega)
 refine .inr (.inr ⟨fun hC => hf ?_, hke, hf⟩)
 have hj : k + 1 < ss.length := by omega
 obtain ⟨sj, hsj⟩ : ∃ e, ss[k + 1]? = some e := ⟨_, List.getElem?_eq_getElem hj⟩
 have hj2 : (restV ss k)[k]? = some sj := by
   show (ss.take k ++ ss.drop (k + 1))[k]? = _
   rw [List.getElem?_append_right (by rw [List.length_take]; omega), List.length_take, Nat.min_eq_left (by omega), Nat.sub_self, List.getElem?_drop]
   exact hsj
 have hfj : sj.fr = sk.to := by
   have h5 := (h.chain (by omega)).2 (k + 1) hj
   have h6 := (OkAt.of_get (by omega) (by rw [Nat.add_sub_cancel]; exact hsk) hsj).1 h5
   exact h6.2.2
 have hok := hC.2 k (by omega)
 have hto : 0 ≤ sk.to := by rw [a3]; show (0 : Int) ≤ (t : Int); omega
 rcases Nat.eq_zero_or_pos k with rfl | hp
 · have := (OkAt.of_zero hj2).1 hok; omega
 obtain ⟨si, hsi⟩ : ∃ e, ss[k - 1]? = some e := ⟨_, List.getElem?_eq_getElem (by omega)⟩
 have hi2 : (restV ss k)[k - 1]? = some si := by
   show (ss.take k ++ ss.drop (k + 1))[k - 1]? = _
   rw [List.getElem?_append_left (by rw [List.length_take]; omega), List.getElem?_take, if_pos (by omega)]
   exact hsi
 have h7 := ((OkAt.of_get hp hi2 hj2).1 hok).2.2
 have h8 := (OkAt.of_get hp hsi hsk).1 ((h.chain (by omega)).2 k hk)
 exact ⟨hp, by rw [h8.2.2, ← h7, hfj]⟩
theorem twice_no {y : VolV} {ss : List StrV} {s0 : StrV} (h : SegCh y (-1) ss) (h0 : 0 < ss.length) (hs : ss[0]? = some s0) : ¬ ChainOk (ss ++ [s0]) := fun hC => by
 have h1 := hC.2 ss.length (by simp)
 obtain ⟨sl, hsl⟩ : ∃ e, ss[ss.length - 1]? = some e := ⟨_, List.getElem?_eq_getElem (by omega)⟩
 have h2 := (OkAt.of_get h0 (by rw [List.getElem?_append_left (by omega)]; exact hsl) (by rw [List.getElem?_append_right (Nat.le_refl _), Nat.sub_self]; rfl)).1 h1
 obtain ⟨a, t, b1, b2, b3, rfl⟩ := h.mem (by omega) sl (List.mem_of_getElem? hsl)
 have h3 := (OkAt.of_zero hs).1 ((h.chain h0).2 0 h0)
 have h4 := h2.2.2
 rw [h4] at h3
 have h5 : (t : Int) < 0 := h3
 omega
end Go.Proofs.YtflcgpajodfkoaaDoor.K
