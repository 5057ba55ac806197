/- Records in sectors are read back; noughts and other gens aren't. -/
import Derived.Test.YtogjhjiapinmcaaDoorWal5
namespace Go.Proofs.YtogjhjiapinmcaaDoor.K
open Go.ChangeShapes Go.WideShapes Go.ChangeAt Go.RowKit
set_option linter.unusedVariables false
set_option linter.unusedSimpArgs false
set_option maxRecDepth 100000

theorem open_seal (l : List Int) : openB (sealC l) = true ∧ openC (sealC l) = l := by
 have hl : (l ++ fourC (sumC [l])).length - 4 = l.length := by rw [List.length_append, fourC_len]; omega
 have h1 : openB (l ++ fourC (sumC [l])) = true := by
   rw [openB, decide_eq_true_eq, hl, List.take_left, List.drop_left]
   exact ⟨by rw [List.length_append, fourC_len]; omega, rfl⟩
 exact ⟨h1, by unfold sealC; rw [openC, if_pos h1, hl, List.take_left]⟩
theorem chunk_parts (gn : Int) (r : List Int) (k : Nat) : (chunkP gn r k).take 8 = genB gn ∧ (chunkP gn r k).drop 56 = genB gn ∧ ((chunkP gn r k).take 56).drop 8 = pieceP r k := by
 have h56 : (genB gn ++ pieceP r k).length = 56 := by rw [List.length_append, pieceP_len, genB_len]
 unfold chunkP
 refine ⟨List.take_left' (genB_len gn), ?_, ?_⟩
 · rw [← List.append_assoc]; exact List.drop_left' h56
 · rw [← List.append_assoc, List.take_left' h56]; exact List.drop_left' (genB_len gn)
theorem partV_chunk {secs : List (List Int)} {i : Nat} {gn : Int} {r : List Int} {k : Nat} (hi : i < secs.length) (hc : secs.getD i [] = chunkP gn r k) : partV secs (i : Int) gn = some (pieceP r k) := by
 obtain ⟨h1, h2, h3⟩ := chunk_parts gn r k
 unfold partV
 rw [Int.toNat_natCast, hc, if_pos ⟨by omega, by omega, h1, h2⟩, h3]
theorem partV_other {secs : List (List Int)} {i : Nat} {gn g2 : Int} {r : List Int} {k : Nat} (hc : secs.getD i [] = chunkP g2 r k) (hg : genB g2 ≠ genB gn) : partV secs (i : Int) gn = none := by
 obtain ⟨h1, -, -⟩ := chunk_parts g2 r k
 unfold partV
 rw [Int.toNat_natCast, hc]
 exact if_neg (fun h => hg (h1.symm.trans h.2.2.1))
theorem readV_pnone {secs : List (List Int)} {f to gn : Int} (h : partV secs f gn = none) : readV secs f to gn = none := by
 unfold readV; rw [h]
theorem numR_zero : numR (List.replicate 48 0) 0 65535 = (((0 : Nat) : Int), List.replicate 47 0, 0) := by decide +kernel
theorem open_zero : openB ((List.replicate 48 (0 : Int)).take 5) = false := by decide +kernel
theorem readV_zero {secs : List (List Int)} {i : Nat} {to gn : Int} (hz : secs.getD i [] = zeros) : readV secs (i : Int) to gn = none := by
 cases hP : partV secs (i : Int) gn with
 | none => exact readV_pnone hP
 | some b =>
   have hb : b = List.replicate 48 0 := by
     unfold partV at hP
     rw [Int.toNat_natCast, hz] at hP
     split at hP
     · injection hP with hP; rw [← hP]; rfl
     · cases hP
   subst hb
   rw [readV_some hP numR_zero (by rw [List.length_replicate])]
   have e1 : 48 - (List.replicate 47 (0 : Int)).length + 0 + 4 = 5 := rfl
   rw [e1, if_neg (by decide), show secN 5 = 1 from rfl, partsK_one hP]
   dsimp only
   split
   · rfl
   · rw [if_neg (by rw [open_zero]; decide)]
def recAt (secs : List (List Int)) (gn : Int) (f : Nat) (b : List Int) : Prop := ∀ k, k < secN (recN b.length) → f + k < secs.length ∧ secs.getD (f + k) [] = chunkP gn (recV b) k
theorem piece_at {r : List Int} {Z N k : Nat} (hN : r.length + Z = 48 * N) (hk : 48 * k ≤ r.length) (hk2 : k < N) : pieceP r k = ((r ++ List.replicate Z 0).drop (48 * k)).take 48 := by
 rw [List.drop_append_of_le_length hk, List.take_append, List.take_replicate]
 unfold pieceP
 congr 2
 rw [List.length_take, List.length_drop]
 omega
theorem parts_rec {secs : List (List Int)} {gn : Int} {f : Nat} {b : List Int} (h : recAt secs gn f b) {Z : Nat} (hZ : (recV b).length + Z = 48 * secN (recN b.length)) : ∀ k, k ≤ secN (recN b.length) → partsK secs (f : Int) gn k = some ((recV b ++ List.replicate Z 0).take (48 * k))
 | 0, _ => rfl
 | k + 1, hk => by
   have h1 := parts_rec h hZ k (by omega)
   obtain ⟨h2, h3⟩ := h k (by omega)
   have h4 := partV_chunk h2 h3
   have h5 := partsK_snoc h1 (b := pieceP (recV b) k) (by rw [show ((f : Int) + (k : Int)) = ((f + k : Nat) : Int) by omega]; exact h4)
   rw [h5, piece_at hZ (by rw [recV_len]; unfold secN at hk; omega) (by omega), show 48 * (k + 1) = 48 * k + 48 by omega, List.take_add]
theorem readV_rec {secs : List (List Int)} {gn to : Int} {f : Nat} {b : List Int} (h : recAt secs gn f b) (hbl : b.length ≤ 65535) (hto : (f : Int) + secN (recN b.length) ≤ to) : readV secs (f : Int) to gn = some (b, secN (recN b.length)) := by
 have hge := recN_ge (n := b.length)
 have hN1 : 1 ≤ secN (recN b.length) := by unfold secN; omega
 obtain ⟨Z, hZ⟩ : ∃ Z, (recV b).length + Z = 48 * secN (recN b.length) := ⟨48 * secN (recN b.length) - (recV b).length, by rw [recV_len]; unfold secN; omega⟩
 have hparts := parts_rec h hZ _ (Nat.le_refl _)
 obtain ⟨h2, h3⟩ := h 0 (by omega)
 rw [Nat.add_zero] at h2 h3
 have hP := partV_chunk h2 h3
 have hp0 := piece_at (k := 0) hZ (Nat.zero_le _) (by omega)
 rw [Nat.mul_zero, List.drop_zero] at hp0
 have hR : recV b ++ List.replicate Z 0 = enc b.length ++ (b ++ fourC (sumC [enc b.length ++ b]) ++ List.replicate Z 0) := by
   unfold recV sealC; simp only [List.append_assoc]
 have hRl : (recV b ++ List.replicate Z (0 : Int)).length = 48 * secN (recN b.length) := by rw [List.length_append, List.length_replicate, hZ]
 obtain ⟨hel, he1⟩ := enc_len (b.length : Int)
 obtain ⟨T, hT⟩ : ∃ T, b ++ fourC (sumC [enc b.length ++ b]) ++ List.replicate Z 0 = T := ⟨_, rfl⟩
 rw [hT] at hR
 have hTl : (enc (b.length : Int)).length + T.length = 48 * secN (recN b.length) := by rw [← List.length_append, ← hR, hRl]
 have hp1 : pieceP (recV b) 0 = enc b.length ++ T.take (48 - (enc (b.length : Int)).length) := by
   rw [hp0, hR, List.take_append, List.take_of_length_le (by omega)]
 have hNum : numR (pieceP (recV b) 0) 0 65535 = ((b.length : Int), T.take (48 - (enc (b.length : Int)).length), 0) := by
   rw [hp1]; exact numR_ok _ (by omega) (by omega) _ _ (by omega)
 have hyl : (T.take (48 - (enc (b.length : Int)).length)).length = 48 - (enc (b.length : Int)).length := by rw [List.length_take]; omega
 rw [readV_some hP hNum (pieceP_len _ _), hyl]
 have hA : 48 - (48 - (enc (b.length : Int)).length) + b.length + 4 = recN b.length := by unfold recN; omega
 have hB : 48 - (48 - (enc (b.length : Int)).length) = (enc (b.length : Int)).length := by omega
 rw [hA, hB, if_neg (by decide), if_neg (by omega), hparts]
 dsimp only
 have htk : ((recV b ++ List.replicate Z 0).take (48 * secN (recN b.length))).take (recN b.length) = recV b := by
   rw [List.take_take, Nat.min_eq_left (by unfold secN; omega)]
   exact List.take_left' (recV_len b)
 obtain ⟨o1, o2⟩ := open_seal (enc b.length ++ b)
 rw [htk, show recV b = sealC (enc b.length ++ b) from rfl, if_pos o1, o2, List.drop_left]
theorem getD_set_eq {l : List (List Int)} {i : Nat} (h : i < l.length) (x : List Int) : (l.set i x).getD i [] = x := by
 rw [List.getD, List.getElem?_set_self h]; rfl
theorem getD_set_ne {l : List (List Int)} {i j : Nat} (h : i ≠ j) (x : List Int) : (l.set i x).getD j [] = l.getD j [] := by
 rw [List.getD, List.getElem?_set_ne h]; rfl
theorem putK_out {secs : List (List Int)} {f : Nat} {gn : Int} {r : List Int} {i : Nat} : ∀ {k : Nat}, i < f ∨ f + k ≤ i → (putK secs f gn r k).getD i [] = secs.getD i []
 | 0, _ => rfl
 | k + 1, h => by rw [putK, getD_set_ne (by omega), putK_out (by omega)]
theorem putK_in {secs : List (List Int)} {f : Nat} {gn : Int} {r : List Int} {j : Nat} : ∀ {k : Nat}, j < k → f + k ≤ secs.length → (putK secs f gn r k).getD (f + j) [] = chunkP gn r j
 | k + 1, h, hl => by
   rw [putK]
   rcases Nat.lt_or_ge j k with h1 | h1
   · rw [getD_set_ne (by omega), putK_in h1 (by omega)]
   · obtain rfl : j = k := by omega
     exact getD_set_eq (by rw [putK_len]; omega) _
theorem recAt_put {secs : List (List Int)} {f : Nat} {gn : Int} {b : List Int} (h : f + secN (recN b.length) ≤ secs.length) : recAt (putK secs f gn (recV b) (secN (recN b.length))) gn f b := fun k hk => ⟨by rw [putK_len]; omega, putK_in hk h⟩
theorem recAt_keep {secs : List (List Int)} {f g2 : Nat} {gn gm : Int} {b r : List Int} {N : Nat} (h : recAt secs gn f b) (hd : f + secN (recN b.length) ≤ g2) : recAt (putK secs g2 gm r N) gn f b := fun k hk => ⟨by rw [putK_len]; exact (h k hk).1, by rw [putK_out (by omega)]; exact (h k hk).2⟩
def recsAt (secs : List (List Int)) (gn : Int) : Nat → List (List Int) → Prop
 | _, [] => True
 | f, b :: t => recAt secs gn f b ∧ recsAt secs gn (f + secN (recN b.length)) t
theorem scan_recs {secs : List (List Int)} {gn to : Int} : ∀ {bs : List (List Int)} {f m : Nat}, recsAt secs gn f bs → (∀ b ∈ bs, b.length ≤ 65535) → (f : Int) + needN bs ≤ to → to - f ≤ m → (readV secs ((f + needN bs : Nat) : Int) to gn = none ∨ to ≤ (f : Int) + needN bs) → scanF secs to gn m (f : Int) = (bs, ((f + needN bs : Nat) : Int))
 | [], f, m, _, _, _, _, hE => by
   rw [needN] at hE ⊢
   rw [Nat.add_zero] at hE ⊢
   by_cases hf : (f : Int) < to
   · rcases hE with hE | hE
     · exact scanF_none hf hE
     · omega
   · exact scanF_end hf
 | b :: t, f, m, h, hb, ht, hm, hE => by
   have hge := recN_ge (n := b.length)
   have hN1 : 1 ≤ secN (recN b.length) := by unfold secN; omega
   rw [needN] at ht hE ⊢
   obtain ⟨j, rfl⟩ : ∃ j, m = j + 1 := ⟨m - 1, by omega⟩
   have hR := readV_rec (to := to) h.1 (hb b List.mem_cons_self) (by omega)
   have ih := scan_recs (bs := t) (f := f + secN (recN b.length)) (m := j) (to := to) h.2 (fun c hc => hb c (List.mem_cons_of_mem _ hc)) (by omega) (by omega) (by rw [Nat.add_assoc]; exact hE.elim .inl (fun h => .inr (by omega)))
   rw [scanF, if_pos (by omega), hR]
   dsimp only
   rw [show ((f : Int) + ((secN (recN b.length) : Nat) : Int)) = ((f + secN (recN b.length) : Nat) : Int) by omega, ih, Nat.add_assoc]
end Go.Proofs.YtogjhjiapinmcaaDoor.K
