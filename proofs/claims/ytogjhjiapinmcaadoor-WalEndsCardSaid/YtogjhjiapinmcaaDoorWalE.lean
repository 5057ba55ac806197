/- Records behind a crash. -/
import Derived.Test.YtogjhjiapinmcaaDoorWalG
namespace Go.Proofs.YtogjhjiapinmcaaDoor.K
open Go.ChangeShapes Go.WideShapes Go.ChangeAt Go.RowKit
set_option linter.unusedVariables false
set_option linter.unusedSimpArgs false

theorem undo_snoc (u : Un) : ∀ (l : List Un) (s : List (List Int)), undo (l ++ [u]) s = undo l (s.set u.pos u.was)
 | [], _ => rfl
 | c :: t, s => by rw [List.cons_append, undo, undo_snoc, undo]
theorem set_back {s : List (List Int)} {i : Nat} (h : i < s.length) (x : List Int) : (s.set i x).set i (s.getD i []) = s := by
 rw [List.set_set]
 apply List.ext_getElem (by simp)
 intro j h1 h2
 by_cases hj : i = j
 · subst hj
   rw [List.getElem_set_self, List.getD, List.getElem?_eq_getElem h]; rfl
 · rw [List.getElem_set_ne hj]
structure Uns (secs : List (List Int)) (uns : List Un) (base : List (List Int)) (F f : Nat) : Prop where
 und : undo uns secs = base
 mem : ∀ u ∈ uns, u.new = secs.getD u.pos [] ∧ F ≤ u.pos ∧ u.pos < f
theorem Uns.put {secs base : List (List Int)} {uns : List Un} {F f : Nat} {gn : Int} {r : List Int} (h : Uns secs uns base F f) (hF : F ≤ f) : ∀ {N : Nat}, f + N ≤ secs.length → Uns (putK secs f gn r N) (unsK secs uns f gn r N) base F (f + N)
 | 0, _ => h
 | N + 1, hN => by
   have ih := Uns.put (gn := gn) (r := r) h hF (N := N) (by omega)
   have hl : f + N < (putK secs f gn r N).length := by rw [putK_len]; omega
   refine ⟨?_, fun u hu => ?_⟩
   · rw [unsK, putK, undo_snoc]
     dsimp only
     rw [set_back hl]
     exact ih.und
   · rw [unsK] at hu
     rw [putK]
     rcases List.mem_append.1 hu with hu | hu
     · obtain ⟨h1, h2, h3⟩ := ih.mem u hu
       exact ⟨by rw [getD_set_ne (by omega)]; exact h1, h2, by omega⟩
     · obtain rfl := List.mem_singleton.1 hu
       exact ⟨(getD_set_eq hl _).symm, by dsimp only; omega, by dsimp only; omega⟩
theorem keptN_mem {uns : List Un} {mask : Int} : ∀ {k : Nat}, k ≤ uns.length → ∀ u ∈ keptN uns mask k, u ∈ uns
 | 0, _, u, hu => by simp [keptN] at hu
 | k + 1, hk, u, hu => by
   rw [keptN, List.mem_append] at hu
   rcases hu with hu | hu
   · exact keptN_mem (by omega) u hu
   · split at hu
     · obtain rfl : u = uns.getD k ⟨0, [], []⟩ := by simpa using hu
       have : uns.getD k ⟨0, [], []⟩ = uns[k] := by simp [List.getD, show k < uns.length by omega]
       rw [this]; exact List.getElem_mem _
     · simp at hu
theorem redo_at {kept : List Un} {torn : Int} {base C : List (List Int)} {F f : Nat} (hm : ∀ u ∈ kept, u.new = C.getD u.pos [] ∧ F ≤ u.pos ∧ u.pos < f ∧ u.pos < base.length ∧ u.new.length = 64) (hz : ∀ p, F ≤ p → p < base.length → base.getD p [] = zeros) :
   ∀ k, k ≤ kept.length → ∀ p, p < base.length → (p < F ∨ f ≤ p → (redoN kept torn base k).getD p [] = base.getD p []) ∧ (F ≤ p → (redoN kept torn base k).getD p [] = zeros ∨ (redoN kept torn base k).getD p [] = C.getD p [] ∨ (k = kept.length ∧ ∃ t, t < 64 ∧ (redoN kept torn base k).getD p [] = (C.getD p []).take t ++ zeros.drop t))
 | 0, _, p, hp => ⟨fun _ => rfl, fun hF => .inl (hz p hF hp)⟩
 | k + 1, hk, p, hp => by
   obtain ⟨i1, i2⟩ := redo_at hm hz k (by omega) p hp
   have hu : kept.getD k ⟨0, [], []⟩ ∈ kept := by rw [List.getD, List.getElem?_eq_getElem (by omega)]; exact List.getElem_mem _
   rw [redoN]
   generalize kept.getD k ⟨0, [], []⟩ = u at hu ⊢
   obtain ⟨m1, m2, m3, m4, m5⟩ := hm u hu
   have hlen : (redoN kept torn base k).length = base.length := redoN_len _ _ _ _
   by_cases hpu : u.pos = p
   · subst hpu
     refine ⟨fun h => by omega, fun _ => ?_⟩
     rw [getD_set_eq (by omega)]
     have i3 := i2 m2
     have i4 : (redoN kept torn base k).getD u.pos [] = zeros ∨ (redoN kept torn base k).getD u.pos [] = C.getD u.pos [] := by
       rcases i3 with i3 | i3 | i3
       · exact .inl i3
       · exact .inr i3
       · omega
     rw [← m1] at i4 ⊢
     have hz64 : zeros.length = 64 := rfl
     unfold newN
     split
     · rename_i hc
       rcases i4 with i4 | i4
       · rw [i4]; exact .inr (.inr ⟨hc.1, torn.toNat, by omega, rfl⟩)
       · rw [i4, List.take_append_drop]; exact .inr (.inl rfl)
     · right; left
       have hd : ((redoN kept torn base k).getD u.pos []).drop 64 = [] := by
         rcases i4 with i4 | i4
         · rw [i4]; rfl
         · rw [i4]; exact List.drop_of_length_le (by omega)
       rw [hd, List.append_nil, List.take_of_length_le (by omega)]
   · rw [getD_set_ne hpu]
     refine ⟨i1, fun hF => ?_⟩
     rcases i2 hF with i3 | i3 | ⟨i3, -⟩
     · exact .inl i3
     · exact .inr (.inl i3)
     · omega
theorem crash_at {secs base : List (List Int)} {uns : List Un} {F f : Nat} (h : Uns secs uns base F f) (hg : ∀ u ∈ uns, u.Good secs.length) (hz : ∀ p, F ≤ p → p < base.length → base.getD p [] = zeros) (mask torn : Int) {p : Nat} (hp : p < base.length) :
   (p < F ∨ f ≤ p → (crashed secs uns mask torn).getD p [] = base.getD p []) ∧ (F ≤ p → (crashed secs uns mask torn).getD p [] = zeros ∨ (crashed secs uns mask torn).getD p [] = secs.getD p [] ∨ ∃ t, t < 64 ∧ (crashed secs uns mask torn).getD p [] = (secs.getD p []).take t ++ zeros.drop t) := by
 have hb : base.length = secs.length := by rw [← h.und, undo_len]
 unfold crashed
 rw [h.und]
 obtain ⟨q1, q2⟩ := redo_at (kept := keptN uns mask (min uns.length 64)) (torn := torn) (base := base) (C := secs) (F := F) (f := f) (fun u hu => by
   have hu' := keptN_mem (Nat.min_le_left _ _) u hu
   obtain ⟨m1, m2, m3⟩ := h.mem u hu'
   have hgu := hg u hu'
   exact ⟨m1, m2, m3, by rw [hb]; exact hgu.1, hgu.2.2.1⟩) hz _ (Nat.le_refl _) p hp
 refine ⟨q1, fun hF => ?_⟩
 rcases q2 hF with q | q | ⟨-, q⟩
 · exact .inl q
 · exact .inr (.inl q)
 · exact .inr (.inr q)
theorem partV_bad {secs : List (List Int)} {i : Nat} {gn : Int} (h : (secs.getD i []).drop 56 ≠ genB gn) : partV secs (i : Int) gn = none := by
 unfold partV
 rw [Int.toNat_natCast]
 exact if_neg (fun hh => h hh.2.2.2)
theorem sec_good {R secs : List (List Int)} {p : Nat} {r : List Int} {k : Nat} (hc : secs.getD p [] = chunkP 9 r k) (h : R.getD p [] = zeros ∨ R.getD p [] = secs.getD p [] ∨ ∃ t, t < 64 ∧ R.getD p [] = (secs.getD p []).take t ++ zeros.drop t) : R.getD p [] = chunkP 9 r k ∨ partV R (p : Int) 9 = none := by
 rcases h with h | h | ⟨t, ht, h⟩
 · exact .inr (partV_bad (by rw [h]; decide))
 · exact .inl (by rw [h, hc])
 · rw [hc] at h
   have hl := chunkP_len 9 r k
   by_cases h57 : 57 ≤ t
   · left
     have e1 : (chunkP 9 r k).drop 57 = zeros.drop 57 := by
       have h2 := (chunk_parts 9 r k).2.1
       have h3 : (chunkP 9 r k).drop 57 = ((chunkP 9 r k).drop 56).drop 1 := by rw [List.drop_drop]
       rw [h3, h2]; decide
     have e2 : (chunkP 9 r k).drop t = zeros.drop t := by
       have a1 : (chunkP 9 r k).drop t = ((chunkP 9 r k).drop 57).drop (t - 57) := by rw [List.drop_drop]; congr 1; omega
       have a2 : zeros.drop t = (zeros.drop 57).drop (t - 57) := by rw [List.drop_drop]; congr 1; omega
       rw [a1, a2, e1]
     rw [h, ← e2, List.take_append_drop]
   · right
     refine partV_bad ?_
     have hlt : ((chunkP 9 r k).take t).length = t := by rw [List.length_take]; omega
     have e1 : ((chunkP 9 r k).take t ++ zeros.drop t).drop 56 = zeros.drop 56 := by
       rw [List.drop_append, hlt, List.drop_of_length_le (by omega), List.nil_append, List.drop_drop]
       congr 1; omega
     rw [h, e1]; decide
theorem readV_form {secs : List (List Int)} {gn to : Int} {f : Nat} {b : List Int} (h2 : f < secs.length) (h3 : secs.getD f [] = chunkP gn (recV b) 0) (hbl : b.length ≤ 65535) {k : Nat} (hk : k < secN (recN b.length)) (hn : partV secs ((f : Int) + k) gn = none) : readV secs (f : Int) to gn = none := by
 have hge := recN_ge (n := b.length)
 have hN1 : 1 ≤ secN (recN b.length) := by unfold secN; omega
 obtain ⟨Z, hZ⟩ : ∃ Z, (recV b).length + Z = 48 * secN (recN b.length) := ⟨48 * secN (recN b.length) - (recV b).length, by rw [recV_len]; unfold secN; omega⟩
 have hP := partV_chunk h2 h3
 have hp0 := piece_at (k := 0) hZ (Nat.zero_le _) (by omega)
 rw [Nat.mul_zero, List.drop_zero] at hp0
 have hR : recV b ++ List.replicate Z 0 = enc b.length ++ (b ++ fourC (sumC [enc b.length ++ b]) ++ List.replicate Z 0) := by
   unfold recV sealC; simp only [List.append_assoc]
 have hRl : (recV b ++ List.replicate Z (0 : Int)).length = 48 * secN (recN b.length) := by rw [List.length_append, List.length_replicate, hZ]
 obtain ⟨hel, he1⟩ := enc_len (b.length : Int)
 obtain ⟨T, hT⟩ : ∃ T, b ++ fourC (sumC [enc b.length ++ b]) ++ List.replicate Z 0 = T := ⟨_, rfl⟩
 rw [hT] at hR
 have hTl : (enc (b.length : Int)).length + T.length = 48 * secN (recN b.length) := by rw [← List.length_append, ← hR, hRl]
 have hp1 : pieceP (recV b) 0 = enc b.length ++ T.take (48 - (enc (b.length : Int)).length) := by
   rw [hp0, hR, List.take_append, List.take_of_length_le (by omega)]
 have hNum : numR (pieceP (recV b) 0) 0 65535 = ((b.length : Int), T.take (48 - (enc (b.length : Int)).length), 0) := by
   rw [hp1]; exact numR_ok _ (by omega) (by omega) _ _ (by omega)
 have hyl : (T.take (48 - (enc (b.length : Int)).length)).length = 48 - (enc (b.length : Int)).length := by rw [List.length_take]; omega
 rw [readV_some hP hNum (pieceP_len _ _), hyl]
 have hA : 48 - (48 - (enc (b.length : Int)).length) + b.length + 4 = recN b.length := by unfold recN; omega
 rw [hA, if_neg (by decide), partsK_none hk hn]
 split <;> rfl
def recsGood (secs : List (List Int)) (gn : Int) : Nat → List (List Int) → Prop
 | _, [] => True
 | f, b :: t => (∀ k, k < secN (recN b.length) → f + k < secs.length ∧ (secs.getD (f + k) [] = chunkP gn (recV b) k ∨ partV secs ((f + k : Nat) : Int) gn = none)) ∧ recsGood secs gn (f + secN (recN b.length)) t
theorem scan_good {secs : List (List Int)} {gn to : Int} : ∀ {bs : List (List Int)} {f m : Nat}, recsGood secs gn f bs → (∀ b ∈ bs, b.length ≤ 65535) → (f : Int) + needN bs ≤ to → to - f ≤ m → (readV secs ((f + needN bs : Nat) : Int) to gn = none ∨ to ≤ (f : Int) + needN bs) → ∃ j o, j ≤ bs.length ∧ scanF secs to gn m (f : Int) = (bs.take j, o)
 | [], f, m, _, _, _, _, hE => by
   rw [needN, Nat.add_zero] at hE
   refine ⟨0, f, Nat.le_refl _, ?_⟩
   by_cases hf : (f : Int) < to
   · rcases hE with hE | hE
     · exact scanF_none hf hE
     · omega
   · exact scanF_end hf
 | b :: t, f, m, h, hb, ht, hm, hE => by
   have hge := recN_ge (n := b.length)
   have hN1 : 1 ≤ secN (recN b.length) := by unfold secN; omega
   rw [needN] at ht hE
   by_cases hall : ∀ k, k < secN (recN b.length) → secs.getD (f + k) [] = chunkP gn (recV b) k
   · obtain ⟨j, rfl⟩ : ∃ j, m = j + 1 := ⟨m - 1, by omega⟩
     have hR := readV_rec (to := to) (fun k hk => ⟨(h.1 k hk).1, hall k hk⟩) (hb b List.mem_cons_self) (by omega)
     obtain ⟨i, o, hi, ih⟩ := scan_good (bs := t) (f := f + secN (recN b.length)) (m := j) (to := to) h.2 (fun c hc => hb c (List.mem_cons_of_mem _ hc)) (by omega) (by omega) (by rw [Nat.add_assoc]; exact hE.elim .inl (fun h => .inr (by omega)))
     refine ⟨i + 1, o, by rw [List.length_cons]; omega, ?_⟩
     rw [scanF, if_pos (by omega), hR]
     dsimp only
     rw [show ((f : Int) + ((secN (recN b.length) : Nat) : Int)) = ((f + secN (recN b.length) : Nat) : Int) by omega, ih]; rfl
   · refine ⟨0, f, Nat.zero_le _, scanF_none (by omega) ?_⟩
     obtain ⟨k, hk⟩ := Classical.not_forall.1 hall
     obtain ⟨hk1, hk2⟩ := Classical.not_imp.1 hk
     have hkn := (h.1 k hk1).2.resolve_left hk2
     obtain ⟨z1, z2⟩ := h.1 0 (by omega)
     rw [Nat.add_zero] at z1 z2
     rcases z2 with z2 | z2
     · exact readV_form z1 z2 (hb b List.mem_cons_self) hk1 (by rw [show ((f : Int) + (k : Int)) = ((f + k : Nat) : Int) by omega]; exact hkn)
     · exact readV_pnone z2
theorem scan_two {secs : List (List Int)} {gn to : Int} {bs : List (List Int)} : ∀ {ws : List (List Int)} {f m : Nat}, recsAt secs gn f ws → recsGood secs gn (f + needN ws) bs → (∀ b ∈ ws ++ bs, b.length ≤ 65535) → (f : Int) + needN (ws ++ bs) ≤ to → to - f ≤ m → (readV secs ((f + needN (ws ++ bs) : Nat) : Int) to gn = none ∨ to ≤ (f : Int) + needN (ws ++ bs)) → ∃ j o, ws.length ≤ j ∧ j ≤ (ws ++ bs).length ∧ scanF secs to gn m (f : Int) = ((ws ++ bs).take j, o)
 | [], f, m, _, h, hb, ht, hm, hE => by
   obtain ⟨j, o, h1, h2⟩ := scan_good (m := m) (to := to) h hb ht hm hE
   exact ⟨j, o, Nat.zero_le _, h1, h2⟩
 | b :: t, f, m, h, hg, hb, ht, hm, hE => by
   have hge := recN_ge (n := b.length)
   have hN1 : 1 ≤ secN (recN b.length) := by unfold secN; omega
   rw [List.cons_append, needN] at ht hE
   rw [needN] at hg
   obtain ⟨j, rfl⟩ : ∃ j, m = j + 1 := ⟨m - 1, by omega⟩
   have hR := readV_rec (to := to) h.1 (hb b List.mem_cons_self) (by omega)
   obtain ⟨i, o, h1, h2, ih⟩ := scan_two (ws := t) (f := f + secN (recN b.length)) (m := j) (to := to) h.2 (by rw [Nat.add_assoc]; exact hg) (fun c hc => hb c (List.mem_cons_of_mem _ hc)) (by omega) (by omega) (by rw [Nat.add_assoc]; exact hE.elim .inl (fun h => .inr (by omega)))
   refine ⟨i + 1, o, by rw [List.length_cons]; omega, by rw [List.cons_append, List.length_cons]; omega, ?_⟩
   rw [scanF, if_pos (by omega), hR]
   dsimp only
   rw [show ((f : Int) + ((secN (recN b.length) : Nat) : Int)) = ((f + secN (recN b.length) : Nat) : Int) by omega, ih]; rfl
theorem good_of {R secs : List (List Int)} {F : Nat} (hR : R.length = secs.length) (h : ∀ p, F ≤ p → p < secs.length → R.getD p [] = zeros ∨ R.getD p [] = secs.getD p [] ∨ ∃ t, t < 64 ∧ R.getD p [] = (secs.getD p []).take t ++ zeros.drop t) : ∀ {bs : List (List Int)} {f : Nat}, F ≤ f → recsAt secs 9 f bs → recsGood R 9 f bs
 | [], _, _, _ => trivial
 | b :: t, f, hF, hb => ⟨fun k hk => ⟨by rw [hR]; exact (hb.1 k hk).1, sec_good (hb.1 k hk).2 (h (f + k) (by omega) (hb.1 k hk).1)⟩, good_of hR h (by omega) hb.2⟩
theorem crashed_len (secs : List (List Int)) (uns : List Un) (mask torn : Int) : (crashed secs uns mask torn).length = secs.length := by
 unfold crashed; rw [redoN_len, undo_len]
theorem recsAt_app {secs : List (List Int)} {gn : Int} : ∀ {ws bs : List (List Int)} {f : Nat}, recsAt secs gn f (ws ++ bs) → recsAt secs gn f ws ∧ recsAt secs gn (f + needN ws) bs
 | [], _, _, h => ⟨trivial, h⟩
 | b :: t, bs, f, h => by
   obtain ⟨h1, h2⟩ := recsAt_app (ws := t) h.2
   exact ⟨⟨h.1, h1⟩, by rw [needN, ← Nat.add_assoc]; exact h2⟩
theorem recsAt_same {R secs : List (List Int)} {gn : Int} (hl : R.length = secs.length) : ∀ {ws : List (List Int)} {f : Nat}, recsAt secs gn f ws → (∀ p, f ≤ p → p < f + needN ws → R.getD p [] = secs.getD p []) → recsAt R gn f ws
 | [], _, _, _ => trivial
 | b :: t, f, h, he => ⟨fun k hk => ⟨by rw [hl]; exact (h.1 k hk).1, by rw [he (f + k) (by omega) (by rw [needN]; omega)]; exact (h.1 k hk).2⟩, recsAt_same hl h.2 (fun p h1 h2 => he p (by omega) (by rw [needN]; omega))⟩
theorem ends_scan {sure l : List (List Int)} (hn : needN (sure ++ l) ≤ 39) (hb : ∀ b ∈ sure ++ l, b.length ≤ 65535) {secs : List (List Int)} {uns : List Un} (hS : secs = putRs (List.replicate 40 zeros) 9 0 (sure ++ l)) (hU : Uns secs uns (putRs (List.replicate 40 zeros) 9 0 sure) (needN sure) (needN (sure ++ l))) (hg : ∀ u ∈ uns, u.Good secs.length) (mask torn : Int) :
   ∃ j o, sure.length ≤ j ∧ j ≤ (sure ++ l).length ∧ scanF (crashed secs uns mask torn) 40 9 ((40 : Int) - 0).toNat 0 = ((sure ++ l).take j, o) := by
 have hna := needN_app sure l
 have hsl : secs.length = 40 := by rw [hS, putRs_len, List.length_replicate]
 have hz40 : ∀ p, p < 40 → (List.replicate 40 zeros).getD p [] = zeros := fun p hp => by rw [List.getD, List.getElem?_replicate, if_pos hp]; rfl
 have hbl : (putRs (List.replicate 40 zeros) 9 0 sure).length = 40 := by rw [putRs_len, List.length_replicate]
 have hbz : ∀ p, needN sure ≤ p → p < (putRs (List.replicate 40 zeros) 9 0 sure).length → (putRs (List.replicate 40 zeros) 9 0 sure).getD p [] = zeros := fun p h1 h2 => by
   rw [putRs_out (.inr (by omega)), hz40 p (by omega)]
 have hall : recsAt secs 9 0 (sure ++ l) := by rw [hS]; exact recsAt_put (by rw [List.length_replicate]; omega)
 have hC : ∀ p, p < 40 → _ := fun p hp => crash_at hU hg hbz mask torn (p := p) (by omega)
 obtain ⟨h1, h2⟩ := recsAt_app hall
 have hRl := crashed_len secs uns mask torn
 have hbase : recsAt (putRs (List.replicate 40 zeros) 9 0 sure) 9 0 sure := recsAt_put (by rw [List.length_replicate]; omega)
 have g1 : recsAt (crashed secs uns mask torn) 9 0 sure := recsAt_same (by rw [hRl, hbl, hsl]) hbase (fun p _ hp => (hC p (by omega)).1 (.inl (by omega)))
 have g2 : recsGood (crashed secs uns mask torn) 9 (0 + needN sure) l := good_of (F := needN sure) hRl (fun p hF hp => (hC p (by omega)).2 hF) (by omega) h2
 have hend : readV (crashed secs uns mask torn) ((0 + needN (sure ++ l) : Nat) : Int) 40 9 = none := by
   rw [Nat.zero_add]
   exact readV_zero (by rw [(hC _ (by omega)).1 (.inr (Nat.le_refl _))]; exact hbz _ (by omega) (by omega))
 exact scan_two (m := 40) (f := 0) g1 g2 hb (by omega) (by omega) (.inl hend)
end Go.Proofs.YtogjhjiapinmcaaDoor.K
