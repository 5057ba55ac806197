/- chunk: Apply of a push that may be. -/
import Derived.Test.YteglmahnkfgelaaGreatChuEq
namespace Go.Proofs.YteglmahnkfgelaaGreat.K
open Go.ChangeShapes Go.WideShapes Go.ChangeAt Go.RowKit
set_option linter.unusedVariables false
set_option linter.unusedSimpArgs false
def HB (n : Nat) (H : List (List Ver)) : Prop := ∀ h ∈ H, Rise h ∧ h.length ≤ n ∧ (∀ v ∈ h, v.2.length ≤ 1000000) ∧ n ≤ 1000000
theorem HB.up {n m : Nat} {H : List (List Ver)} (h : HB n H) (hm : n ≤ m) (hm2 : m ≤ 1000000 := by omega) : HB m H := fun x hx => ⟨(h x hx).1, by have := (h x hx).2.1; omega, (h x hx).2.2.1, hm2⟩
theorem HB.at {n : Nat} {H : List (List Ver)} (h : HB n H) {x : List Ver} (hx : x ∈ H) : Rise x ∧ x.length ≤ 1000000 ∧ ∀ v ∈ x, v.2.length ≤ 1000000 := ⟨(h x hx).1, by have := (h x hx).2; omega, (h x hx).2.2.1⟩
theorem HB.ok {n : Nat} {H : List (List Ver)} (h : HB n H) : HsOk H := fun x hx => (h.at hx).2
theorem addF_rise {h : List Ver} (hr : Rise h) (s : Int) (d : List Int) : Rise (addF h s d) := by
 unfold addF
 split
 · rename_i hc
   refine List.pairwise_append.2 ⟨hr, by simp, fun a ha b hb => ?_⟩
   rw [List.mem_singleton.1 hb]
   show a.1 < s
   obtain ⟨j, hj, rfl⟩ := List.getElem_of_mem ha
   rcases hc.2 with h0 | h1
   · subst h0; simp at hj
   have := hr.low (j := h.length - 1) (q := j) (t := (h.getD (h.length - 1) v0).1) (by omega) (Int.le_refl _) (by omega)
   have e9 : h.getD j v0 = h[j] := by rw [List.getD, List.getElem?_eq_getElem hj]; rfl
   rw [e9] at this
   omega
 exact hr
theorem HB.set {n : Nat} {H : List (List Ver)} (h : HB n H) {x : List Ver} (hx : Rise x) {s : Int} {d : List Int} (hd : d.length ≤ 1000000) {i : Nat} (hn : n + 1 ≤ 1000000) (hxm : x ∈ H := by exact List.mem_of_getElem? (by assumption)) : HB (n + 1) (H.set i (addF x s d)) := fun y hy => by
 rcases List.mem_or_eq_of_mem_set hy with hy | rfl
 · exact (h.up (Nat.le_succ n) hn) y hy
 have hx2 := h x hxm
 refine ⟨addF_rise hx s d, ?_, ?_, hn⟩
 · unfold addF; split
   · rw [List.length_append]; simp; omega
   omega
 unfold addF; split
 · intro v hv
   rcases List.mem_append.1 hv with hv | hv
   · exact hx2.2.2.1 v hv
   rw [List.mem_singleton.1 hv]; exact hd
 exact hx2.2.2.1
theorem applyW_snoc {m : Int} {H : List (List Ver)} {W : List (Int × List (Int × List Int))} {k : Nat} {xs : Int} {xl : List (Int × List Int)} (hes : W[k]? = some (xs, xl)) : applyW m H (W.take (k + 1)) = if xs ≤ m then applyW m H (W.take k) else addW xs (applyW m H (W.take k)) xl := by
 unfold applyW
 rw [take_snoc hes, List.foldl_append]; rfl
theorem addW_snoc {s : Int} {H : List (List Ver)} {l : List (Int × List Int)} {j : Nat} {xb : Int} {xd : List Int} (hxs : l[j]? = some (xb, xd)) : addW s H (l.take (j + 1)) = (addW s H (l.take j)).set xb.toNat (addF ((addW s H (l.take j)).getD xb.toNat []) s xd) := by
 unfold addW
 rw [take_snoc hxs, List.foldl_append]; rfl
theorem prune_at {H : List (List Ver)} {f : Int} {k : Nat} {x : List Ver} (hes : H[k]? = some x) : ((H.take k).map (fun h => pruneF h f) ++ H.drop k)[k]? = some x := by
 have hk := (List.getElem?_eq_some_iff.1 hes).1
 rw [List.getElem?_append_right (by rw [List.length_map, List.length_take]; omega), List.length_map, List.length_take, List.getElem?_drop, show k + (k - min k H.length) = k by omega]
 exact hes
theorem prune_step {H : List (List Ver)} {f : Int} {k : Nat} {x : List Ver} (hes : H[k]? = some x) : ((H.take k).map (fun h => pruneF h f) ++ H.drop k).set k (pruneF x f) = (H.take (k + 1)).map (fun h => pruneF h f) ++ H.drop (k + 1) := by
 have hk := (List.getElem?_eq_some_iff.1 hes).1
 rw [List.set_append_right _ _ (by rw [List.length_map, List.length_take]; omega), List.length_map, List.length_take, show k - min k H.length = 0 by omega, take_snoc hes, List.map_append, List.append_assoc]
 congr 1
 rw [List.drop_eq_getElem_cons hk]
 rfl
theorem wpre_at {vo ch cn sz fr to fl2 : Int} {W : List (Int × List (Int × List Int))} (hP : PuOk vo ch cn sz fr to fl2 W) {k : Nat} {xs : Int} {xl : List (Int × List Int)} (hes : W[k]? = some (xs, xl)) : ∀ {j : Nat} {xb : Int} {xd : List Int}, xl[j]? = some (xb, xd) → (0 ≤ xb ∧ xb < cn) ∧ (xd.length ≤ 32 ∧ xl.length ≤ 8) := fun {j xb xd} hxs => by
 have hk := (List.getElem?_eq_some_iff.1 hes).1
 have h1 := (hP.2.2.2.2.2 k hk).2.2
 rw [show W.getD k w1 = (xs, xl) by rw [List.getD, hes]; rfl] at h1
 have hj := (List.getElem?_eq_some_iff.1 hxs).1
 have h2 := h1.2.2 j hj
 rw [getI hxs] at h2
 have h3 := hP.1.2.2.2
 have h4 : (xd.length : Int) = sz := h2.2.2.1
 exact ⟨⟨h2.1, h2.2.1⟩, by omega, h1.2.1⟩
theorem wpre_8 {vo ch cn sz fr to fl2 : Int} {W : List (Int × List (Int × List Int))} (hP : PuOk vo ch cn sz fr to fl2 W) {k : Nat} {xs : Int} {xl : List (Int × List Int)} (hes : W[k]? = some (xs, xl)) : xl.length ≤ 8 := by
 have hk := (List.getElem?_eq_some_iff.1 hes).1
 have h1 := (hP.2.2.2.2.2 k hk).2.2
 rw [show W.getD k w1 = (xs, xl) by rw [List.getD, hes]; rfl] at h1
 exact h1.2.1
theorem wpre_len {vo ch cn sz fr to fl2 : Int} {W : List (Int × List (Int × List Int))} (hP : PuOk vo ch cn sz fr to fl2 W) : ∀ e ∈ W, e.2.length ≤ 1000000 := fun e he => by
 obtain ⟨k, hk, rfl⟩ := List.getElem_of_mem he
 have h1 := (hP.2.2.2.2.2 k hk).2.2
 rw [List.getD, List.getElem?_eq_getElem hk] at h1
 have := h1.2.1
 simp at this
 omega
set_option maxRecDepth 100000
set_option maxHeartbeats 4000000
theorem capply_x (X : Cx) (vo ch cn sz mk fl fr to fl2 : Int) (H : List (List Ver)) (W : List (Int × List (Int × List Int))) (p pw : Option Addr) (nn c nw cw : Nat) (w0 : World) (hok : HB 900000 H) (hH : (H.length : Int) = cn) (hP : PuOk vo ch cn sz fr to fl2 W) (hfm : fr ≤ mk) (m0 : MemOk X w0 [(1, .dat (.slice p nn c) (.l 1 (H.map hD))), (2, .dat (.slice pw nw cw) (.l 2 (W.map wrD)))] w0) :
   Calls Tryz.prog 17 #[.agg #[.int .i64 vo, .int .i64 ch, .int .i64 cn, .int .i64 sz, .int .i64 mk, .int .i64 fl, .slice p nn c], .agg #[.int .i64 vo, .int .i64 ch, .int .i64 cn, .int .i64 sz, .int .i64 fr, .int .i64 to, .int .i64 fl2, .slice pw nw cw]] w0 fun e w' => ∃ (p9 : Option Addr) (c9 : Nat), e = .returned (.agg #[.int .i64 vo, .int .i64 ch, .int .i64 cn, .int .i64 sz, .int .i64 (max mk to), .int .i64 (max fl fl2), .slice p9 nn c9]) ∧ MemOk X w0 [(1, .dat (.slice p nn c) (.l 1 (H.map hD))), (2, .dat (.slice pw nw cw) (.l 2 (W.map wrD))), (9, .row (.slice p9 nn c9) 94 1 (((applyW mk H W).map (fun h => pruneF h (max fl fl2))).map hD))] w' := by
 refine ent2 Tryz.func17 rfl Tryz.ntmps17 fun Az Hz => ?_
 have hl : H.length ≤ 1000000 := by have := hP.1.2.2.1; omega
 have hok0 := hok.ok
 have hWl := hP.2.2.2.2.1
 have hW := wpre_len hP
 have hnn : nn = H.length := nnOf (m0.rd (i := 1) rfl)
 have hnw : nw = W.length := nnOf (m0.rd (i := 2) rfl)
 revert Hz
 subst hnn; subst hnw
 intro Hz
 refine zsr fun K0 hK0 => ?_
 refine plz (e_box Hz m0 30 (cs := [_, _, _, _, _, _, _]) rfl rfl rfl fun g1 Az w2 Hz m2 _ _ => ?_)
 refine plz (e_box Hz m2 31 (cs := [_, _, _, _, _, _, _, _]) rfl rfl rfl fun g3 Az w4 Hz m4 _ _ => ?_)
 refine plz (e_alloc Hz m4 32 fct6 rfl fun g5 Az w6 Hz m6 _ _ => ?_)
 refine znl (hK0 _ _ ?_)
 refine zsr fun K1 hK1 => ?_
 refine goCh Hz (.loadBR m6 (i := 30) rfl rfl U39 rfl fct5 (by simp) (by dsimp only [List.drop, List.take] <;> rfl) .nil) fun Az Hz => ?_
 refine plz (ecl Hz Tryz.func51 rfl (pchunk_x _ vo ch cn sz mk fl H _ _ _ hl hok0 (m6.into [(1, 1)] (by decide) rfl)) ?_)
 rintro e w9 ⟨p9, c9, rfl, hm9⟩
 have mx9 := m6.back hm9 [(1, 1), (9, 9)] (by decide); clear hm9 m6
 have m9 := mx9.oz [1, 9, 2, 30, 31, 32]
 refine ⟨_, rfl, ?_⟩; intro Az Hz
 refine plz (stw Hz m9 30 fct5 fun w11 m11 _ => ?_)
 refine znl (hK1 _ _ ?_)
 refine wsk fun K2 hK2 => ?_
 refine wsk fun K3 hK3 => ?_
 have m12 := m11.oz [1, 2, 9, 30, 31, 32]
 refine region_p 25 (B := [(1, _), (2, _), (9, _), (30, _), (31, _), (32, _)]) (m12.to ⟨il, il, il, il, il, il, trivial⟩) m12 (by kernel_rfl) (fun w13 hP13 m13 => ?_); clear m12
 refine goR hP13 [0] [0] 1 0 1 Hz (m13.to ⟨il, il, il, il, il, il, trivial⟩) (.loadBR hh (i := 31) rfl rfl U25 rfl fct7 (by simp) (by dsimp only [List.drop, List.take] <;> rfl) .nil) fun Az Hz => ?_
 refine so 1 ?_
 refine ecl Hz Tryz.func14 rfl (pright_x _ vo ch cn sz fr to fl2 W _ _ _ _ (by omega) hW (m13.into [(1, 2)] (by decide) rfl)) ?_
 rintro e w15 ⟨bp9, rfl, hbp, hm15⟩
 have mx15 := m13.back hm15 [(2, 1)] (by decide); clear hm15 m13
 have m15 := mx15.oz [2, 1, 9, 30, 31, 32]
 refine ⟨_, rfl, ?_⟩; intro Az Hz
 refine ⟨m15.to ⟨il, il, il, il, il, il, trivial⟩, ?_⟩
 refine goA hP13 [2, 3] 2 3 15 Hz (m15.to ⟨il, il, il, il, il, il, trivial⟩) (.not rfl <| .move rfl .nil) fun Az Hz => ?_
 refine bc Hz 16 ?_ ?_
 · intro hb _; exact absurd hb (by rw [hbp.2 hP]; simp)
 clear Hz; intro _ Hz
 refine goR hP13 [4, 6] [4, 6] 2 15 95 Hz (m15.to ⟨il, il, il, il, il, il, trivial⟩) (.loadBR hh (i := 30) rfl rfl U39 rfl fct5 (by simp) (by dsimp only [List.drop, List.take] <;> rfl) <| .loadBR hh (i := 31) rfl rfl U25 rfl fct7 (by simp) (by dsimp only [List.drop, List.take] <;> rfl) .nil) fun Az Hz => ?_
 refine stepE_only 5 rfl (by kernel_rfl) (wantedG Hz rfl rfl rfl rfl) (fun K hK => ?_)
 refine e_call Hz Tryz.func52 rfl rfl rfl rfl (shapeof_x _ _ _ _ _ _ _ _) ?_
 rintro e w22 ⟨rfl, hb22⟩
 have m23 := m15.later hb22
 refine ⟨_, rfl, ?_⟩; intro Az Hz
 refine hK _ _ (m23.to ⟨il, il, il, il, il, il, trivial⟩) ?_; clear hK K
 refine stepE_only 7 rfl (by kernel_rfl) (wantedG Hz rfl rfl rfl rfl) (fun K hK => ?_)
 refine e_call Hz Tryz.func44 rfl rfl rfl rfl (pshape_x _ _ _ _ _ _ _ _ _ _ _) ?_
 rintro e w25 ⟨rfl, hb25⟩
 have m26 := m23.later hb25
 refine ⟨_, rfl, ?_⟩; intro Az Hz
 refine hK _ _ (m26.to ⟨il, il, il, il, il, il, trivial⟩) ?_; clear hK K
 refine goA hP13 [8, 9, 10] 3 255 2047 Hz (m26.to ⟨il, il, il, il, il, il, trivial⟩) (.p (fun _ _ h_ => y_neqH h_ rfl rfl) <| .pickF rfl rfl <| .move rfl .nil) fun Az Hz => ?_
 refine bc Hz 23 ?_ ?_
 · intro hb _; exact absurd hb (by simp)
 clear Hz; intro _ Hz
 refine goR hP13 [11, 12, 13, 14, 15, 16, 17] [12, 14] 7 2047 262143 Hz (m26.to ⟨il, il, il, il, il, il, trivial⟩) (.fa 4 rfl U39 <| .lb hh 30 U2 rfl rfl rfl <| .fa 4 rfl U25 <| .lb hh 31 U2 rfl rfl rfl <| .lss rfl rfl <| .pickF rfl rfl <| .move rfl .nil) fun Az Hz => ?_
 refine bc Hz 30 ?_ ?_
 · intro hb _; exact absurd hb (by simp; omega)
 clear Hz; intro _ Hz
 refine goR hP13 [18, 19, 20, 21, 22, 23, 24] [19, 22] 7 262143 33554431 Hz (m26.to ⟨il, il, il, il, il, il, trivial⟩) (.fa 6 rfl U39 <| .lb hh 30 U37 rfl rfl rfl <| .len rfl U37 <| .fa 2 rfl U39 <| .lb hh 30 U3 rfl rfl rfl <| .neq rfl rfl <| .pickF rfl rfl .nil) fun Az Hz => ?_
 refine wpAnyE_done (by kernel_rfl) ?_ _
 refine hK3 _ _ ?_
 refine bc Hz 37 ?_ ?_
 · intro hb _; exact absurd hb (by simp; omega)
 clear Hz; intro _ Hz
 refine wcf Hz ?_
 refine zss (hK2 _ _ ?_)
 refine wsk fun K4 hK4 => ?_
 replace Hz := Hz.oz [2, 3, 4]
 refine regS Hz (.fa 7 rfl U25 <| .lb m26 31 U23 rfl rfl rfl <| .len rfl U23 <| .move rfl .nil) fun Az Hz => ?_
 refine wp_block ?_
 refine wp_loop_ghost (fun g a w => ∃ (k gA gB gR : Nat) (Hk : List (List Ver)) (p9 : Option Addr) (c9 : Nat), k ≤ W.length ∧ g = W.length - k ∧ Hk = applyW mk H (W.take k) ∧ HB (900000 + 8 * k) Hk ∧ Has 106 [(2, .pointer (some ⟨gA, 0, none⟩)), (3, .pointer (some ⟨gB, 0, none⟩)), (4, .pointer (some ⟨gR, 0, none⟩)), (40, .slice pw W.length cw), (41, .int .i64 W.length), (42, .int .i64 k)] a ∧ MemOk X w0 [(1, .dat (.slice p H.length c) (.l 1 (H.map hD))), (2, .dat (.slice pw W.length cw) (.l 2 (W.map wrD))), (9, .row (.slice p9 H.length c9) 94 1 (Hk.map hD)), (10, .box gA 39 [.int .i64 vo, .int .i64 ch, .int .i64 cn, .int .i64 sz, .int .i64 mk, .int .i64 fl, .slice p9 H.length c9]), (11, .box gB 25 [.int .i64 vo, .int .i64 ch, .int .i64 cn, .int .i64 sz, .int .i64 fr, .int .i64 to, .int .i64 fl2, .slice pw W.length cw]), (12, .box gR 39 [.int .i64 0, .int .i64 0, .int .i64 0, .int .i64 0, .int .i64 0, .int .i64 0, .slice none 0 0])] w) (W.length) ?_ ?_
 · exact ⟨0, _, _, _, H, _, _, Nat.zero_le _, rfl, rfl, hok.up (by omega), Hz.only [2, 3, 4, 40, 41, 42], m26.ren [(1, 1), (2, 2), (9, 9), (10, 30), (11, 31), (12, 32)] (by decide)⟩
 clear Hz m26
 rintro g Az w53 ⟨k, gA, gB, gR, Hk, p9, c9, hkl, hg, hHk, hHB, Hz, m53⟩
 refine regS Hz (.lss rfl rfl .nil) fun Az Hz => ?_
 refine wsk fun K5 hK5 => ?_
 refine bc Hz 43 ?_ ?_
 ·
  intro hb55 Hz; try simp only [QQ, Qax] at hb55
  have hk : k < W.length := by have := hb55; first | omega | (simp at this; omega)
  obtain ⟨⟨xs, xl⟩, hes⟩ : ∃ e, W[k]? = some e := ⟨_, List.getElem?_eq_getElem hk⟩
  have hit : ∀ {j : Nat} {xb : Int} {xd : List Int}, xl[j]? = some (xb, xd) → (0 ≤ xb ∧ xb < cn) ∧ (xd.length ≤ 32 ∧ xl.length ≤ 8) := fun h7 => wpre_at hP hes h7
  have hx8 : xl.length ≤ 8 := wpre_8 hP hes
  have hml : (xl.map itD).length = xl.length := List.length_map _
  refine wct Hz ?_
  refine zss (hK5 _ _ ?_)
  refine wsk fun K6 hK6 => ?_
  refine wp_block ?_
  refine zsr fun K7 hK7 => ?_
  obtain ⟨b57, o57, vs57, hp57, hR57, ho57, m57⟩ := m53.openR (i := 2) rfl (k) (r := [.v (.int .i64 xs), .l 2 (xl.map itD)]) (wrD_get hes) 100 rfl
  revert Hz
  cases hp57; clear m53 ho57
  rcases hR57 with _ | ⟨hd57_0, _ | ⟨hd57_1, _ | _⟩⟩
  obtain rfl := hd57_0.v_out
  clear hd57_0
  obtain ⟨p58, c58, hv58, hc58⟩ := hd57_1.l_shape; subst hv58
  intro Hz
  have m58 := m57.dat 101 rfl (hd57_1.cast (fun _ h => (free_add rfl h))); clear m57 hd57_1
  refine goCh Hz (.c rfl (fun _ h_ => y_idx h_ rfl rfl U23 fct8 (k) rfl hk) <| .loadCR m58 (i := 100) rfl rfl U30 rfl fct8 .nil) fun Az Hz => ?_
  refine plz (e_alloc Hz m58 102 fct9 rfl fun g61 Az w62 Hz m62 _ _ => ?_)
  refine plz (stw Hz m62 102 fct8 fun w63 m63 _ => ?_)
  refine znl (hK7 _ _ ?_)
  refine wsk fun K8 hK8 => ?_
  refine regS Hz (.fa 0 rfl U30 <| .lb m63 102 U2 rfl rfl rfl <| .fa 4 rfl U39 <| .lb m63 10 U2 rfl rfl rfl <| .leq rfl rfl .nil) fun Az Hz => ?_
  refine bc Hz 50 ?_ ?_
  ·
   intro hb69 Hz; try simp only [QQ, Qax] at hb69
   have hle : xs ≤ mk := by have := hb69; first | omega | (simp at this; omega)
   refine wct Hz ?_
   refine wp_exit ?_
   refine hK6 _ _ ?_
   replace Hz := Hz.oz [2, 3, 4, 40, 41, 42, 50]
   refine wp_region_lit ?_
   refine goCh Hz (.inc (k + 1) <| .move rfl .nil) fun Az Hz => ?_
   refine wpList_nil ?_
   show ∃ n', n' < _ ∧ _
   have hstep : Hk = applyW mk H (W.take (k + 1)) := by rw [applyW_snoc hes, if_pos hle]; exact hHk
   exact ⟨W.length - (k + 1), by omega, k + 1, _, _, _, Hk, _, _, by omega, rfl, hstep, hHB.up (by omega), Hz.only [2, 3, 4, 40, 41, 42], m63.ren [(1, 1), (2, 2), (9, 9), (10, 10), (11, 11), (12, 12)] (by decide)⟩
  intro hb69 Hz; try simp only [QQ, Qax] at hb69
  have hgt : mk < xs := by have := hb69; first | omega | (simp at this; omega)
  refine wcf Hz ?_
  refine zss (hK8 _ _ ?_)
  replace Hz := Hz.oz [2, 3, 4, 40, 41, 42, 6, 50]
  refine regS Hz (.fa 1 rfl U30 <| .lb m63 102 U28 rfl rfl rfl <| .len rfl U28 <| .move rfl .nil) fun Az Hz => ?_
  refine wp_block ?_
  refine wp_loop_ghost (fun g a w => ∃ (j gA gB gR gW : Nat) (L2 : List (List Ver)) (p9 : Option Addr) (c9 : Nat) (px : Option Addr) (cx : Nat), j ≤ xl.length ∧ g = xl.length - j ∧ L2 = addW xs Hk (xl.take j) ∧ L2.length = H.length ∧ HB (900000 + 8 * k + j) L2 ∧ Has 106 [(2, .pointer (some ⟨gA, 0, none⟩)), (3, .pointer (some ⟨gB, 0, none⟩)), (4, .pointer (some ⟨gR, 0, none⟩)), (6, .pointer (some ⟨gW, 0, none⟩)), (40, .slice (some ⟨b57, o57, none⟩) W.length cw), (41, .int .i64 W.length), (42, .int .i64 k), (52, .slice px (xl.map itD).length cx), (53, .int .i64 (xl.map itD).length), (54, .int .i64 j)] a ∧ MemOk X w0 [(1, .dat (.slice p H.length c) (.l 1 (H.map hD))), (2, .dat (.slice (some ⟨b57, o57, none⟩) W.length cw) (.l 2 (W.map wrD))), (9, .row (.slice p9 H.length c9) 94 1 (L2.map hD)), (10, .box gA 39 [.int .i64 vo, .int .i64 ch, .int .i64 cn, .int .i64 sz, .int .i64 mk, .int .i64 fl, .slice p9 H.length c9]), (11, .box gB 25 [.int .i64 vo, .int .i64 ch, .int .i64 cn, .int .i64 sz, .int .i64 fr, .int .i64 to, .int .i64 fl2, .slice (some ⟨b57, o57, none⟩) W.length cw]), (12, .box gR 39 [.int .i64 0, .int .i64 0, .int .i64 0, .int .i64 0, .int .i64 0, .int .i64 0, .slice none 0 0]), (13, .box gW 30 [.int .i64 xs, .slice px (xl.map itD).length cx]), (14, .dat (.slice px (xl.map itD).length cx) (.l 2 (xl.map itD)))] w) (xl.length) ?_ ?_
  · exact ⟨0, _, _, _, _, Hk, _, _, _, _, Nat.zero_le _, rfl, rfl, by rw [hHk, applyW_len], hHB, Hz.only [2, 3, 4, 6, 40, 41, 42, 52, 53, 54], m63.ren [(1, 1), (2, 2), (9, 9), (10, 10), (11, 11), (12, 12), (13, 102), (14, 101)] (by decide)⟩
  clear Hz m63
  rintro g Az w78 ⟨j, gA, gB, gR, gW, L2, p9, c9, px, cx, hjl, hg2, hL2, hLl, hLB, Hz, m78⟩
  refine regS Hz (.lss rfl rfl .nil) fun Az Hz => ?_
  refine wsk fun K9 hK9 => ?_
  refine bc Hz 55 ?_ ?_
  ·
   intro hb80 Hz; try simp only [QQ, Qax] at hb80
   have hj : j < xl.length := by have := hb80; first | (rw [List.length_map] at this; omega) | (simp at this; omega)
   obtain ⟨⟨xb, xd⟩, hxs⟩ : ∃ e, xl[j]? = some e := ⟨_, List.getElem?_eq_getElem hj⟩
   have hxb := (hit hxs).1
   have hxd : xd.length ≤ 1000000 := by have := (hit hxs).2; omega
   obtain ⟨h9, hes9⟩ : ∃ e, L2[xb.toNat]? = some e := ⟨_, List.getElem?_eq_getElem (by omega)⟩
   have hx9 : L2.getD xb.toNat [] = h9 := by rw [List.getD, hes9]; rfl
   have hh9 := hLB.at (List.mem_of_getElem? hes9)
   refine wct Hz ?_
   refine zss (hK9 _ _ ?_)
   refine wsk fun K10 hK10 => ?_
   refine wp_block ?_
   refine zsr fun K11 hK11 => ?_
   obtain ⟨b82, o82, vs82, hp82, hR82, ho82, m82⟩ := m78.openR (i := 14) rfl (j) (r := [.v (.int .i64 xb), .ns .u8 xd]) (itD_get hxs) 200 rfl
   revert Hz
   cases hp82; clear m78 ho82
   rcases hR82 with _ | ⟨hd82_0, _ | ⟨hd82_1, _ | _⟩⟩
   obtain rfl := hd82_0.v_out
   clear hd82_0
   obtain ⟨p83, c83, hv83, hc83⟩ := hd82_1.ns_shape; subst hv83
   intro Hz
   have m83 := m82.dat 201 rfl (hd82_1.cast (fun _ h => (free_add rfl h))); clear m82 hd82_1
   refine goCh Hz (.c rfl (fun _ h_ => y_idx h_ rfl rfl U28 fct25 (j) rfl (by rw [List.length_map]; omega)) <| .loadCR m83 (i := 200) rfl rfl U78 rfl fct25 .nil) fun Az Hz => ?_
   refine plz (e_alloc Hz m83 202 fct17 rfl fun g86 Az w87 Hz m87 _ _ => ?_)
   refine plz (stw Hz m87 202 fct25 fun w88 m88 _ => ?_)
   refine znl (hK11 _ _ ?_)
   obtain ⟨gr90, cr90, hp90, m90⟩ := m88.openC (i := 9) rfl (Nat.lt_of_le_of_lt (Nat.zero_le (xb.toNat)) (by first | omega | (rw [List.length_map]; omega)))
   revert Hz
   cases hp90
   intro Hz
   obtain ⟨vs91, hc91, hR91⟩ := m90.eltC (i := 9) rfl (xb.toNat) (r := [.l 2 (h9.map itD)]) (hD_get hes9)
   revert Hz
   rcases hR91 with _ | ⟨hd91_0, _ | _⟩
   obtain ⟨p92, c92, hv92, hw92⟩ := hd91_0.l_shape; subst hv92
   intro Hz
   have m92 := m90.dat 203 rfl (hd91_0.cast (fun _ h => h)); clear m90 hd91_0
   have m93 := m92.oz [1, 2, 9, 10, 11, 12, 13, 14, 200, 201, 202, 203]
   refine region_p 16 (B := [(1, _), (2, _), (9, _), (10, _), (11, _), (12, _), (13, _), (14, _), (200, _), (201, _), (202, _), (203, _)]) (m93.to ⟨il, il, il, il, il, il, il, il, il, il, il, il, trivial⟩) m93 (by kernel_rfl) (fun w94 hP94 m94 => ?_); clear m93
   refine goR hP94 [0, 1, 2, 3, 4, 5, 6, 7, 8, 9, 10, 11, 12, 13] [1, 3, 5, 7, 9, 11, 13] 14 0 16383 Hz (m94.to ⟨il, il, il, il, il, il, il, il, il, il, il, il, trivial⟩) (.fa 6 rfl U39 <| .lb hh 10 U37 rfl rfl rfl <| .fa 0 rfl U78 <| .lb hh 202 U3 rfl rfl rfl <| .fa 6 rfl U39 <| .lb hh 10 U37 rfl rfl rfl <| .fa 0 rfl U78 <| .lb hh 202 U3 rfl rfl rfl <| .p (fun _ _ h_ => y_idx h_ rfl rfl U37 fct12 (xb.toNat) (Int.toNat_of_nonneg hxb.1).symm (by first | omega | (rw [List.length_map]; omega))) <| .c (fun _ hW _ h_ => y_loadRC1 h_ hW (i := 9) rfl (xb.toNat) hc91 rfl U94 rfl) <| .fa 0 rfl U30 <| .lb hh 13 U2 rfl rfl rfl <| .fa 1 rfl U78 <| .lb hh 202 U22 rfl rfl rfl .nil) fun Az Hz => ?_
   refine so 14 ?_
   refine ecl Hz Tryz.func53 rfl (hadd_x _ h9 xs xd _ _ _ _ _ _ hh9.2.1 hh9.2.2 hxd (m94.into [(1, 203), (2, 201)] (by decide) rfl)) ?_
   rintro e w109 ⟨p109, c109, rfl, hm109⟩
   have mx109 := m94.back hm109 [(203, 1), (201, 2), (204, 9)] (by decide); clear hm109 m94
   have m109 := mx109.oz [203, 201, 204, 1, 2, 9, 10, 11, 12, 13, 14, 200, 202]
   refine ⟨_, rfl, ?_⟩; intro Az Hz
   refine ⟨m109.to ⟨il, il, il, il, il, il, il, il, il, il, il, il, trivial⟩, ?_⟩
   refine goA hP94 [15] 1 32767 65535 Hz (m109.to ⟨il, il, il, il, il, il, il, il, il, il, il, il, trivial⟩) (.p (fun _ _ h_ => y_idx h_ rfl rfl U37 fct12 (xb.toNat) (Int.toNat_of_nonneg hxb.1).symm (by omega)) .nil) fun Az Hz => ?_
   have m112 := m109.closeC 9 rfl
   refine se 16 ?_
   refine e_storeR1 Hz m112 9 rfl (xb.toNat) (by rw [List.length_map]; omega) rfl rfl rfl rfl fct12 (m112.rd (i := 204) rfl) fun w113 m113 => ?_
   have hset : (L2.map hD).set xb.toNat [D.l 2 ((addF h9 xs xd).map itD)] = (L2.set xb.toNat (addF h9 xs xd)).map hD := by rw [List.map_set]; rfl
   rw [hset] at m113
   refine wpAnyE_done (by kernel_rfl) ?_ _
   refine hK10 _ _ ?_
   replace Hz := Hz.oz [2, 3, 4, 6, 40, 41, 42, 52, 53, 54]
   refine wp_region_lit ?_
   refine goCh Hz (.inc (j + 1) <| .move rfl .nil) fun Az Hz => ?_
   refine wpList_nil ?_
   show ∃ n', n' < _ ∧ _
   exact ⟨xl.length - (j + 1), by omega, j + 1, _, _, _, _, L2.set xb.toNat (addF h9 xs xd), _, _, _, _, by omega, rfl, by rw [addW_snoc hxs, ← hL2, hx9], by rw [List.length_set]; exact hLl, hLB.set hh9.1 hxd (by omega), Hz.only [2, 3, 4, 6, 40, 41, 42, 52, 53, 54], m113.ren [(1, 1), (2, 2), (9, 9), (10, 10), (11, 11), (12, 12), (13, 13), (14, 14)] (by decide)⟩
  intro hb80 Hz; try simp only [QQ, Qax] at hb80
  revert Hz
  obtain rfl : j = xl.length := by have := hb80; first | (rw [List.length_map] at this; omega) | (simp at this; omega)
  intro Hz
  rw [List.take_length] at hL2
  refine wcf Hz ?_
  refine wp_exit ?_
  refine hK6 _ _ ?_
  refine wp_region_lit ?_
  refine goCh Hz (.inc (k + 1) <| .move rfl .nil) fun Az Hz => ?_
  refine wpList_nil ?_
  show ∃ n', n' < _ ∧ _
  have hstep : L2 = applyW mk H (W.take (k + 1)) := by rw [applyW_snoc hes, if_neg (by omega), ← hHk]; exact hL2
  exact ⟨W.length - (k + 1), by omega, k + 1, _, _, _, L2, _, _, by omega, rfl, hstep, hLB.up (by omega), Hz.only [2, 3, 4, 40, 41, 42], m78.ren [(1, 1), (2, 2), (9, 9), (10, 10), (11, 11), (12, 12)] (by decide)⟩
 intro hb55 Hz; try simp only [QQ, Qax] at hb55
 revert Hz
 obtain rfl : k = W.length := by have := hb55; first | omega | (simp at this; omega)
 intro Hz
 rw [List.take_length] at hHk
 have hfl : Hk.length = H.length := by rw [hHk, applyW_len]
 refine wcf Hz ?_
 refine wp_exit ?_
 refine hK4 _ _ ?_
 refine wsk fun K12 hK12 => ?_
 have hC12 : ∀ (a : Act) (w : World), (∃ (gA gB gR : Nat) (p9 : Option Addr) (c9 : Nat), Has 106 [(2, .pointer (some ⟨gA, 0, none⟩)), (3, .pointer (some ⟨gB, 0, none⟩)), (4, .pointer (some ⟨gR, 0, none⟩))] a ∧ MemOk X w0 [(1, .dat (.slice p H.length c) (.l 1 (H.map hD))), (2, .dat (.slice pw W.length cw) (.l 2 (W.map wrD))), (9, .row (.slice p9 H.length c9) 94 1 (Hk.map hD)), (10, .box gA 39 [.int .i64 vo, .int .i64 ch, .int .i64 cn, .int .i64 sz, .int .i64 (max mk to), .int .i64 (max fl fl2), .slice p9 H.length c9]), (11, .box gB 25 [.int .i64 vo, .int .i64 ch, .int .i64 cn, .int .i64 sz, .int .i64 fr, .int .i64 to, .int .i64 fl2, .slice pw W.length cw]), (12, .box gR 39 [.int .i64 0, .int .i64 0, .int .i64 0, .int .i64 0, .int .i64 0, .int .i64 0, .slice none 0 0])] w) → K12 a w := by
   clear Hz m53
   rintro Az w119 ⟨gA, gB, gR, p9, c9, Hz, m119⟩
   refine hK12 _ _ ?_
   refine wsk fun K13 hK13 => ?_
   refine regS Hz (.fa 6 rfl U39 <| .lb m119 10 U37 rfl rfl rfl <| .len rfl U37 <| .move rfl .nil) fun Az Hz => ?_
   refine wp_block ?_
   refine wp_loop_ghost (fun g a w => ∃ (k gA gB gR : Nat) (L3 : List (List Ver)) (p9 : Option Addr) (c9 : Nat), k ≤ H.length ∧ g = H.length - k ∧ L3 = ((Hk.take k).map (fun h => pruneF h (max fl fl2)) ++ Hk.drop k) ∧ Has 106 [(2, .pointer (some ⟨gA, 0, none⟩)), (3, .pointer (some ⟨gB, 0, none⟩)), (4, .pointer (some ⟨gR, 0, none⟩)), (89, .slice p9 H.length c9), (90, .int .i64 H.length), (91, .int .i64 k)] a ∧ MemOk X w0 [(1, .dat (.slice p H.length c) (.l 1 (H.map hD))), (2, .dat (.slice pw W.length cw) (.l 2 (W.map wrD))), (9, .row (.slice p9 H.length c9) 94 1 (L3.map hD)), (10, .box gA 39 [.int .i64 vo, .int .i64 ch, .int .i64 cn, .int .i64 sz, .int .i64 (max mk to), .int .i64 (max fl fl2), .slice p9 H.length c9]), (11, .box gB 25 [.int .i64 vo, .int .i64 ch, .int .i64 cn, .int .i64 sz, .int .i64 fr, .int .i64 to, .int .i64 fl2, .slice pw W.length cw]), (12, .box gR 39 [.int .i64 0, .int .i64 0, .int .i64 0, .int .i64 0, .int .i64 0, .int .i64 0, .slice none 0 0])] w) (H.length) ?_ ?_
   · exact ⟨0, _, _, _, Hk, _, _, Nat.zero_le _, rfl, by simp, Hz.only [2, 3, 4, 89, 90, 91], m119.ren [(1, 1), (2, 2), (9, 9), (10, 10), (11, 11), (12, 12)] (by decide)⟩
   clear Hz m119
   rintro g Az w124 ⟨k, gA, gB, gR, L3, p9, c9, hkl, hg3, hL3, Hz, m124⟩
   refine regS Hz (.lss rfl rfl .nil) fun Az Hz => ?_
   refine wsk fun K14 hK14 => ?_
   refine bc Hz 92 ?_ ?_
   ·
    intro hb126 Hz; try simp only [QQ, Qax] at hb126
    have hk : k < H.length := by have := hb126; first | omega | (simp at this; omega)
    obtain ⟨h9, hes⟩ : ∃ e, Hk[k]? = some e := ⟨_, List.getElem?_eq_getElem (by omega)⟩
    have hes9 : L3[k]? = some h9 := by rw [hL3]; exact prune_at hes
    have hLl : L3.length = H.length := by rw [hL3, List.length_append, List.length_map, List.length_take, List.length_drop]; omega
    have hh9 := hHB.at (List.mem_of_getElem? hes)
    refine wct Hz ?_
    refine zss (hK14 _ _ ?_)
    refine wsk fun K15 hK15 => ?_
    refine wp_block ?_
    refine zsr fun K16 hK16 => ?_
    refine goCh Hz (.move rfl .nil) fun Az Hz => ?_
    obtain ⟨gr130, cr130, hp130, m130⟩ := m124.openC (i := 9) rfl (Nat.lt_of_le_of_lt (Nat.zero_le (k)) (show k < (L3.map hD).length by rw [List.length_map]; omega))
    revert Hz
    cases hp130
    intro Hz
    obtain ⟨vs131, hc131, hR131⟩ := m130.eltC (i := 9) rfl (k) (r := [.l 2 (h9.map itD)]) (hD_get hes9)
    revert Hz
    rcases hR131 with _ | ⟨hd131_0, _ | _⟩
    obtain ⟨p132, c132, hv132, hw132⟩ := hd131_0.l_shape; subst hv132
    intro Hz
    have m132 := m130.dat 300 rfl (hd131_0.cast (fun _ h => h)); clear m130 hd131_0
    refine gz hK16 Hz (.c rfl (fun _ h_ => y_idx h_ rfl rfl U37 fct12 (k) rfl (by omega)) <| .c rfl (fun _ h_ => y_loadRC1 h_ m132 (i := 9) rfl (k) hc131 rfl U94 rfl) <| .assign rfl <| .assign rfl <| .nil) fun Az Hz => ?_
    have m137 := m132.oz [1, 2, 9, 10, 11, 12, 300]
    refine region_p 8 (B := [(1, _), (2, _), (9, _), (10, _), (11, _), (12, _), (300, _)]) (m137.to ⟨il, il, il, il, il, il, il, trivial⟩) m137 (by kernel_rfl) (fun w138 hP138 m138 => ?_); clear m137
    refine goR hP138 [0, 1, 2, 3, 4, 5] [1, 5] 6 0 63 Hz (m138.to ⟨il, il, il, il, il, il, il, trivial⟩) (.fa 6 rfl U39 <| .lb hh 10 U37 rfl rfl rfl <| .move rfl <| .move rfl <| .fa 5 rfl U39 <| .lb hh 10 U2 rfl rfl rfl .nil) fun Az Hz => ?_
    refine so 6 ?_
    refine ecl Hz Tryz.func54 rfl (hprune_x _ h9 (max fl fl2) _ _ _ _ hh9.2.1 hh9.2.2 hh9.1 (m138.into [(1, 300)] (by decide) rfl)) ?_
    rintro e w145 ⟨p145, c145, rfl, hm145⟩
    have mx145 := m138.back hm145 [(300, 1), (301, 9)] (by decide); clear hm145 m138
    have m145 := mx145.oz [300, 301, 1, 2, 9, 10, 11, 12]
    refine ⟨_, rfl, ?_⟩; intro Az Hz
    refine ⟨m145.to ⟨il, il, il, il, il, il, il, trivial⟩, ?_⟩
    refine goA hP138 [7] 1 127 255 Hz (m145.to ⟨il, il, il, il, il, il, il, trivial⟩) (.p (fun _ _ h_ => y_idx h_ rfl rfl U37 fct12 (k) rfl (by omega)) .nil) fun Az Hz => ?_
    have m148 := m145.closeC 9 rfl
    refine se 8 ?_
    refine e_storeR1 Hz m148 9 rfl (k) (by rw [List.length_map]; omega) rfl rfl rfl rfl fct12 (m148.rd (i := 301) rfl) fun w149 m149 => ?_
    have hset : (L3.map hD).set k [D.l 2 ((pruneF h9 (max fl fl2)).map itD)] = (L3.set k (pruneF h9 (max fl fl2))).map hD := by rw [List.map_set]; rfl
    rw [hset] at m149
    refine wpAnyE_done (by kernel_rfl) ?_ _
    refine hK15 _ _ ?_
    replace Hz := Hz.oz [2, 3, 4, 89, 90, 91]
    refine wp_region_lit ?_
    refine goCh Hz (.inc (k + 1) <| .move rfl .nil) fun Az Hz => ?_
    refine wpList_nil ?_
    show ∃ n', n' < _ ∧ _
    have hstep : L3.set k (pruneF h9 (max fl fl2)) = ((Hk.take (k + 1)).map (fun h => pruneF h (max fl fl2)) ++ Hk.drop (k + 1)) := by rw [hL3]; exact prune_step hes
    exact ⟨H.length - (k + 1), by omega, k + 1, _, _, _, _, _, _, by omega, rfl, hstep, Hz.only [2, 3, 4, 89, 90, 91], m149.ren [(1, 1), (2, 2), (9, 9), (10, 10), (11, 11), (12, 12)] (by decide)⟩
   intro hb126 Hz; try simp only [QQ, Qax] at hb126
   revert Hz
   obtain rfl : k = H.length := by have := hb126; first | omega | (simp at this; omega)
   intro Hz
   refine wcf Hz ?_
   refine wp_exit ?_
   refine hK13 _ _ ?_
   refine zsr fun K17 hK17 => ?_
   refine goCh Hz (.loadBR m124 (i := 10) rfl rfl U39 rfl fct5 (by simp) (by dsimp only [List.drop, List.take] <;> rfl) .nil) fun Az Hz => ?_
   refine plz (stw Hz m124 12 fct5 fun w155 m155 _ => ?_)
   refine znl (hK17 _ _ ?_)
   refine rtd (retC (fn := Tryz.f17) Hz m155 (i := 12) rfl rfl rfl U39 rfl fct5 ?_)
   have hend : L3 = Hk.map (fun h => pruneF h (max fl fl2)) := by rw [hL3, ← hfl, List.take_length, List.drop_length, List.append_nil]
   rw [hend, hHk] at m155
   exact ⟨_, _, rfl, m155.ren [(1, 1), (2, 2), (9, 9)] (by decide)⟩
 have m156 := m53.oz [1, 2, 9, 10, 11, 12]
 refine region_p 11 (B := [(1, _), (2, _), (9, _), (10, _), (11, _), (12, _)]) (m156.to ⟨il, il, il, il, il, il, trivial⟩) m156 (by kernel_rfl) (fun w157 hP157 m157 => ?_); clear m156
 refine goR hP157 [0, 1, 2, 3, 4, 5, 6, 7, 10] [1, 3, 6] 9 0 1279 Hz (m157.to ⟨il, il, il, il, il, il, trivial⟩) (.fa 4 rfl U39 <| .lb hh 10 U2 rfl rfl rfl <| .fa 5 rfl U25 <| .lb hh 11 U2 rfl rfl rfl <| .p (fun _ _ h_ => y_max h_ rfl rfl rfl) <| .fa 5 rfl U39 <| .lb hh 10 U2 rfl rfl rfl <| .fa 6 rfl U25 <| .fa 4 rfl U39 .nil) fun Az Hz => ?_
 refine dtw 8 11 ?_ ?_
 ·
  refine e_y Hz rfl (y_loadB1 Hz m157 (i := 11) rfl rfl rfl U2 rfl) fun Az Hz => ?_
  refine ⟨fun _ => (m157.to ⟨il, il, il, il, il, il, trivial⟩), ?_⟩
  refine goA hP157 [9] 1 1535 2047 Hz (m157.to ⟨il, il, il, il, il, il, trivial⟩) (.p (fun _ _ h_ => y_max h_ rfl rfl rfl) .nil) fun Az Hz => ?_
  refine se 11 ?_
  refine st1 Hz m157 10 fct22 fun w169 m169 _ => ?_
  refine goB hP157 [12] 1 4095 8191 Hz (.fa 5 rfl U39 .nil) fun Az Hz => ?_
  refine se 13 ?_
  refine st1 Hz m169 10 fct22 fun w171 m171 _ => ?_
  refine wpAnyE_done (by kernel_rfl) ?_ _
  show K12 _ _
  exact hC12 _ _ ⟨_, _, _, _, _, Hz.only [2, 3, 4], m171.ren [(1, 1), (2, 2), (9, 9), (10, 10), (11, 11), (12, 12)] (by decide)⟩
 refine st1 Hz m157 10 fct22 fun w172 m172 _ => ?_
 refine ⟨fun h => (Bool.false_ne_true (h.symm.trans (by rfl))).elim, ?_⟩
 refine se 8 ?_
 refine e_y Hz rfl (y_loadB1 Hz m172 (i := 11) rfl rfl rfl U2 rfl) fun Az Hz => ?_
 refine goB hP157 [9, 12] 2 3583 8191 Hz (.p (fun _ _ h_ => y_max h_ rfl rfl rfl) <| .fa 5 rfl U39 .nil) fun Az Hz => ?_
 refine se 13 ?_
 refine st1 Hz m172 10 fct22 fun w176 m176 _ => ?_
 refine wpAnyE_done (by kernel_rfl) ?_ _
 show K12 _ _
 exact hC12 _ _ ⟨_, _, _, _, _, Hz.only [2, 3, 4], m176.ren [(1, 1), (2, 2), (9, 9), (10, 10), (11, 11), (12, 12)] (by decide)⟩
end Go.Proofs.YteglmahnkfgelaaGreat.K
