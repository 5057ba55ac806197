/- stream: the law's some. -/
import Derived.Test.YtodiklpfdfjikaaDoorStr15m
namespace Go.Proofs.YtodiklpfdfjikaaDoor.K
open Go.ChangeShapes Go.WideShapes Go.ChangeAt Go.RowKit
set_option linter.unusedVariables false
set_option linter.unusedSimpArgs false
theorem fl29sso : flatS Tryd.prog 29 [.int .i64 0, .int .i64 0, .int .i64 0, .int .i64 0, .slice none 0 0] = true := by kernel_rfl
theorem fl46sso : flatS Tryd.prog 46 [.int .i64 0, .slice none 0 0] = true := by kernel_rfl
set_option maxRecDepth 100000
set_option maxHeartbeats 4000000
theorem some_any (l : List Int) (fv tv : Nat) (pl : Option Addr) (cl : Nat) (w0 : World) (h1 : Rd (fun _ => True) w0 (.slice pl l.length cl) (.ns .u8 l)) (hl : l.length ≤ 1000) (hlb : ∀ j, j < l.length → 0 ≤ l.getD j 0 ∧ l.getD j 0 ≤ 255) (hf : fv ≤ 255) (ht : tv ≤ 255) :
   Calls Tryd.prog 8 #[.slice pl l.length cl, .int .u8 (fv : Int), .int .u8 (tv : Int)] w0 fun e w' => ∃ (bl sz fr to : Int) (its : List (Int × List Int)) (pa : Option Addr) (ca : Nat), e = .returned (.agg #[.int .i64 bl, .int .i64 sz, .int .i64 fr, .int .i64 to, .slice pa (its.map itD).length ca]) ∧ StreamOk bl sz fr to its ∧ (∀ e ∈ its, BytesL e.2) ∧ Rd (New w0) w' (.slice pa (its.map itD).length ca) (.l 2 (its.map itD)) ∧ Below w0.heap.size w0 w' := by
 refine ent3 Tryd.func8 rfl Tryd.ntmps8 fun Az Hz => ?_
 have m0 := MemOk.start (fun _ => False) w0
 refine zsr fun K0 hK0 => ?_
 refine plz (e_alloc Hz m0 70 fct12 rfl fun g1 Az w2 Hz m2 _ _ => ?_)
 refine znl (hK0 _ _ ?_); clear hK0
 refine zsr fun K1 hK1 => ?_
 refine goCh Hz (.move rfl .nil) fun Az Hz => ?_
 refine plz (ecl Hz Tryd.func20 rfl (svol_any l _ _ _ ((h1.now' m2 rfl).any) (by omega) hlb) ?_)
 rintro e w5 ⟨y, p15, p25, p35, d15, d25, d35, rfl, hS, hd5, he5, hf5, hb5⟩
 have m6 := m2.callF3 71 72 73 rfl rfl rfl hb5 hd5 he5 hf5
 clear m2
 clear hb5 hd5 he5 hf5
 have hS0 := hS
 obtain ⟨hpl, hpn, hws, hwi⟩ := hS.sm
 obtain ⟨hV, hh0, hpn9, hws9, hwb9⟩ := hS0
 have hV9 := hV
 obtain ⟨v1, v2, v3, v4, v5, v6, v7, v8, v9⟩ := hV9
 have v0 := v1
 obtain ⟨n1, n2, n3, n4, n5, n6, n7, n8, n9, n10, n11⟩ := v0
 have hwo := hV.its
 refine ⟨_, rfl, ?_⟩; intro Az Hz
 refine plz (e_alloc Hz m6 74 fct21 rfl fun g8 Az w9 Hz m9 _ _ => ?_)
 refine plz (e_storeW Hz m9 74 rfl rfl rfl rfl rfl fct16 fun w10 m10 _ => ?_)
 refine znl (hK1 _ _ ?_); clear hK1
 refine zsr fun K2 hK2 => ?_
 refine goCh Hz (.fieldAddr (off := 8) rfl U56 rfl (s := 0) (by kernel_rfl) rfl .nil) fun Az Hz => ?_
 refine plz (e_store1 Hz m10 74 rfl rfl rfl rfl rfl fct3 (by dsimp only [List.set] <;> rfl) fun w13 m13 _ => ?_)
 refine znl (hK2 _ _ ?_); clear hK2
 refine zsr fun K3 hK3 => ?_
 refine goCh Hz (.move rfl <| .conv rfl U5 U2 (IntWalk.i64_in _ (by omega)) <| .loadBR m13 (i := 74) rfl rfl U56 rfl fct16 (by simp) (by dsimp only [List.drop, List.take] <;> rfl) <| .nil) fun Az Hz => ?_
 refine plz (ecb Hz Tryd.func21 rfl m13 (rlen_w _ _ _ _ _ _ _ _ _ _ _ _ _ _ _ y.ws _ _) fun Az w20 Hz m21 => ?_)
 obtain ⟨T, hTe⟩ : ∃ T, tv % (y.ws.length + 1) = T := ⟨_, rfl⟩
 have hTl : T ≤ y.ws.length := by rw [← hTe]; exact Nat.le_of_lt_succ (Nat.mod_lt _ (by omega))
 obtain ⟨F, hFe⟩ : ∃ F, fv % (T + 1) = F := ⟨_, rfl⟩
 have hFl : F ≤ T := by rw [← hFe]; exact Nat.le_of_lt_succ (Nat.mod_lt _ (by omega))
 refine goCh Hz (.add rfl rfl (r := (y.ws.length : Int) + 1) (IntWalk.i64_in _ (by omega)) <| .rem rfl rfl (by omega) (r := (T : Int)) (by rw [tmodN, hTe]) <| .assign rfl <| .nil) fun Az Hz => ?_
 refine znl (hK3 _ _ ?_); clear hK3
 replace Hz : Has 87 [(1, _), (6, _), (7, _), (8, _)] Az := Hz.only [1, 6, 7, 8]
 refine regS Hz (.move rfl <| .conv rfl U5 U2 (IntWalk.i64_in _ (by omega)) <| .move rfl <| .add rfl rfl (r := (T : Int) + 1) (IntWalk.i64_in _ (by omega)) <| .rem rfl rfl (by omega) (r := (F : Int)) (by rw [tmodN, hFe]) <| .assign rfl <| .nil) fun Az Hz => ?_
 refine zsr fun K4 hK4 => ?_
 refine goCh Hz (.loadBR m21 (i := 74) rfl rfl U56 rfl fct16 (by simp) (by dsimp only [List.drop, List.take] <;> rfl) <| .move rfl <| .nil) fun Az Hz => ?_
 refine plz (ecl Hz Tryd.func22 rfl (rstate_g _ y _ hS (by omega) _ _ _ _ _ _ _ _ 0 _ F rfl _ (fun b hb => (List.not_mem_nil (a := b)) hb) (by omega) (by omega) (m21.into [(3, 73)] (by decide) rfl)) ?_)
 rintro e w37 ⟨p37, c37, rfl, hm37⟩
 have mx37 := m21.back hm37 [(73, 3), (75, 9)] (by decide); clear hm37 m21
 have m37 : MemOk _ _ [(73, _), (75, _), (70, _), (71, _), (72, _), (74, _)] _ := mx37.only [73, 75, 70, 71, 72, 74]; clear mx37
 refine ⟨_, rfl, ?_⟩; intro Az Hz
 obtain ⟨A, hA9⟩ : ∃ L, stL y.bl y.sz y.ws F = L := ⟨_, rfl⟩
 have hAl : A.length = y.bl.toNat := by rw [← hA9, stL_len]
 have hAb : ∀ k, BytesL (A.getD k []) := fun k => by rw [← hA9]; exact stL_by hwb9 _ _ _ k
 rw [hA9] at m37 Hz
 refine goCh Hz (.move rfl <| .extract rfl rfl <| .extract rfl rfl <| .assign rfl <| .assign rfl <| .nil) fun Az Hz => ?_
 refine znl (hK4 _ _ ?_); clear hK4
 replace Hz : Has 87 [(1, _), (6, _), (7, _), (8, _), (29, _), (9, _), (10, _)] Az := Hz.only [1, 6, 7, 8, 29, 9, 10]
 refine zsr fun K5 hK5 => ?_
 refine goCh Hz (.loadBR m37 (i := 74) rfl rfl U56 rfl fct16 (by simp) (by dsimp only [List.drop, List.take] <;> rfl) <| .move rfl <| .nil) fun Az Hz => ?_
 refine plz (ecl Hz Tryd.func22 rfl (rstate_g _ y _ hS (by omega) _ _ _ _ _ _ _ _ 0 _ T rfl _ (fun b hb => (List.not_mem_nil (a := b)) hb) (by omega) (by omega) (m37.into [(3, 73)] (by decide) rfl)) ?_)
 rintro e w49 ⟨p49, c49, rfl, hm49⟩
 have mx49 := m37.back hm49 [(73, 3), (76, 9)] (by decide); clear hm49 m37
 have m49 : MemOk _ _ [(73, _), (76, _), (70, _), (71, _), (72, _), (74, _), (75, _)] _ := mx49.only [73, 76, 70, 71, 72, 74, 75]; clear mx49
 refine ⟨_, rfl, ?_⟩; intro Az Hz
 obtain ⟨S, hS9⟩ : ∃ L, stL y.bl y.sz y.ws T = L := ⟨_, rfl⟩
 have hSl : S.length = y.bl.toNat := by rw [← hS9, stL_len]
 have hSb : ∀ k, BytesL (S.getD k []) := fun k => by rw [← hS9]; exact stL_by hwb9 _ _ _ k
 rw [hS9] at m49 Hz
 refine goCh Hz (.move rfl <| .extract rfl rfl <| .extract rfl rfl <| .assign rfl <| .assign rfl <| .nil) fun Az Hz => ?_
 refine znl (hK5 _ _ ?_); clear hK5
 replace Hz : Has 87 [(1, _), (6, _), (7, _), (8, _), (29, _), (9, _), (10, _), (12, _)] Az := Hz.only [1, 6, 7, 8, 29, 9, 10, 12]
 refine zsr fun K6 hK6 => ?_
 refine goCh Hz (.fa 1 rfl U56 <| .lb m49 74 U3 rfl rfl rfl <| .fa 2 rfl U56 <| .lb m49 74 U3 rfl rfl rfl <| .move rfl <| .move rfl <| .build rfl fct12 fl29sso rfl (by dsimp only [setL, List.set] <;> rfl) <| .nil) fun Az Hz => ?_
 refine plz (e_alloc Hz m49 77 fct12 rfl fun g71 Az w72 Hz m72 _ _ => ?_)
 refine plz (e_storeW Hz m72 77 rfl rfl rfl rfl rfl fct11 fun w73 m73 _ => ?_)
 refine znl (hK6 _ _ ?_); clear hK6
 refine wp_seq_k (fun K7 hK7 => ?_)
 have hC7 : ∀ (a : Act) (w : World), (∃ (fl : Bool) (B6 B7 B14 : Nat) (pp pn pw pA pS : Option Addr) (np cp nn cn9 nw cw cA cS : Nat), (fl = true ↔ fv % 3 = 0) ∧ Has 87 [(1, .int .u8 (fv : Int)), (6, .pointer (some ⟨B6, 0, none⟩)), (7, .pointer (some ⟨B7, 0, none⟩)), (10, .slice pA (A.map bD).length cA), (12, .slice pS (S.map bD).length cS), (14, .pointer (some ⟨B14, 0, none⟩))] a ∧ MemOk (cn w0) w0 [(6, .box B6 29 [.int .i64 0, .int .i64 0, .int .i64 0, .int .i64 0, .slice none 0 0]), (7, .box B7 56 [.int .i64 y.vo, .int .i64 y.bl, .int .i64 y.sz, .int .i64 y.pe, .slice pp np cp, .int .i64 y.to, .int .i64 y.ne, .bool y.hi, .int .i64 0, .slice pn nn cn9, .slice pw nw cw]), (9, .dat (.slice pA (A.map bD).length cA) (.l 1 (A.map bD))), (21, .dat (.slice pS (S.map bD).length cS) (.l 1 (S.map bD))), (14, .box B14 29 [.int .i64 y.bl, .int .i64 y.sz, .int .i64 (if fl = true then -1 else (F : Int)), .int .i64 (T : Int), .slice none 0 0])] w) → K7 a w := by
   clear Hz m73
   rintro Az w74 ⟨fl, B6, B7, B14, pp, pn, pw, pA, pS, np, cp, nn, cn9, nw, cw, cA, cS, hfl, Hz, m74⟩
   refine hK7 _ _ ?_; clear hK7
   refine wp_seq_k (fun K8 hK8 => ?_)
   refine regS Hz (.assign rfl <| .nil) fun Az Hz => ?_
   refine wp_block ?_
   refine wp_loop_ghost (fun g a w => ∃ (k : Nat) (B6 B7 B14 : Nat) (pp pn pw pA pS : Option Addr) (np cp nn cn9 nw cw cA cS : Nat) (q9 : Option Addr) (c9 : Nat), k ≤ y.bl.toNat ∧ g = y.bl.toNat - k ∧ Has 87 [(1, .int .u8 (fv : Int)), (6, .pointer (some ⟨B6, 0, none⟩)), (7, .pointer (some ⟨B7, 0, none⟩)), (10, .slice pA (A.map bD).length cA), (12, .slice pS (S.map bD).length cS), (14, .pointer (some ⟨B14, 0, none⟩)), (15, .int .i64 (k : Int))] a ∧ MemOk (cn w0) w0 [(6, .box B6 29 [.int .i64 0, .int .i64 0, .int .i64 0, .int .i64 0, .slice none 0 0]), (7, .box B7 56 [.int .i64 y.vo, .int .i64 y.bl, .int .i64 y.sz, .int .i64 y.pe, .slice pp np cp, .int .i64 y.to, .int .i64 y.ne, .bool y.hi, .int .i64 0, .slice pn nn cn9, .slice pw nw cw]), (9, .dat (.slice pA (A.map bD).length cA) (.l 1 (A.map bD))), (21, .dat (.slice pS (S.map bD).length cS) (.l 1 (S.map bD))), (14, .box B14 29 [.int .i64 y.bl, .int .i64 y.sz, .int .i64 (if fl = true then -1 else (F : Int)), .int .i64 (T : Int), .slice q9 ((difI fl A S k).map itD).length c9]), (22, .row (.slice q9 ((difI fl A S k).map itD).length c9) 46 2 ((difI fl A S k).map itD))] w) (y.bl.toNat) ?_ ?_
   · have mz := m74.nilR 22 46 2
     exact ⟨0, _, _, _, _, _, _, _, _, _, _, _, _, _, _, _, _, _, _, Nat.zero_le _, rfl, Hz.only [1, 6, 7, 10, 12, 14, 15], mz.ren [(6, 6), (7, 7), (9, 9), (21, 21), (14, 14), (22, 22)] (by decide)⟩
   clear Hz m74
   rintro g Az w76 ⟨k, B6, B7, B14, pp, pn, pw, pA, pS, np, cp, nn, cn9, nw, cw, cA, cS, q9, c9, hkl, hg, Hz, m76⟩
   refine wp_seq_k (fun K9 hK9 => ?_)
   refine regS Hz (.move rfl <| .fa 1 rfl U56 <| .lb m76 7 U3 rfl rfl rfl <| .lss rfl rfl <| .nil) fun Az Hz => ?_
   refine bc Hz 56 ?_ ?_
   ·
    intro hb81 Hz; try simp only [QQ, Qax] at hb81
    have hk : k < y.bl.toNat := by have := hb81; first | omega | (simp at this; omega)
    refine wct Hz ?_
    refine zss (hK9 _ _ ?_); clear hK9
    refine wp_seq_k (fun K10 hK10 => ?_)
    refine wp_block ?_
    refine wp_seq_k (fun K11 hK11 => ?_)
    obtain ⟨b82, o82, vs82, hp82, hR82, ho82, m82⟩ := m76.openR (i := 9) rfl (k) (r := [.ns .u8 (A.getD k [])]) (bD_get (by omega)) 200 rfl
    revert Hz
    cases hp82; clear m76 ho82
    rcases hR82 with _ | ⟨hd82_0, _ | _⟩
    obtain ⟨p83, c83, hv83, hc83⟩ := hd82_0.ns_shape; subst hv83
    intro Hz
    have m83 := m82.dat 201 rfl (hd82_0.cast (fun _ h => (free_add rfl h))); clear m82 hd82_0
    obtain ⟨b84, o84, vs84, hp84, hR84, ho84, m84⟩ := m83.openR (i := 21) rfl (k) (r := [.ns .u8 (S.getD k [])]) (bD_get (by omega)) 202 rfl
    revert Hz
    cases hp84; clear m83 ho84
    rcases hR84 with _ | ⟨hd84_0, _ | _⟩
    obtain ⟨p85, c85, hv85, hc85⟩ := hd84_0.ns_shape; subst hv85
    intro Hz
    have m85 := m84.dat 203 rfl (hd84_0.cast (fun _ h => (free_add rfl h))); clear m84 hd84_0
    have m86 : MemOk _ _ [(6, _), (7, _), (9, _), (14, _), (21, _), (22, _), (200, _), (201, _), (202, _), (203, _)] _ := m85.only [6, 7, 9, 14, 21, 22, 200, 201, 202, 203]; clear m85
    refine region_p 16 (B := [(6, _), (7, _), (9, _), (14, _), (21, _), (22, _), (200, _), (201, _), (202, _), (203, _)]) (m86.to ⟨il, il, il, il, il, il, il, il, il, il, trivial⟩) m86 (by kernel_rfl) (fun w87 hP87 m87 => ?_); clear m86
    refine goA hP87 [0, 1, 2, 3] 4 0 15 Hz (m87.to ⟨il, il, il, il, il, il, il, il, il, il, trivial⟩) (.move rfl <| .rem rfl rfl (by decide) (r := (fv : Int) % 3) (Int.tmod_eq_emod_of_nonneg (by omega)) <| .eql rfl rfl <| .move rfl <| .nil) fun Az Hz => ?_
    refine bc Hz 62 ?_ ?_
    ·
     intro hb92 Hz; try simp only [QQ, Qax] at hb92
     have hyes : (fl || !decide (A.getD k [] = S.getD k [])) = true := by rw [hfl.2 (by omega)]; rfl
     refine goA hP87 [4, 5, 6, 7, 8, 9, 10, 11, 12, 13, 14, 15] 12 15 65535 Hz (m87.to ⟨il, il, il, il, il, il, il, il, il, il, trivial⟩) (.s <| .s <| .s <| .s <| .s <| .s <| .s <| .s <| .s <| .s <| .s <| .pickT rfl rfl <| .nil) fun Az Hz => ?_
     refine wpAnyE_done (by kernel_rfl) ?_ _
     refine hK11 _ _ ?_; clear hK11
     refine wct Hz ?_
     replace Hz : Has 87 [(1, _), (6, _), (7, _), (10, _), (12, _), (14, _), (15, _), (62, _), (74, _)] Az := Hz.only [1, 6, 7, 10, 12, 14, 15, 62, 74]
     obtain ⟨b106, o106, vs106, hp106, hR106, ho106, m106⟩ := m87.openR (i := 21) rfl (k) (r := [.ns .u8 (S.getD k [])]) (bD_get (by omega)) 204 rfl
     revert Hz
     cases hp106; clear m87 ho106
     rcases hR106 with _ | ⟨hd106_0, _ | _⟩
     obtain ⟨p107, c107, hv107, hc107⟩ := hd106_0.ns_shape; subst hv107
     intro Hz
     have m107 := m106.dat 205 rfl (hd106_0.cast (fun _ h => (free_add rfl h))); clear m106 hd106_0
     have m108 : MemOk _ _ [(6, _), (7, _), (9, _), (14, _), (21, _), (22, _), (200, _), (201, _), (202, _), (203, _), (204, _), (205, _)] _ := m107.only [6, 7, 9, 14, 21, 22, 200, 201, 202, 203, 204, 205]; clear m107
     refine region_p 11 (B := [(6, _), (7, _), (9, _), (14, _), (21, _), (200, _), (201, _), (202, _), (203, _), (204, _), (205, _)]) (m108.to ⟨il, il, il, il, il, il, il, il, il, il, il, trivial⟩) m108 (by kernel_rfl) (fun w109 hP109 m109 => ?_); clear m108
     refine goR hP109 [0, 1, 2, 3, 4, 5, 6, 7] [1, 6] 8 0 255 Hz (m109.to ⟨il, il, il, il, il, il, il, il, il, il, il, trivial⟩) (.fa 4 rfl U29 <| .lb hh 14 U27 rfl rfl rfl <| .move rfl <| .move rfl <| .move rfl <| .p (fun _ _ h => y_idx h rfl rfl U32 fct10 (k) rfl (by rw [List.length_map]; omega)) <| .loadC0 hh (i := 204) rfl rfl U22 rfl <| .build rfl fct18 fl46sso rfl (by dsimp only [setL, List.set] <;> rfl) <| .nil) fun Az Hz => ?_
     refine so 8 ?_
     refine e_litR Hz m109 206 (mm := 2) rfl (.cons rfl rfl (.cons (.v _) (.cons (m109.rd (i := 205) rfl) .nil)) <| .nil) U27 fct17 rfl rfl rfl rfl rfl fun g118 Az w119 Hz m119 => ?_
     refine ⟨m119.to ⟨il, il, il, il, il, il, il, il, il, il, il, trivial⟩, ?_⟩
     have m121 := m119.freezeR 206 rfl; clear m119
     refine so 9 ?_
     refine e_appR Hz m121 22 rfl rfl rfl (m121.rd (i := 206) rfl) U27 fct17 rfl rfl (by decide) (by have := difI_len fl A S k; rw [List.length_map]; simp; omega) rfl fun p120 c120 Az w122 Hz m122 => ?_
     refine ⟨m122.to ⟨il, il, il, il, il, il, il, il, il, il, il, trivial⟩, ?_⟩
     refine goA hP109 [10] 1 1023 2047 Hz (m122.to ⟨il, il, il, il, il, il, il, il, il, il, il, trivial⟩) (.fa 4 rfl U29 <| .nil) fun Az Hz => ?_
     refine se 11 ?_
     refine e_store1 Hz m122 14 rfl rfl rfl rfl rfl fct29 (by dsimp only [List.set] <;> rfl) fun w124 m124 _ => ?_
     refine wpAnyE_done (by kernel_rfl) ?_ _
     refine hK10 _ _ ?_; clear hK10
     replace Hz : Has 87 [(1, _), (6, _), (7, _), (10, _), (12, _), (14, _), (15, _), (62, _), (74, _)] Az := Hz.only [1, 6, 7, 10, 12, 14, 15, 62, 74]
     refine wp_region_lit ?_
     refine goCh Hz (.move rfl <| .add rfl rfl (r := ((k + 1 : Nat) : Int)) (by rw [IntWalk.i64_in _ (by omega)]; omega) <| .assign rfl <| .nil) fun Az Hz => ?_
     refine wpList_nil ?_
     show ∃ n', n' < _ ∧ _
     have hE : ((difI fl A S k).map itD) ++ [[D.v (.int .i64 k), .ns .u8 (S.getD k [])]] = (difI fl A S (k + 1)).map itD := by rw [difI_yes hyes, List.map_append]; rfl
     rw [hE] at m124
     exact ⟨y.bl.toNat - (k + 1), by omega, k + 1, _, _, _, _, _, _, _, _, _, _, _, _, _, _, _, _, _, _, by omega, rfl, Hz.only [1, 6, 7, 10, 12, 14, 15], m124.ren [(6, 6), (7, 7), (9, 9), (21, 21), (14, 14), (22, 22)] (by decide)⟩
    intro hb92 Hz; try simp only [QQ, Qax] at hb92
    have hf0 : fl = false := by cases hq : fl with
      | false => rfl
      | true => have := hfl.1 hq; omega
    refine goR hP87 [4, 5, 6, 7, 8, 9, 10, 11, 12, 13, 14, 15] [7, 8, 12, 13] 12 15 65535 Hz (m87.to ⟨il, il, il, il, il, il, il, il, il, il, trivial⟩) (.move rfl <| .move rfl <| .p (fun _ _ h => y_idx h rfl rfl U32 fct10 (k) rfl (by rw [List.length_map]; omega)) <| .loadC0 hh (i := 200) rfl rfl U22 rfl <| .str rfl (fun _ h => (h.nums (i := 201) rfl)) U22 U5 U9 <| .move rfl <| .move rfl <| .p (fun _ _ h => y_idx h rfl rfl U32 fct10 (k) rfl (by rw [List.length_map]; omega)) <| .loadC0 hh (i := 202) rfl rfl U22 rfl <| .str rfl (fun _ h => (h.nums (i := 203) rfl)) U22 U5 U9 <| .neqS rfl rfl <| .pickF rfl rfl <| .nil) fun Az Hz => ?_
    refine wpAnyE_done (by kernel_rfl) ?_ _
    refine hK11 _ _ ?_; clear hK11
    refine bc Hz 74 ?_ ?_
    ·
     intro hb141 Hz; try simp only [QQ, Qax] at hb141
     have hyes : (fl || !decide (A.getD k [] = S.getD k [])) = true := by rw [hf0, Bool.false_or, ← seqn (hAb k) (hSb k)]; first | exact hb141 | simpa using hb141
     refine wct Hz ?_
     replace Hz : Has 87 [(1, _), (6, _), (7, _), (10, _), (12, _), (14, _), (15, _), (62, _), (74, _)] Az := Hz.only [1, 6, 7, 10, 12, 14, 15, 62, 74]
     obtain ⟨b143, o143, vs143, hp143, hR143, ho143, m143⟩ := m87.openR (i := 21) rfl (k) (r := [.ns .u8 (S.getD k [])]) (bD_get (by omega)) 204 rfl
     revert Hz
     cases hp143; clear m87 ho143
     rcases hR143 with _ | ⟨hd143_0, _ | _⟩
     obtain ⟨p144, c144, hv144, hc144⟩ := hd143_0.ns_shape; subst hv144
     intro Hz
     have m144 := m143.dat 205 rfl (hd143_0.cast (fun _ h => (free_add rfl h))); clear m143 hd143_0
     have m145 : MemOk _ _ [(6, _), (7, _), (9, _), (14, _), (21, _), (22, _), (200, _), (201, _), (202, _), (203, _), (204, _), (205, _)] _ := m144.only [6, 7, 9, 14, 21, 22, 200, 201, 202, 203, 204, 205]; clear m144
     refine region_p 11 (B := [(6, _), (7, _), (9, _), (14, _), (21, _), (200, _), (201, _), (202, _), (203, _), (204, _), (205, _)]) (m145.to ⟨il, il, il, il, il, il, il, il, il, il, il, trivial⟩) m145 (by kernel_rfl) (fun w146 hP146 m146 => ?_); clear m145
     refine goR hP146 [0, 1, 2, 3, 4, 5, 6, 7] [1, 6] 8 0 255 Hz (m146.to ⟨il, il, il, il, il, il, il, il, il, il, il, trivial⟩) (.fa 4 rfl U29 <| .lb hh 14 U27 rfl rfl rfl <| .move rfl <| .move rfl <| .move rfl <| .p (fun _ _ h => y_idx h rfl rfl U32 fct10 (k) rfl (by rw [List.length_map]; omega)) <| .loadC0 hh (i := 204) rfl rfl U22 rfl <| .build rfl fct18 fl46sso rfl (by dsimp only [setL, List.set] <;> rfl) <| .nil) fun Az Hz => ?_
     refine so 8 ?_
     refine e_litR Hz m146 206 (mm := 2) rfl (.cons rfl rfl (.cons (.v _) (.cons (m146.rd (i := 205) rfl) .nil)) <| .nil) U27 fct17 rfl rfl rfl rfl rfl fun g155 Az w156 Hz m156 => ?_
     refine ⟨m156.to ⟨il, il, il, il, il, il, il, il, il, il, il, trivial⟩, ?_⟩
     have m158 := m156.freezeR 206 rfl; clear m156
     refine so 9 ?_
     refine e_appR Hz m158 22 rfl rfl rfl (m158.rd (i := 206) rfl) U27 fct17 rfl rfl (by decide) (by have := difI_len fl A S k; rw [List.length_map]; simp; omega) rfl fun p157 c157 Az w159 Hz m159 => ?_
     refine ⟨m159.to ⟨il, il, il, il, il, il, il, il, il, il, il, trivial⟩, ?_⟩
     refine goA hP146 [10] 1 1023 2047 Hz (m159.to ⟨il, il, il, il, il, il, il, il, il, il, il, trivial⟩) (.fa 4 rfl U29 <| .nil) fun Az Hz => ?_
     refine se 11 ?_
     refine e_store1 Hz m159 14 rfl rfl rfl rfl rfl fct29 (by dsimp only [List.set] <;> rfl) fun w161 m161 _ => ?_
     refine wpAnyE_done (by kernel_rfl) ?_ _
     refine hK10 _ _ ?_; clear hK10
     replace Hz : Has 87 [(1, _), (6, _), (7, _), (10, _), (12, _), (14, _), (15, _), (62, _), (74, _)] Az := Hz.only [1, 6, 7, 10, 12, 14, 15, 62, 74]
     refine wp_region_lit ?_
     refine goCh Hz (.move rfl <| .add rfl rfl (r := ((k + 1 : Nat) : Int)) (by rw [IntWalk.i64_in _ (by omega)]; omega) <| .assign rfl <| .nil) fun Az Hz => ?_
     refine wpList_nil ?_
     show ∃ n', n' < _ ∧ _
     have hE : ((difI fl A S k).map itD) ++ [[D.v (.int .i64 k), .ns .u8 (S.getD k [])]] = (difI fl A S (k + 1)).map itD := by rw [difI_yes hyes, List.map_append]; rfl
     rw [hE] at m161
     exact ⟨y.bl.toNat - (k + 1), by omega, k + 1, _, _, _, _, _, _, _, _, _, _, _, _, _, _, _, _, _, _, by omega, rfl, Hz.only [1, 6, 7, 10, 12, 14, 15], m161.ren [(6, 6), (7, 7), (9, 9), (21, 21), (14, 14), (22, 22)] (by decide)⟩
    intro hb141 Hz; try simp only [QQ, Qax] at hb141
    have hyes : (fl || !decide (A.getD k [] = S.getD k [])) = false := by rw [hf0, Bool.false_or, ← seqn (hAb k) (hSb k)]; first | exact hb141 | simpa using hb141
    refine wcf Hz ?_
    refine zss (hK10 _ _ ?_); clear hK10
    replace Hz : Has 87 [(1, _), (6, _), (7, _), (10, _), (12, _), (14, _), (15, _), (62, _), (74, _)] Az := Hz.only [1, 6, 7, 10, 12, 14, 15, 62, 74]
    refine wp_region_lit ?_
    refine goCh Hz (.move rfl <| .add rfl rfl (r := ((k + 1 : Nat) : Int)) (by rw [IntWalk.i64_in _ (by omega)]; omega) <| .assign rfl <| .nil) fun Az Hz => ?_
    refine wpList_nil ?_
    show ∃ n', n' < _ ∧ _
    have hE := difI_no hyes
    rw [← hE] at m87
    exact ⟨y.bl.toNat - (k + 1), by omega, k + 1, _, _, _, _, _, _, _, _, _, _, _, _, _, _, _, _, _, _, by omega, rfl, Hz.only [1, 6, 7, 10, 12, 14, 15], m87.ren [(6, 6), (7, 7), (9, 9), (21, 21), (14, 14), (22, 22)] (by decide)⟩
   intro hb81 Hz; try simp only [QQ, Qax] at hb81
   have hke : k = y.bl.toNat := by have := hb81; first | omega | (simp at this; omega)
   revert Hz
   subst hke
   intro Hz
   refine wcf Hz ?_
   refine wp_exit ?_
   refine hK8 _ _ ?_; clear hK8
   refine zsr fun K12 hK12 => ?_
   refine goCh Hz (.loadBR m76 (i := 14) rfl rfl U29 rfl fct11 (by simp) (by dsimp only [List.drop, List.take] <;> rfl) .nil) fun Az Hz => ?_
   refine plz (e_storeW Hz m76 6 rfl rfl rfl rfl rfl fct11 fun w172 m172 _ => ?_)
   refine znl (hK12 _ _ ?_); clear hK12
   refine rtd (retC (fn := Tryd.f8) Hz m172 (i := 6) rfl rfl rfl U29 rfl fct11 ?_)
   have m173 := m172.freezeR 22 rfl; clear m172
   have hSz : ∀ k, k < y.bl.toNat → ((S.getD k []).length : Int) = y.sz := fun k hk => by have h9 := stL_sz hV T k (by rw [hS9, hSl]; exact hk); rwa [hS9] at h9
   exact ⟨y.bl, y.sz, (if fl = true then -1 else (F : Int)), T, _, _, _, rfl, difI_ok ⟨n3, n4⟩ ⟨n5, n6⟩ ⟨by omega, by omega⟩ (by omega) hSz, difI_bytes hSb _, m173.outF (i := 22) rfl, m173.below⟩
 replace Hz : Has 87 [(1, _), (6, _), (7, _), (29, _), (10, _), (12, _), (14, _)] Az := Hz.only [1, 6, 7, 29, 10, 12, 14]
 refine regS Hz (.move rfl <| .rem rfl rfl (by decide) (r := (fv : Int) % 3) (Int.tmod_eq_emod_of_nonneg (by omega)) <| .eql rfl rfl <| .nil) fun Az Hz => ?_
 refine bc Hz 51 ?_ ?_
 ·
  intro hb178 Hz; try simp only [QQ, Qax] at hb178
  refine wct Hz ?_
  refine wp_region_lit ?_
  refine goCh Hz (.fieldAddr (off := 2) rfl U29 rfl (s := 0) (by kernel_rfl) rfl .nil) fun Az Hz => ?_
  refine plz (e_store1 Hz m73 77 rfl rfl rfl rfl rfl fct3 (by dsimp only [List.set] <;> rfl) fun w180 m180 _ => ?_)
  refine wpList_nil ?_
  show K7 _ _
  exact hC7 _ _ ⟨true, _, _, _, _, _, _, _, _, _, _, _, _, _, _, _, _, by simp; omega, Hz.only [1, 6, 7, 10, 12, 14], m180.ren [(6, 70), (7, 74), (9, 75), (21, 76), (14, 77)] (by decide)⟩
 intro hb178 Hz; try simp only [QQ, Qax] at hb178
 refine wcf Hz ?_
 refine wp_skip ?_
 show K7 _ _
 exact hC7 _ _ ⟨false, _, _, _, _, _, _, _, _, _, _, _, _, _, _, _, _, by simp; omega, Hz.only [1, 6, 7, 10, 12, 14], m73.ren [(6, 70), (7, 74), (9, 75), (21, 76), (14, 77)] (by decide)⟩
end Go.Proofs.YtodiklpfdfjikaaDoor.K
