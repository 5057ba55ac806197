/- volume: the reference's Count, Push, State; SamePush; Push that is refused. -/
import Derived.Test.YtflcgpajodfkoaaDoorVolSm
namespace Go.Proofs.YtflcgpajodfkoaaDoor.K
open Go.ChangeShapes Go.WideShapes Go.ChangeAt Go.RowKit
set_option linter.unusedVariables false
set_option linter.unusedSimpArgs false
set_option maxRecDepth 100000
set_option maxHeartbeats 4000000
theorem rstate_any (X : Cx) (vo bl sz pe to ne fl : Int) (hi : Bool) (pp pn pw : Option Addr) (np cp nn9 cn9 cw : Nat) (ws : List PWr) (t n z : Nat) (w0 : World) (hX : ∀ b, b ∉ X.bad) (hl : ws.length ≤ 1000000) (hok : WrsOk ws) (hib : ∀ e ∈ ws, ∀ x ∈ e.2, 0 ≤ x.1 ∧ x.1 < (n : Int)) (hn : n ≤ 256) (hz : z ≤ 32) (ht0 : fl ≤ t) (ht1 : t ≤ ws.length) (m0 : MemOk X w0 [(3, .dat (.slice pw (ws.map wrD).length cw) (.l 2 (ws.map wrD)))] w0) :
   Calls Tryd.prog 12 #[.agg #[.int .i64 vo, .int .i64 (n : Int), .int .i64 (z : Int), .int .i64 pe, .slice pp np cp, .int .i64 to, .int .i64 ne, .bool hi, .int .i64 fl, .slice pn nn9 cn9, .slice pw (ws.map wrD).length cw], .int .i64 (t : Int)] w0 fun e w' => ∃ p c, e = .returned (.tuple #[.slice p (((ws.take t).foldl stW (List.replicate n (List.replicate z 0))).map bD).length c, .int .i64 0]) ∧ MemOk X w0 [(3, .dat (.slice pw (ws.map wrD).length cw) (.l 2 (ws.map wrD))), (9, .dat (.slice p (((ws.take t).foldl stW (List.replicate n (List.replicate z 0))).map bD).length c) (.l 1 (((ws.take t).foldl stW (List.replicate n (List.replicate z 0))).map bD)))] w' := by
 refine ent2 Tryd.func12 rfl Tryd.ntmps12 fun Az Hz => ?_
 refine zsr fun K0 hK0 => ?_
 refine wpList_plain rfl (fun K hK => ?_)
 refine e_box Hz m0 70 (cs := [_, _, _, _, _, _, _, _, _, _, _]) rfl rfl rfl ?_
 clear Hz Az m0; intro g1 Az w2 Hz m2 hB2 hg2
 clear hB2 hg2
 refine hK _ _ ?_; clear hK
 refine goCh Hz (.assign rfl <| .assign rfl <| .nil) ?_
 clear Hz Az; intro Az Hz
 refine znl (hK0 _ _ ?_); clear hK0
 refine wp_seq_k (fun K1 hK1 => ?_)
 refine regS Hz (.move rfl <| .fa 8 rfl U30 <| .lb m2 70 U2 rfl rfl rfl <| .lss rfl rfl <| .nil) ?_
 clear Hz Az; intro Az Hz
 refine bool_cases Hz (t := 14) rfl ?_ ?_
 · intro hb _; exact absurd hb (by simp; omega)
 clear Hz; intro _ Hz
 refine wp_cond_false (Hz.ev (x := .tmp 14) rfl) ?_
 refine zss (hK1 _ _ ?_); clear hK1
 refine wp_seq_k (fun K2 hK2 => ?_)
 refine zsr fun K3 hK3 => ?_
 refine goCh Hz (.move rfl <| .loadBR m2 (i := 70) rfl rfl U30 rfl fct10 (by simp) (by dsimp only [List.drop, List.take] <;> rfl) <| .nil) ?_
 clear Hz Az; intro Az Hz
 refine wpList_plain rfl (fun K hK => ?_)
 refine e_call Hz Tryd.func22 rfl rfl rfl rfl (rlen_any _ _ _ _ _ _ _ _ _ _ _ _ _ _ _ _ _ _) ?_
 rintro e w14 ⟨rfl, hb14⟩
 rw [List.length_map]
 have m15 := m2.later hb14
 clear m2
 clear hb14
 refine ⟨_, rfl, ?_⟩; clear Hz Az; intro Az Hz
 refine hK _ _ ?_; clear hK
 refine goCh Hz (.gtr rfl rfl .nil) ?_
 clear Hz Az; intro Az Hz
 refine znl (hK3 _ _ ?_); clear hK3
 refine bool_cases Hz (t := 18) rfl ?_ ?_
 · intro hb _; exact absurd hb (by simp; omega)
 clear Hz; intro _ Hz
 refine wp_cond_false (Hz.ev (x := .tmp 18) rfl) ?_
 refine zss (hK2 _ _ ?_); clear hK2
 replace Hz : Has 63 [(1, _), (2, _), (4, _), (5, _)] Az := Hz.only [1, 2, 4, 5]
 refine regS Hz (.assign rfl <| .nil) ?_
 clear Hz Az; intro Az Hz
 refine wp_seq_k (fun K4 hK4 => ?_)
 refine regS Hz (.assign rfl <| .nil) ?_
 clear Hz Az; intro Az Hz
 refine wp_block ?_
 refine wp_loop_ghost (fun g a w => ∃ (k B2 : Nat) (p : Option Addr) (c : Nat), k ≤ n ∧ g = n - k ∧ Has 63 [(1, .int .i64 (t : Int)), (2, .pointer (some ⟨B2, 0, none⟩)), (6, .slice p ((List.replicate k (List.replicate z 0)).map bD).length c), (7, .int .i64 k)] a ∧ MemOk X w0 [(1, .box B2 30 [.int .i64 vo, .int .i64 (n : Int), .int .i64 (z : Int), .int .i64 pe, .slice pp np cp, .int .i64 to, .int .i64 ne, .bool hi, .int .i64 fl, .slice pn nn9 cn9, .slice pw (ws.map wrD).length cw]), (3, .dat (.slice pw (ws.map wrD).length cw) (.l 2 (ws.map wrD))), (9, .row (.slice p ((List.replicate k (List.replicate z 0)).map bD).length c) 22 1 ((List.replicate k (List.replicate z 0)).map bD))] w) (n) ?_ ?_
 · have mz := m15.nilR 9 22 1
   exact ⟨0, _, _, _, Nat.zero_le _, rfl, Hz.only [1, 2, 6, 7], mz.ren [(1, 70), (3, 3), (9, 9)] (by decide)⟩
 clear Hz m15
 rintro g Az w22 ⟨k, B2, p, c, hkl, hg, Hz, m22⟩
 refine wp_seq_k (fun K5 hK5 => ?_)
 refine regS Hz (.move rfl <| .fa 1 rfl U30 <| .lb m22 1 U3 rfl rfl rfl <| .lss rfl rfl <| .nil) ?_
 clear Hz Az; intro Az Hz
 refine bool_cases Hz (t := 22) rfl ?_ ?_
 ·
  clear Hz; intro hb27 Hz; try simp only [QQ, Qax] at hb27
  have hk9 : k < n := by omega
  refine wp_cond_true (Hz.ev (x := .tmp 22) rfl) ?_
  refine zss (hK5 _ _ ?_); clear hK5
  refine wp_seq_k (fun K6 hK6 => ?_)
  refine wp_block ?_
  refine wp_region_lit ?_
  refine goCh Hz (.move rfl <| .fa 2 rfl U30 <| .lb m22 1 U3 rfl rfl rfl <| .nil) ?_
  clear Hz Az; intro Az Hz
  refine wpList_plain rfl (fun K hK => ?_)
  refine e_makeN Hz m22 100 (z) rfl rfl rfl rfl U22 fct0 (by decide) (by omega) rfl ?_
  clear Hz Az m22; intro p31 c31 Az w32 Hz m32
  refine hK _ _ ?_; clear hK
  have m34 := m32.freezeN 100 rfl; clear m32
  refine wpList_plain rfl (fun K hK => ?_)
  refine e_litR Hz m34 101 (mm := 1) rfl (.cons rfl rfl (.cons (m34.rd (i := 100) rfl) .nil) <| .nil) U40 fct30 rfl rfl rfl rfl rfl ?_
  clear Hz Az m34; intro g33 Az w35 Hz m35
  refine hK _ _ ?_; clear hK
  have m37 := m35.freezeR 101 rfl; clear m35
  refine wpList_plain rfl (fun K hK => ?_)
  refine e_appR Hz m37 9 rfl rfl rfl (m37.rd (i := 101) rfl) U40 fct30 rfl rfl (by decide) (by simp; omega) rfl ?_
  clear Hz Az m37; intro p36 c36 Az w38 Hz m38
  refine hK _ _ ?_; clear hK
  refine goCh Hz (.assign rfl .nil) ?_
  clear Hz Az; intro Az Hz
  refine znl (hK6 _ _ ?_); clear hK6
  replace Hz : Has 63 [(1, _), (2, _), (6, _), (7, _)] Az := Hz.only [1, 2, 6, 7]
  refine wp_region_lit ?_
  refine goCh Hz (.move rfl <| .add rfl rfl (r := ((k + 1 : Nat) : Int)) (by rw [IntWalk.i64_in _ (by omega)]; omega) <| .assign rfl <| .nil) ?_
  clear Hz Az; intro Az Hz
  refine wpList_nil ?_
  show ∃ n', n' < _ ∧ _
  have hE : (List.replicate k (List.replicate z 0)).map bD ++ [[D.ns .u8 (List.replicate z 0)]] = (List.replicate (k + 1) (List.replicate z 0)).map bD := by rw [List.replicate_succ', List.map_append]; rfl
  rw [hE] at m38 Hz
  exact ⟨n - (k + 1), by omega, k + 1, _, _, _, by omega, rfl, Hz.only [1, 2, 6, 7], m38.ren [(1, 1), (3, 3), (9, 9)] (by decide)⟩
 clear Hz; intro hb27 Hz; try simp only [QQ, Qax] at hb27
 have hkn : k = n := by omega
 rw [hkn] at m22 Hz
 refine wp_cond_false (Hz.ev (x := .tmp 22) rfl) ?_
 refine wp_exit ?_
 refine hK4 _ _ ?_; clear hK4
 refine wp_seq_k (fun K7 hK7 => ?_)
 refine regS Hz (.assign rfl <| .nil) ?_
 clear Hz Az; intro Az Hz
 refine wp_block ?_
 have m45 := m22.rowS 9 rfl; clear m22
 refine wp_loop_ghost (fun g a w => ∃ (k B2 : Nat) (L : List (List Int)) (p : Option Addr) (c : Nat), k ≤ t ∧ g = t - k ∧ L = (ws.take k).foldl stW (List.replicate n (List.replicate z 0)) ∧ L.length = n ∧ Has 63 [(1, .int .i64 (t : Int)), (2, .pointer (some ⟨B2, 0, none⟩)), (6, .slice p (L.map bD).length c), (8, .int .i64 k)] a ∧ MemOk X w0 [(1, .box B2 30 [.int .i64 vo, .int .i64 (n : Int), .int .i64 (z : Int), .int .i64 pe, .slice pp np cp, .int .i64 to, .int .i64 ne, .bool hi, .int .i64 fl, .slice pn nn9 cn9, .slice pw (ws.map wrD).length cw]), (3, .dat (.slice pw (ws.map wrD).length cw) (.l 2 (ws.map wrD))), (9, .seg (.slice p (L.map bD).length c) 22 1 (L.map bD))] w) (t) ?_ ?_
 · exact ⟨0, _, _, _, _, Nat.zero_le _, rfl, rfl, List.length_replicate .., Hz.only [1, 2, 6, 8], m45.ren [(1, 1), (3, 3), (9, 9)] (by decide)⟩
 clear Hz m45
 rintro g Az w46 ⟨k, B2, L, p, c, hkl, hg, hL, hLn, Hz, m46⟩
 refine wp_seq_k (fun K8 hK8 => ?_)
 refine regS Hz (.move rfl <| .move rfl <| .lss rfl rfl <| .nil) ?_
 clear Hz Az; intro Az Hz
 refine bool_cases Hz (t := 33) rfl ?_ ?_
 ·
  clear Hz; intro hb50 Hz; try simp only [QQ, Qax] at hb50
  have hk : k < ws.length := by omega
  obtain ⟨⟨xs, xl⟩, hes⟩ : ∃ e, ws[k]? = some e := ⟨_, List.getElem?_eq_getElem hk⟩
  have hok2 := hok _ (List.mem_of_getElem? hes)
  dsimp only at hok2
  have hib2 := hib _ (List.mem_of_getElem? hes)
  dsimp only at hib2
  refine wp_cond_true (Hz.ev (x := .tmp 33) rfl) ?_
  refine zss (hK8 _ _ ?_); clear hK8
  refine wp_seq_k (fun K9 hK9 => ?_)
  refine wp_block ?_
  refine zsr fun K10 hK10 => ?_
  refine goCh Hz (.fa 10 rfl U30 <| .lb m46 1 U28 rfl rfl rfl <| .move rfl <| .nil) ?_
  clear Hz Az; intro Az Hz
  obtain ⟨b58, o58, vs58, hp58, hR58, ho58, m58⟩ := m46.openR (i := 3) rfl (k) (r := [.v (.int .i64 xs), .l 2 (xl.map itD)]) (wrD_get hes) 200 rfl
  cases hp58; clear m46 ho58
  rcases hR58 with _ | ⟨hd58_0, _ | ⟨hd58_1, _ | _⟩⟩
  obtain rfl := hd58_0.v_out
  clear hd58_0
  obtain ⟨p59, c59, hv59, hc59⟩ := hd58_1.l_shape; subst hv59
  have m59 := m58.dat 201 rfl (hd58_1.cast (fun _ h => (free_add rfl h))); clear m58 hd58_1
  refine goCh Hz (.c rfl (fun _ h => y_idx h rfl rfl U28 fct34 (k) rfl (by rw [List.length_map]; omega)) <| .loadCR m59 (i := 200) rfl rfl U64 rfl fct34 <| .nil) ?_
  clear Hz Az; intro Az Hz
  refine wpList_plain rfl (fun K hK => ?_)
  refine e_alloc Hz m59 202 fct26 rfl ?_
  clear Hz Az m59; intro g62 Az w63 Hz m63 hB63 hg63
  clear hB63 hg63
  refine hK _ _ ?_; clear hK
  refine wpList_plain rfl (fun K hK => ?_)
  refine e_storeW Hz m63 202 rfl rfl rfl rfl rfl fct34 ?_
  clear m63; intro w64 m64 hB64
  clear hB64
  refine hK _ _ ?_; clear hK
  refine znl (hK10 _ _ ?_); clear hK10
  replace Hz : Has 63 [(1, _), (2, _), (6, _), (8, _), (9, _)] Az := Hz.only [1, 2, 6, 8, 9]
  refine regS Hz (.assign rfl <| .nil) ?_
  clear Hz Az; intro Az Hz
  refine wp_block ?_
  refine wp_loop_ghost (fun g a w => ∃ (j B2 B9 : Nat) (L2 : List (List Int)) (p px : Option Addr) (c cx9 : Nat), j ≤ xl.length ∧ g = xl.length - j ∧ L2 = (xl.take j).foldl stStep L ∧ L2.length = n ∧ Has 63 [(1, .int .i64 (t : Int)), (2, .pointer (some ⟨B2, 0, none⟩)), (6, .slice p (L2.map bD).length c), (8, .int .i64 k), (9, .pointer (some ⟨B9, 0, none⟩)), (10, .int .i64 j)] a ∧ MemOk X w0 [(1, .box B2 30 [.int .i64 vo, .int .i64 (n : Int), .int .i64 (z : Int), .int .i64 pe, .slice pp np cp, .int .i64 to, .int .i64 ne, .bool hi, .int .i64 fl, .slice pn nn9 cn9, .slice (some ⟨b58, o58, none⟩) (ws.map wrD).length cw]), (3, .dat (.slice (some ⟨b58, o58, none⟩) (ws.map wrD).length cw) (.l 2 (ws.map wrD))), (9, .seg (.slice p (L2.map bD).length c) 22 1 (L2.map bD)), (12, .box B9 64 [.int .i64 xs, .slice px (xl.map itD).length cx9]), (13, .dat (.slice px (xl.map itD).length cx9) (.l 2 (xl.map itD)))] w) (xl.length) ?_ ?_
  · exact ⟨0, _, _, L, _, _, _, _, Nat.zero_le _, rfl, rfl, hLn, Hz.only [1, 2, 6, 8, 9, 10], m64.ren [(1, 1), (3, 3), (9, 9), (12, 202), (13, 201)] (by decide)⟩
  clear Hz m64
  rintro g Az w67 ⟨j, B2, B9, L2, p, px, c, cx9, hjl, hg2, hL2, hL2n, Hz, m67⟩
  refine wp_seq_k (fun K11 hK11 => ?_)
  refine regS Hz (.move rfl <| .fa 1 rfl U64 <| .lb m67 12 U33 rfl rfl rfl <| .len rfl U33 <| .lss rfl rfl <| .nil) ?_
  clear Hz Az; intro Az Hz
  refine bool_cases Hz (t := 45) rfl ?_ ?_
  ·
   clear Hz; intro hb73 Hz; try simp only [QQ, Qax] at hb73
   rw [List.length_map] at hb73
   have hj : j < xl.length := by omega
   obtain ⟨⟨xb, xd⟩, hxs⟩ : ∃ e, xl[j]? = some e := ⟨_, List.getElem?_eq_getElem hj⟩
   have hxb := hib2 _ (List.mem_of_getElem? hxs)
   dsimp only at hxb
   refine wp_cond_true (Hz.ev (x := .tmp 45) rfl) ?_
   refine zss (hK11 _ _ ?_); clear hK11
   refine wp_seq_k (fun K12 hK12 => ?_)
   refine wp_block ?_
   obtain ⟨b74, o74, vs74, hp74, hR74, ho74, m74⟩ := m67.openR (i := 13) rfl (j) (r := [.v (.int .i64 xb), .ns .u8 xd]) (itD_get hxs) 300 rfl
   cases hp74; clear m67 ho74
   rcases hR74 with _ | ⟨hd74_0, _ | ⟨hd74_1, _ | _⟩⟩
   obtain rfl := hd74_0.v_out
   clear hd74_0
   obtain ⟨p75, c75, hv75, hc75⟩ := hd74_1.ns_shape; subst hv75
   have m75 := m74.dat 301 rfl (hd74_1.cast (fun _ h => (free_add rfl h))); clear m74 hd74_1
   obtain ⟨b76, o76, vs76, hp76, hR76, ho76, m76⟩ := m75.openR (i := 13) rfl (j) (r := [.v (.int .i64 xb), .ns .u8 xd]) (itD_get hxs) 302 rfl
   cases hp76; clear m75 ho76
   rcases hR76 with _ | ⟨hd76_0, _ | ⟨hd76_1, _ | _⟩⟩
   obtain rfl := hd76_0.v_out
   clear hd76_0
   obtain ⟨p77, c77, hv77, hc77⟩ := hd76_1.ns_shape; subst hv77
   have m77 := m76.dat 303 rfl (hd76_1.cast (fun _ h => (free_add rfl h))); clear m76 hd76_1
   obtain ⟨gs78, os78, vs78, hp78, hl78, hR78, hrg78⟩ := m77.openS (i := 9) rfl (xb.toNat) (r := [.ns .u8 (L2.getD xb.toNat [])]) (bD_get (by omega))
   cases hp78; clear hl78 hR78 hrg78 vs78
   have m79 : MemOk _ _ [(1, _), (3, _), (9, _), (12, _), (13, _), (300, _), (301, _), (302, _), (303, _)] _ := m77.only [1, 3, 9, 12, 13, 300, 301, 302, 303]; clear m77
   refine region_p 14 (B := [(1, _), (3, _), (9, _), (12, _), (13, _), (300, _), (301, _), (302, _), (303, _)]) (m79.to ⟨il, il, il, il, il, il, il, il, il, trivial⟩) m79 (by kernel_rfl) (fun w80 hP80 m80 => ?_); clear m79
   refine goR hP80 [0, 1, 2, 3, 4, 5, 6, 7, 8, 9, 10, 11, 12, 13] [2, 6, 8, 12] 14 0 16383 Hz (m80.to ⟨il, il, il, il, il, il, il, il, il, trivial⟩) (.move rfl <| .fa 1 rfl U64 <| .lb hh 12 U33 rfl rfl rfl <| .move rfl <| .p (fun _ _ h => y_idx h rfl rfl U33 fct2 (j) rfl (by simpa using hj)) <| .fieldAddrQ 0 rfl U58 rfl (s := 0) (by kernel_rfl) rfl <| .loadC0 hh (i := 300) rfl rfl U3 rfl <| .fa 1 rfl U64 <| .lb hh 12 U33 rfl rfl rfl <| .move rfl <| .p (fun _ _ h => y_idx h rfl rfl U33 fct2 (j) rfl (by simpa using hj)) <| .fieldAddrQ 1 rfl U58 rfl (s := 0) (by kernel_rfl) rfl <| .loadC1 hh (i := 302) (q := 1) rfl rfl rfl U22 rfl <| .p (fun _ _ h => y_idx h rfl rfl U40 fct1 (xb.toNat) (Int.toNat_of_nonneg (by omega)).symm (by rw [List.length_map]; omega)) <| .nil) ?_
   clear Hz Az; intro Az Hz
   refine stepE_end 14 rfl (by kernel_rfl) rfl (by rfl) (fun K hK => ?_)
   refine e_storeSD Hz m80 9 rfl (xb.toNat) (r := [.ns .u8 (L2.getD xb.toNat [])]) (bD_get (by omega)) (q := 0) rfl rfl rfl rfl rfl fct1 (m80.rd (i := 303) rfl) ?_
   clear m80; intro w95 m95
   refine hK _ _ ?_; clear hK
   have hset : (L2.map bD).set xb.toNat ([D.ns .u8 (L2.getD xb.toNat [])].set 0 (D.ns .u8 xd)) = (L2.set xb.toNat xd).map bD := by rw [List.map_set]; rfl
   rw [hset] at m95
   rw [show (List.map bD L2).length = (List.map bD (L2.set xb.toNat xd)).length from by simp] at Hz m95
   refine wpAnyE_done (by kernel_rfl) ?_ _
   refine hK12 _ _ ?_; clear hK12
   replace Hz : Has 63 [(1, _), (2, _), (6, _), (8, _), (9, _), (10, _)] Az := Hz.only [1, 2, 6, 8, 9, 10]
   refine wp_region_lit ?_
   refine goCh Hz (.move rfl <| .add rfl rfl (r := ((j + 1 : Nat) : Int)) (by rw [IntWalk.i64_in _ (by omega)]; omega) <| .assign rfl <| .nil) ?_
   clear Hz Az; intro Az Hz
   refine wpList_nil ?_
   show ∃ n', n' < _ ∧ _
   exact ⟨xl.length - (j + 1), by omega, j + 1, _, _, L2.set xb.toNat xd, _, _, _, _, by omega, rfl, stx_yes hxs hL2 (by omega), by rw [List.length_set]; exact hL2n, Hz.only [1, 2, 6, 8, 9, 10], m95.ren [(1, 1), (3, 3), (9, 9), (12, 12), (13, 13)] (by decide)⟩
  clear Hz; intro hb73 Hz; try simp only [QQ, Qax] at hb73
  rw [List.length_map] at hb73
  obtain rfl : j = xl.length := by omega
  rw [List.take_length] at hL2
  refine wp_cond_false (Hz.ev (x := .tmp 45) rfl) ?_
  refine wp_exit ?_
  refine hK9 _ _ ?_; clear hK9
  refine wp_region_lit ?_
  refine goCh Hz (.move rfl <| .add rfl rfl (r := ((k + 1 : Nat) : Int)) (by rw [IntWalk.i64_in _ (by omega)]; omega) <| .assign rfl <| .nil) ?_
  clear Hz Az; intro Az Hz
  refine wpList_nil ?_
  show ∃ n', n' < _ ∧ _
  exact ⟨t - (k + 1), by omega, k + 1, _, L2, _, _, by omega, rfl, st_snoc hes hL hL2, hL2n, Hz.only [1, 2, 6, 8], m67.ren [(1, 1), (3, 3), (9, 9)] (by decide)⟩
 clear Hz; intro hb50 Hz; try simp only [QQ, Qax] at hb50
 obtain rfl : k = t := by omega
 refine wp_cond_false (Hz.ev (x := .tmp 33) rfl) ?_
 refine wp_exit ?_
 refine hK7 _ _ ?_; clear hK7
 refine regS Hz (.move rfl <| .assign rfl <| .assign rfl <| .nil) ?_
 clear Hz Az; intro Az Hz
 refine wp_ret ?_
 try dsimp only [Exit.then, Exit.inBlock]
 refine (ret2 (fn := Tryd.f12) Hz rfl rfl rfl ?_)
 have mf106 := m46.freezeS 9 rfl hX
 exact ⟨_, _, by rw [← hL], by rw [← hL]; exact mf106.ren [(3, 3), (9, 9)] (by decide)⟩
end Go.Proofs.YtflcgpajodfkoaaDoor.K
