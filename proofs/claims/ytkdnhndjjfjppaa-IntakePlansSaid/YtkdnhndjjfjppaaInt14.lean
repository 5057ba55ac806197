/- IntakePlans' walk. -/
import Derived.Test.YtkdnhndjjfjppaaInt14m
import Derived.Test.YtkdnhndjjfjppaaInt4
namespace Go.Proofs.Ytkdnhndjjfjppaa.K
open Go.ChangeShapes Go.WideShapes Go.ChangeAt Go.RowKit
set_option linter.unusedVariables false
set_option linter.unusedSimpArgs false
structure SV9 where
 bl : Int
 sz : Int
 fr : Int
 to : Int
 its : List (Int × List Int)
def svD (s : SV9) : List D := [.v (.int .i64 s.bl), .v (.int .i64 s.sz), .v (.int .i64 s.fr), .v (.int .i64 s.to), .l 2 (s.its.map itD)]
theorem svD_get {A : List SV9} {k : Nat} {s : SV9} (h : A[k]? = some s) : (A.map svD)[k]? = some [.v (.int .i64 s.bl), .v (.int .i64 s.sz), .v (.int .i64 s.fr), .v (.int .i64 s.to), .l 2 (s.its.map itD)] := by simp [h, svD]
def plX (kx : Int) (n : Nat) : List Int := (List.range n).map (fun i : Nat => 1 + ((i : Int) + kx).tmod 3)
theorem plX_len (kx : Int) (n : Nat) : (plX kx n).length = n := by simp [plX]
theorem plX_snoc (kx : Int) (n : Nat) : plX kx (n + 1) = plX kx n ++ [1 + ((n : Int) + kx).tmod 3] := by simp [plX, List.range_succ]
theorem nc_nat {bl pe : Int} (h1 : 0 ≤ bl ∧ bl ≤ 256) (h2 : 1 ≤ pe ∧ pe ≤ 1000) : (bl + pe - 1) / pe = ((((bl + pe - 1) / pe).toNat : Nat) : Int) ∧ ((bl + pe - 1) / pe).toNat ≤ 256 := by
 have q0 : 0 ≤ (bl + pe - 1) / pe := Int.ediv_nonneg (by omega) (by omega)
 have q1 : (bl + pe - 1) / pe < bl + 1 := Int.ediv_lt_of_lt_mul (by omega) (by
   have e : (bl + 1) * pe = bl * pe + pe := by rw [Int.add_mul]; omega
   have : bl * 1 ≤ bl * pe := Int.mul_le_mul_of_nonneg_left (by omega) (by omega)
   omega)
 exact ⟨by omega, by omega⟩
theorem nc_bd {bl pe : Int} (h1 : 0 ≤ bl ∧ bl ≤ 256) (h2 : 1 ≤ pe ∧ pe ≤ 1000) : ((bl + pe - 1) / pe).toNat ≤ 1000000 := Nat.le_trans (nc_nat h1 h2).2 (by decide)
theorem plX_ok {bl pe kx : Int} (h1 : 0 ≤ bl ∧ bl ≤ 256) (h2 : 1 ≤ pe ∧ pe ≤ 1000) (hk : 0 ≤ kx ∧ kx ≤ 255) : PlaceOk bl pe (plX kx ((bl + pe - 1) / pe).toNat) := by
 refine ⟨fun g hg => ?_, by rw [plX_len]; exact (nc_nat h1 h2).1.symm⟩
 obtain ⟨i, _, rfl⟩ := List.mem_map.1 hg
 rw [Int.tmod_eq_emod_of_nonneg (by omega)]
 omega
theorem planQ_zero {bl sz to : Int} {its : List (Int × List Int)} {vo p9 n9 kx : Int} (hs : StreamOk bl sz (-1) to its) (hv : 0 ≤ vo ∧ vo ≤ 7) (hk : 0 ≤ kx ∧ kx ≤ 255) (hp : 1 ≤ p9 ∧ p9 ≤ bl) (hn : 1 ≤ n9 ∧ n9 ≤ 8) : (planQ bl sz (-1) to its vo p9 n9 (plX kx ((bl + p9 - 1) / p9).toNat)).2 = 0 := by
 have hb := hs.b
 have hz := hs.z
 have hT := plan_T (n := n9.toNat) (by omega) hb (planQ_T (by omega) hn.1)
 unfold planQ
 rw [if_pos ⟨hs, hn⟩, if_pos ⟨by omega, by omega, by omega, by omega, by omega, by omega, by omega, by omega, plX_ok ⟨by omega, by omega⟩ ⟨by omega, by omega⟩ hk, by omega, by omega⟩, if_pos rfl]
theorem and255 (a : Int) : ∃ r : Int, IntKind.i64.wrap ((BitVec.ofInt IntKind.i64.bits a &&& BitVec.ofInt IntKind.i64.bits 255).toNat : Int) = r ∧ 0 ≤ r ∧ r ≤ 255 := by
 have h : (BitVec.ofInt IntKind.i64.bits a &&& BitVec.ofInt IntKind.i64.bits 255).toNat ≤ 255 := by
   rw [BitVec.toNat_and]
   exact Nat.and_le_right
 exact ⟨_, IntWalk.i64_in _ (by omega), by omega, by omega⟩
theorem two_pl {a b : List Int} (ha : a.length ≤ 1000000) (hb : b.length ≤ 1000000) {d : Nat} (hd : d < 2) : ∃ pv, [[D.ns .i64 a], [.ns .i64 b]][d]? = some [.ns .i64 pv] ∧ pv.length ≤ 1000000 := by
 match d, hd with
 | 0, _ => exact ⟨a, rfl, ha⟩
 | 1, _ => exact ⟨b, rfl, hb⟩
set_option maxRecDepth 100000
set_option maxHeartbeats 4000000
theorem placeX (bl pe kx : Int) (w0 : World) (h1 : 0 ≤ bl ∧ bl ≤ 256) (h3 : 1 ≤ pe ∧ pe ≤ 1000) (hk : 0 ≤ kx ∧ kx ≤ 255) :
   Calls Try.prog 10 #[.int .i64 bl, .int .i64 pe, .int .u8 kx] w0 fun e w' => ∃ (p : Option Addr) (c : Nat), e = .returned (.slice p (plX kx ((bl + pe - 1) / pe).toNat).length c) ∧ Rd (New w0) w' (.slice p (plX kx ((bl + pe - 1) / pe).toNat).length c) (.ns .i64 (plX kx ((bl + pe - 1) / pe).toNat)) ∧ Below w0.heap.size w0 w' := by
 obtain ⟨hcn, hnc⟩ := nc_nat h1 h3
 generalize ((bl + pe - 1) / pe).toNat = nc at *
 refine ent3 Try.func10 rfl Try.ntmps10 fun Az Hz => ?_
 have m0 := MemOk.start (fun _ => False) w0
 refine regS Hz (.assign rfl <| .nil) ?_
 clear Hz Az; intro Az Hz
 refine regS Hz (.assign rfl <| .nil) ?_
 clear Hz Az; intro Az Hz
 refine wp_seq_k (fun K0 hK0 => ?_)
 refine regS Hz (.assign rfl <| .nil) ?_
 clear Hz Az; intro Az Hz
 refine wp_block ?_
 refine wp_loop_ghost (fun g a w => ∃ (k : Nat) (p : Option Addr) (c : Nat), k ≤ nc ∧ g = nc - k ∧ Has 27 [(0, .int .i64 bl), (1, .int .i64 pe), (2, .int .u8 kx), (7, .slice p (plX kx k).length c), (8, .int .i64 k)] a ∧ MemOk (cn w0) w0 [(9, .num (.slice p (plX kx k).length c) 3 .i64 (plX kx k))] w) (nc) ?_ ?_
 · have mz := m0.nilN 9 3 .i64
   exact ⟨0, _, _, Nat.zero_le _, rfl, Hz.only [0, 1, 2, 7, 8], mz.only [9]⟩
 clear Hz m0
 rintro g Az w4 ⟨k, p, c, hkl, hg, Hz, m4⟩
 refine wp_seq_k (fun K1 hK1 => ?_)
 refine zsr fun K2 hK2 => ?_
 refine goCh Hz (.move rfl <| .move rfl <| .move rfl <| .c rfl (fun _ h => y_max h rfl rfl (r := pe) (by omega)) <| .nil) ?_
 clear Hz Az; intro Az Hz
 refine wpList_plain rfl (fun K hK => ?_)
 refine e_call Hz Try.func29 rfl rfl rfl rfl (chunks_any bl pe _ (by omega) (by omega)) ?_
 rintro e w13 ⟨rfl, hb13⟩
 have m14 := m4.later hb13
 clear m4
 clear hb13
 rw [hcn]
 refine ⟨_, rfl, ?_⟩; clear Hz Az; intro Az Hz
 refine hK _ _ ?_; clear hK
 refine goCh Hz (.lss rfl rfl .nil) ?_
 clear Hz Az; intro Az Hz
 refine znl (hK2 _ _ ?_); clear hK2
 refine bool_cases Hz (t := 14) rfl ?_ ?_
 ·
  clear Hz; intro hb17 Hz; try simp only [QQ, Qax] at hb17
  have hk : k < nc := by have := hb17; first | omega | (simp at this; omega)
  obtain ⟨rr, hrr, hr0, hr2⟩ : ∃ x, ((k : Int) + kx).tmod 3 = x ∧ 0 ≤ x ∧ x ≤ 2 := ⟨_, rfl, by rw [Int.tmod_eq_emod_of_nonneg (by omega)]; omega, by rw [Int.tmod_eq_emod_of_nonneg (by omega)]; omega⟩
  refine wp_cond_true (Hz.ev (x := .tmp 14) rfl) ?_
  refine zss (hK1 _ _ ?_); clear hK1
  refine wp_seq_k (fun K3 hK3 => ?_)
  refine wp_block ?_
  replace Hz : Has 27 [(0, _), (1, _), (2, _), (7, _), (8, _)] Az := Hz.only [0, 1, 2, 7, 8]
  refine wp_region_lit ?_
  refine goCh Hz (.move rfl <| .move rfl <| .move rfl <| .conv rfl U5 U3 (IntWalk.i64_in _ (by omega)) <| .add rfl rfl (r := (k : Int) + kx) (IntWalk.i64_in _ (by omega)) <| .rem rfl rfl (by decide) (r := rr) hrr <| .add rfl rfl (r := 1 + rr) (IntWalk.i64_in _ (by omega)) <| .nil) ?_
  clear Hz Az; intro Az Hz
  refine wpList_plain rfl (fun K hK => ?_)
  refine e_litN Hz m14 100 (k := .i64) rfl rfl U26 fct3 rfl rfl rfl rfl ?_
  clear Hz Az m14; intro g26 Az w27 Hz m27
  refine hK _ _ ?_; clear hK
  refine wpList_plain rfl (fun K hK => ?_)
  refine e_appN Hz m27 9 rfl rfl rfl (m27.numsO (i := 100) rfl) U26 fct3 (by decide) (by rw [plX_len]; simp; omega) rfl ?_
  clear Hz Az m27; intro p28 c28 Az w29 Hz m29
  refine hK _ _ ?_; clear hK
  refine goCh Hz (.assign rfl .nil) ?_
  clear Hz Az; intro Az Hz
  refine znl (hK3 _ _ ?_); clear hK3
  replace Hz : Has 27 [(0, _), (1, _), (2, _), (7, _), (8, _)] Az := Hz.only [0, 1, 2, 7, 8]
  refine wp_region_lit ?_
  refine goCh Hz (.move rfl <| .add rfl rfl (r := ((k + 1 : Nat) : Int)) (by rw [IntWalk.i64_in _ (by omega)]; omega) <| .assign rfl <| .nil) ?_
  clear Hz Az; intro Az Hz
  refine wpList_nil ?_
  show ∃ n', n' < _ ∧ _
  have hE : plX kx k ++ [1 + rr] = plX kx (k + 1) := by rw [plX_snoc, hrr]
  rw [hE] at m29 Hz
  exact ⟨nc - (k + 1), by omega, k + 1, _, _, by omega, rfl, Hz.only [0, 1, 2, 7, 8], m29.only [9]⟩
 clear Hz; intro hb17 Hz; try simp only [QQ, Qax] at hb17
 have hke : k = nc := by have := hb17; first | omega | (simp at this; omega)
 refine wp_cond_false (Hz.ev (x := .tmp 14) rfl) ?_
 refine wp_exit ?_
 refine hK0 _ _ ?_; clear hK0
 replace Hz : Has 27 [(0, _), (1, _), (2, _), (7, _), (8, _)] Az := Hz.only [0, 1, 2, 7, 8]
 refine regS Hz (.move rfl <| .assign rfl <| .nil) ?_
 clear Hz Az; intro Az Hz
 refine wp_ret ?_
 try dsimp only [Exit.then, Exit.inBlock]
 refine (ret1 (fn := Try.f10) Hz rfl rfl ?_)
 have m38 := m14.freezeN 9 rfl; clear m14
 rw [hke] at m38
 rw [hke]
 exact ⟨_, _, rfl, m38.outF (i := 9) rfl, m38.below⟩
theorem plans_walk (rb rz rf rt : Int) (rits : List (Int × List Int)) (pi : Option Addr) (ci : Nat) (l : List Int) (pl : Option Addr) (cl : Nat) (vo9 pe9 nn9 : Int) (pls : List Int) (pp : Option Addr) (cp : Nat) (k9 p9 wh9 : Int) (w0 : World) (h0 : Rd (fun _ => True) w0 (.slice pi rits.length ci) (.l 2 (rits.map itD))) (h1 : Rd (fun _ => True) w0 (.slice pl l.length cl) (.ns .u8 l)) (hlb : ∀ j, j < l.length → 0 ≤ l.getD j 0 ∧ l.getD j 0 ≤ 255) (h2 : Rd (fun _ => True) w0 (.slice pp pls.length cp) (.ns .i64 pls)) (hrio : ItsOk rits) (hk9 : 0 ≤ k9 ∧ k9 ≤ 255) (hp9 : 0 ≤ p9 ∧ p9 ≤ 255) (hw9 : 0 ≤ wh9 ∧ wh9 ≤ 255) :
   Calls Try.prog 3 #[.agg #[.int .i64 rb, .int .i64 rz, .int .i64 rf, .int .i64 rt, .slice pi rits.length ci], .slice pl l.length cl, .int .i64 vo9, .int .i64 pe9, .int .i64 nn9, .slice pp pls.length cp, .int .u8 k9, .int .u8 p9, .int .u8 wh9] w0 fun e w' => e = .returned (.bool true) ∧ Below w0.heap.size w0 w' := by
 refine ent9 Try.func3 rfl Try.ntmps3 fun Az Hz => ?_
 have m0 := ((MemOk.start (fun _ => True) w0).dat 60 rfl (h0.cast (fun b hb => free_nil (fun _ => trivial)))).dat 62 rfl (h2.cast (fun b hb => free_add rfl (free_nil (fun _ => trivial))))
 refine zsr fun K0 hK0 => ?_
 refine wpList_plain rfl (fun K hK => ?_)
 refine e_box Hz m0 70 (cs := [_, _, _, _, _]) rfl rfl rfl ?_
 clear Hz Az m0; intro g1 Az w2 Hz m2 hB2 hg2
 clear hB2 hg2
 refine hK _ _ ?_; clear hK
 refine goCh Hz (.assign rfl .nil) ?_
 clear Hz Az; intro Az Hz
 refine znl (hK0 _ _ ?_); clear hK0
 refine wp_seq_k (fun K1 hK1 => ?_)
 refine zsr fun K2 hK2 => ?_
 refine wpList_plain rfl (fun K hK => ?_)
 refine e_call Hz Try.func7 rfl rfl rfl rfl (iknown_any _) ?_
 rintro e w4 ⟨rfl, hb4⟩
 have m5 := m2.later hb4
 clear m2
 clear hb4
 refine ⟨_, rfl, ?_⟩; clear Hz Az; intro Az Hz
 refine hK _ _ ?_; clear hK
 refine goCh Hz (.not rfl .nil) ?_
 clear Hz Az; intro Az Hz
 refine znl (hK2 _ _ ?_); clear hK2
 refine wp_cond_false (Hz.ev (x := .tmp 36) rfl) ?_
 refine zss (hK1 _ _ ?_); clear hK1
 refine wp_seq_k (fun K3 hK3 => ?_)
 refine zsr fun K4 hK4 => ?_
 refine goCh Hz (.fa 4 rfl U24 <| .lb m5 70 U22 rfl rfl rfl <| .len rfl U22 <| .gtr rfl rfl <| .move rfl <| .nil) ?_
 clear Hz Az; intro Az Hz
 refine bool_cases Hz (t := 41) rfl ?_ ?_
 ·
  clear Hz; intro hb18 Hz; try simp only [QQ, Qax] at hb18
  refine goCh Hz (.sk <| .sk <| .sk <| .pickT rfl rfl <| .move rfl <| .sk <| .sk <| .sk <| .pickT rfl rfl <| .nil) ?_
  clear Hz Az; intro Az Hz
  refine znl (hK4 _ _ ?_); clear hK4
  refine wp_cond_true (Hz.ev (x := .tmp 50) rfl) ?_
  replace Hz : Has 214 [(1, _), (2, _), (3, _), (4, _), (5, _), (6, _), (7, _), (8, _), (9, _), (18, _)] Az := Hz.only [1, 2, 3, 4, 5, 6, 7, 8, 9, 18]
  refine regS Hz (.assign rfl <| .nil) ?_
  clear Hz Az; intro Az Hz
  refine wp_ret ?_
  try dsimp only [Exit.then, Exit.inBlock]
  refine (ret1 (fn := Try.f3) Hz rfl rfl ?_)
  exact ⟨rfl, m5.below⟩
 clear Hz; intro hb18 Hz; try simp only [QQ, Qax] at hb18
 have hr20 : rits.length ≤ 20 := by have := hb18; first | omega | (simp at this; omega)
 refine goCh Hz (.moveZ rfl <| .lenZ rfl U25 <| .gtrZ rfl rfl <| .pickF rfl rfl <| .move rfl <| .nil) ?_
 clear Hz Az; intro Az Hz
 refine bool_cases Hz (t := 46) rfl ?_ ?_
 ·
  clear Hz; intro hb35 Hz; try simp only [QQ, Qax] at hb35
  refine goCh Hz (.sk <| .sk <| .sk <| .pickT rfl rfl <| .nil) ?_
  clear Hz Az; intro Az Hz
  refine znl (hK4 _ _ ?_); clear hK4
  refine wp_cond_true (Hz.ev (x := .tmp 50) rfl) ?_
  replace Hz : Has 214 [(1, _), (2, _), (3, _), (4, _), (5, _), (6, _), (7, _), (8, _), (9, _), (18, _)] Az := Hz.only [1, 2, 3, 4, 5, 6, 7, 8, 9, 18]
  refine regS Hz (.assign rfl <| .nil) ?_
  clear Hz Az; intro Az Hz
  refine wp_ret ?_
  try dsimp only [Exit.then, Exit.inBlock]
  refine (ret1 (fn := Try.f3) Hz rfl rfl ?_)
  exact ⟨rfl, m5.below⟩
 clear Hz; intro hb35 Hz; try simp only [QQ, Qax] at hb35
 have hl60 : l.length ≤ 60 := by have := hb35; first | omega | (simp at this; omega)
 refine goCh Hz (.moveZ rfl <| .lenZ rfl U26 <| .gtrZ rfl rfl <| .pickF rfl rfl <| .nil) ?_
 clear Hz Az; intro Az Hz
 refine znl (hK4 _ _ ?_); clear hK4
 refine bool_cases Hz (t := 50) rfl ?_ ?_
 ·
  clear Hz; intro hb46 Hz; try simp only [QQ, Qax] at hb46
  refine wp_cond_true (Hz.ev (x := .tmp 50) rfl) ?_
  replace Hz : Has 214 [(1, _), (2, _), (3, _), (4, _), (5, _), (6, _), (7, _), (8, _), (9, _), (18, _)] Az := Hz.only [1, 2, 3, 4, 5, 6, 7, 8, 9, 18]
  refine regS Hz (.assign rfl <| .nil) ?_
  clear Hz Az; intro Az Hz
  refine wp_ret ?_
  try dsimp only [Exit.then, Exit.inBlock]
  refine (ret1 (fn := Try.f3) Hz rfl rfl ?_)
  exact ⟨rfl, m5.below⟩
 clear Hz; intro hb46 Hz; try simp only [QQ, Qax] at hb46
 have hp20 : pls.length ≤ 20 := by have := hb46; first | omega | (simp at this; omega)
 refine wp_cond_false (Hz.ev (x := .tmp 50) rfl) ?_
 refine zss (hK3 _ _ ?_); clear hK3
 refine wp_seq_k (fun K5 hK5 => ?_)
 replace Hz : Has 214 [(1, _), (2, _), (3, _), (4, _), (5, _), (6, _), (7, _), (8, _), (9, _), (18, _)] Az := Hz.only [1, 2, 3, 4, 5, 6, 7, 8, 9, 18]
 refine regS Hz (.assign rfl <| .nil) ?_
 clear Hz Az; intro Az Hz
 refine wp_block ?_
 refine wp_loop_ghost (fun g a w => ∃ (i B9 : Nat), i ≤ rits.length ∧ g = rits.length - i ∧ Has 214 [(1, .slice pl l.length cl), (2, .int .i64 vo9), (3, .int .i64 pe9), (4, .int .i64 nn9), (5, .slice pp pls.length cp), (6, .int .u8 k9), (7, .int .u8 p9), (8, .int .u8 wh9), (9, .pointer (some ⟨B9, 0, none⟩)), (19, .int .i64 (i : Int))] a ∧ MemOk (cx (fun _ => True) w0) w0 [(9, .box B9 24 [.int .i64 rb, .int .i64 rz, .int .i64 rf, .int .i64 rt, .slice pi rits.length ci]), (60, .dat (.slice pi rits.length ci) (.l 2 (rits.map itD))), (62, .dat (.slice pp pls.length cp) (.ns .i64 pls))] w) (rits.length) ?_ ?_
 · exact ⟨0, _, Nat.zero_le _, rfl, Hz.only [1, 2, 3, 4, 5, 6, 7, 8, 9, 19], m5.ren [(9, 70), (60, 60), (62, 62)] (by decide)⟩
 clear Hz m5
 rintro g Az w51 ⟨i, B9, hil9, hg, Hz, m51⟩
 refine wp_seq_k (fun K6 hK6 => ?_)
 refine regS Hz (.move rfl <| .fa 4 rfl U24 <| .lb m51 9 U22 rfl rfl rfl <| .len rfl U22 <| .lss rfl rfl <| .nil) ?_
 clear Hz Az; intro Az Hz
 refine bool_cases Hz (t := 55) rfl ?_ ?_
 ·
  clear Hz; intro hb57 Hz; try simp only [QQ, Qax] at hb57
  have hi : i < rits.length := by have := hb57; first | omega | (simp at this; omega)
  obtain ⟨⟨rxb, rxd⟩, hrx⟩ : ∃ e, rits[i]? = some e := ⟨_, List.getElem?_eq_getElem hi⟩
  refine wp_cond_true (Hz.ev (x := .tmp 55) rfl) ?_
  refine zss (hK6 _ _ ?_); clear hK6
  refine wp_seq_k (fun K7 hK7 => ?_)
  refine wp_block ?_
  refine zsr fun K8 hK8 => ?_
  refine goCh Hz (.fa 4 rfl U24 <| .lb m51 9 U22 rfl rfl rfl <| .move rfl <| .nil) ?_
  clear Hz Az; intro Az Hz
  obtain ⟨b65, o65, vs65, hp65, hR65, ho65, m65⟩ := m51.openR (i := 60) rfl (i) (r := [.v (.int .i64 rxb), .ns .u8 rxd]) (itD_get hrx) 100 rfl
  cases hp65; clear m51 ho65
  rcases hR65 with _ | ⟨hd65_0, _ | ⟨hd65_1, _ | _⟩⟩
  obtain rfl := hd65_0.v_out
  clear hd65_0
  obtain ⟨p66, c66, hv66, hc66⟩ := hd65_1.ns_shape; subst hv66
  have m66 := m65.dat 101 rfl (hd65_1.cast (fun _ h => (free_add rfl h))); clear m65 hd65_1
  refine goCh Hz (.c rfl (fun _ h => y_idx h rfl rfl U22 fct9 (i) rfl hi) <| .fieldAddrQ 1 rfl U29 rfl (s := 0) (by kernel_rfl) rfl <| .loadC1 m66 (i := 100) (q := 1) rfl rfl rfl U25 rfl <| .len rfl U25 <| .gtr rfl rfl <| .nil) ?_
  clear Hz Az; intro Az Hz
  refine znl (hK8 _ _ ?_); clear hK8
  refine bool_cases Hz (t := 65) rfl ?_ ?_
  ·
   clear Hz; intro hb72 Hz; try simp only [QQ, Qax] at hb72
   refine wp_cond_true (Hz.ev (x := .tmp 65) rfl) ?_
   replace Hz : Has 214 [(1, _), (2, _), (3, _), (4, _), (5, _), (6, _), (7, _), (8, _), (9, _), (19, _)] Az := Hz.only [1, 2, 3, 4, 5, 6, 7, 8, 9, 19]
   refine regS Hz (.assign rfl <| .nil) ?_
   clear Hz Az; intro Az Hz
   refine wp_ret ?_
   try dsimp only [Exit.then, Exit.inBlock]
   refine (ret1 (fn := Try.f3) Hz rfl rfl ?_)
   exact ⟨rfl, m66.below⟩
  clear Hz; intro hb72 Hz; try simp only [QQ, Qax] at hb72
  refine wp_cond_false (Hz.ev (x := .tmp 65) rfl) ?_
  refine zss (hK7 _ _ ?_); clear hK7
  replace Hz : Has 214 [(1, _), (2, _), (3, _), (4, _), (5, _), (6, _), (7, _), (8, _), (9, _), (19, _)] Az := Hz.only [1, 2, 3, 4, 5, 6, 7, 8, 9, 19]
  refine wp_region_lit ?_
  refine goCh Hz (.move rfl <| .add rfl rfl (r := ((i + 1 : Nat) : Int)) (by rw [IntWalk.i64_in _ (by omega)]; omega) <| .assign rfl <| .nil) ?_
  clear Hz Az; intro Az Hz
  refine wpList_nil ?_
  show ∃ n', n' < _ ∧ _
  exact ⟨rits.length - (i + 1), by omega, i + 1, _, by omega, rfl, Hz.only [1, 2, 3, 4, 5, 6, 7, 8, 9, 19], m66.ren [(9, 9), (60, 60), (62, 62)] (by decide)⟩
 clear Hz; intro hb57 Hz; try simp only [QQ, Qax] at hb57
 refine wp_cond_false (Hz.ev (x := .tmp 55) rfl) ?_
 refine wp_exit ?_
 refine hK5 _ _ ?_; clear hK5
 refine zsr fun K9 hK9 => ?_
 refine goCh Hz (.move rfl .nil) ?_
 clear Hz Az; intro Az Hz
 refine wpList_plain rfl (fun K hK => ?_)
 refine e_call Hz Try.func8 rfl rfl rfl rfl (whole_any l _ _ _ ((h1.now' m51 rfl).any) hl60 hlb) ?_
 rintro e w81 ⟨y, S, p81, c81, rfl, hS, hSl, hSz, hd81, hb81⟩
 have m82 := m51.callF 100 rfl hb81 hd81
 clear m51
 clear hb81 hd81
 have hS0 := hS
 have hsm := hS.sm
 obtain ⟨hV, hh0, hpn9, hws9, hwb9⟩ := hS0
 obtain ⟨v1, v2, v3, v4, v5, v6, v7, v8, v9⟩ := hV
 obtain ⟨n1, n2, n3, n4, n5, n6, n7, n8, n9q, n10, n11⟩ := v1
 refine ⟨_, rfl, ?_⟩; clear Hz Az; intro Az Hz
 refine hK _ _ ?_; clear hK
 obtain ⟨pq, hpq, hpq2⟩ := tmod_n3 (a := p9) (n := y.bl) hp9.1 (by omega)
 obtain ⟨kq, hkq, hkq2⟩ := tmod_n3 (a := k9) (n := 8) hk9.1 (by decide)
 obtain ⟨kz, hkz, hkz2⟩ := tmod_n3 (a := k9) (n := 9) hk9.1 (by decide)
 obtain ⟨wq, hwq, hwq2⟩ := tmod_n3 (a := wh9) (n := 8) hw9.1 (by decide)
 obtain ⟨wz, hwz, hwz2⟩ := tmod_n3 (a := wh9) (n := 10) hw9.1 (by decide)
 obtain ⟨its, hits⟩ : ∃ x, wholeI S S.length = x := ⟨_, rfl⟩
 have hil : its.length = S.length := by rw [← hits, wholeI_len]
 have hso : StreamOk y.bl y.sz (-1) y.ws.length its := by rw [← hits]; exact whole_ok hS (by omega) hSl hSz
 have hio : ItsOk its := fun e he => by
   obtain ⟨j, hj, rfl⟩ := List.getElem_of_mem he
   have := (hso.i j _ (List.getElem?_eq_getElem hj)).2.2
   omega
 have hit9 := hso.len
 obtain ⟨R0, hR0⟩ : ∃ x, planQ y.bl y.sz (-1) y.ws.length its (kq : Int) ((pq : Int) + 1) ((wq : Int) + 1) (plX k9 ((y.bl + ((pq : Int) + 1) - 1) / ((pq : Int) + 1)).toNat) = x := ⟨_, rfl⟩
 have hR00 : R0.2 = 0 := by rw [← hR0]; exact planQ_zero hso ⟨by omega, by omega⟩ hk9 ⟨by omega, by omega⟩ ⟨by omega, by omega⟩
 have hRk := hR0 ▸ planQ_ok (bl := y.bl) (sz := y.sz) (fr := -1) (to := y.ws.length) (vo := (kq : Int)) (pe := (pq : Int) + 1) (n9 := (wq : Int) + 1) (pl := plX k9 ((y.bl + ((pq : Int) + 1) - 1) / ((pq : Int) + 1)).toNat) hio (by omega) (by rw [plX_len]; exact nc_bd (by omega) (by omega))
 rw [hits, ← hil] at m82
 rw [← hil] at Hz
 refine wpList_plain rfl (fun K hK => ?_)
 refine e_alloc Hz m82 101 fct37 rfl ?_
 clear Hz Az m82; intro g84 Az w85 Hz m85 hB85 hg85
 clear hB85 hg85
 refine hK _ _ ?_; clear hK
 refine wpList_plain rfl (fun K hK => ?_)
 refine e_storeW Hz m85 101 rfl rfl rfl rfl rfl fct2 ?_
 clear m85; intro w86 m86 hB86
 clear hB86
 refine hK _ _ ?_; clear hK
 refine znl (hK9 _ _ ?_); clear hK9
 replace Hz : Has 214 [(1, _), (2, _), (3, _), (4, _), (5, _), (6, _), (7, _), (8, _), (9, _), (19, _), (20, _)] Az := Hz.only [1, 2, 3, 4, 5, 6, 7, 8, 9, 19, 20]
 refine regS Hz (.move rfl <| .conv rfl U5 U3 (IntWalk.i64_in _ (by omega)) <| .fa 0 rfl U24 <| .lb m86 101 U3 rfl rfl rfl <| .rem rfl rfl (by omega) (r := (pq : Int)) hpq <| .add rfl rfl (r := (pq : Int) + 1) (IntWalk.i64_in _ (by omega)) <| .assign rfl <| .nil) ?_
 clear Hz Az; intro Az Hz
 replace Hz : Has 214 [(1, _), (2, _), (3, _), (4, _), (5, _), (6, _), (7, _), (8, _), (9, _), (19, _), (20, _), (21, _)] Az := Hz.only [1, 2, 3, 4, 5, 6, 7, 8, 9, 19, 20, 21]
 refine zsr fun K10 hK10 => ?_
 refine goCh Hz (.loadBR m86 (i := 101) rfl rfl U24 rfl fct2 (by simp) (by dsimp only [List.drop, List.take] <;> rfl) .nil) ?_
 clear Hz Az; intro Az Hz
 refine wpList_plain rfl (fun K hK => ?_)
 refine e_alloc Hz m86 102 fct37 rfl ?_
 clear Hz Az m86; intro g98 Az w99 Hz m99 hB99 hg99
 clear hB99 hg99
 refine hK _ _ ?_; clear hK
 refine wpList_plain rfl (fun K hK => ?_)
 refine e_storeW Hz m99 102 rfl rfl rfl rfl rfl fct2 ?_
 clear m99; intro w100 m100 hB100
 clear hB100
 refine hK _ _ ?_; clear hK
 refine znl (hK10 _ _ ?_); clear hK10
 refine wp_seq_k (fun K11 hK11 => ?_)
 have hC11 : ∀ (a : Act) (w : World), (∃ (B9 B20 B22 : Nat) (ps : Option Addr) (cs9 : Nat) (tf : Int), (tf = -1 ∨ tf = 0) ∧ Has 214 [(2, .int .i64 vo9), (3, .int .i64 pe9), (4, .int .i64 nn9), (5, .slice pp pls.length cp), (6, .int .u8 k9), (8, .int .u8 wh9), (9, .pointer (some ⟨B9, 0, none⟩)), (20, .pointer (some ⟨B20, 0, none⟩)), (21, .int .i64 ((pq : Int) + 1)), (22, .pointer (some ⟨B22, 0, none⟩))] a ∧ MemOk (cx (fun _ => True) w0) w0 [(9, .box B9 24 [.int .i64 rb, .int .i64 rz, .int .i64 rf, .int .i64 rt, .slice pi rits.length ci]), (60, .dat (.slice pi rits.length ci) (.l 2 (rits.map itD))), (62, .dat (.slice pp pls.length cp) (.ns .i64 pls)), (20, .box B20 24 [.int .i64 y.bl, .int .i64 y.sz, .int .i64 (-1), .int .i64 y.ws.length, .slice ps its.length cs9]), (22, .box B22 24 [.int .i64 y.bl, .int .i64 y.sz, .int .i64 tf, .int .i64 y.ws.length, .slice ps its.length cs9]), (33, .dat (.slice ps its.length cs9) (.l 2 (its.map itD)))] w) → K11 a w := by
   clear Hz m100
   rintro Az w101 ⟨B9, B20, B22, ps, cs9, tf, htf, Hz, m101⟩
   refine hK11 _ _ ?_; clear hK11
   refine wp_seq_k (fun K12 hK12 => ?_)
   have m102 : MemOk _ _ [(9, _), (20, _), (22, _), (33, _), (60, _), (62, _)] _ := m101.only [9, 20, 22, 33, 60, 62]; clear m101
   refine region_p 20 (B := [(9, _), (20, _), (22, _), (33, _), (60, _), (62, _)]) (m102.to ⟨il, il, il, il, il, il, trivial⟩) m102 (by kernel_rfl) (fun w103 hP103 m103 => ?_); clear m102
   refine goR hP103 [0, 1, 2, 3, 4, 5, 6, 7, 8, 10, 11, 12, 13] [0, 6] 13 0 15871 Hz (m103.to ⟨il, il, il, il, il, il, trivial⟩) (.loadBR hh (i := 20) rfl rfl U24 rfl fct2 (by simp) (by dsimp only [List.drop, List.take] <;> rfl) <| .move rfl <| .rem rfl rfl (by decide) (r := (kq : Int)) hkq <| .conv rfl U5 U3 (r := (kq : Int)) (IntWalk.i64_in _ (by omega)) <| .move rfl <| .fa 0 rfl U24 <| .lb hh 20 U3 rfl rfl rfl <| .move rfl <| .move rfl <| .move rfl <| .rem rfl rfl (by decide) (r := (wq : Int)) hwq <| .conv rfl U5 U3 (r := (wq : Int)) (IntWalk.i64_in _ (by omega)) <| .add rfl rfl (r := (wq : Int) + 1) (IntWalk.i64_in _ (by omega)) <| .nil) ?_
   clear Hz Az; intro Az Hz
   refine stepE_only 9 rfl (by kernel_rfl) rfl (fun K hK => ?_)
   refine e_call Hz Try.func10 rfl rfl rfl rfl (placeX y.bl ((pq : Int) + 1) k9 _ ⟨by omega, by omega⟩ ⟨by omega, by omega⟩ hk9) ?_
   rintro e w117 ⟨p117, c117, rfl, hd117, hb117⟩
   have m118 := m103.callF 200 rfl hb117 hd117
   clear m103
   clear hb117 hd117
   refine ⟨_, rfl, ?_⟩; clear Hz Az; intro Az Hz
   refine hK _ _ (m118.to ⟨il, il, il, il, il, il, trivial⟩) ?_; clear hK K
   refine stepE_only 14 rfl (by kernel_rfl) rfl (fun K hK => ?_)
   refine e_call Hz Try.func9 rfl rfl rfl rfl (pplan_q y.bl y.sz (-1) _ (kq : Int) ((pq : Int) + 1) ((wq : Int) + 1) its _ _ _ (plX k9 ((y.bl + ((pq : Int) + 1) - 1) / ((pq : Int) + 1)).toNat) _ _ _ _ (m118.rd (i := 33) rfl) ((m118.rd (i := 200) rfl).any) hio (by omega) (by rw [plX_len]; exact nc_bd (by omega) (by omega))) ?_
   rintro e w120 ⟨p120, c120, rfl, hd120, hb120⟩
   rw [hR0] at hd120 ⊢
   have m121 := m118.callD 201 rfl hb120 hd120
   clear m118
   clear hb120 hd120
   refine ⟨_, rfl, ?_⟩; clear Hz Az; intro Az Hz
   refine hK _ _ (m121.to ⟨il, il, il, il, il, il, trivial⟩) ?_; clear hK K
   refine goA hP103 [15, 16, 17, 18, 19] 5 32767 1048575 Hz (m121.to ⟨il, il, il, il, il, il, trivial⟩) (.move rfl <| .extract rfl rfl <| .extract rfl rfl <| .assign rfl <| .assign rfl <| .nil) ?_
   clear Hz Az; intro Az Hz
   refine wpAnyE_done (by kernel_rfl) ?_ _
   refine hK12 _ _ ?_; clear hK12
   refine wp_seq_k (fun K13 hK13 => ?_)
   replace Hz : Has 214 [(2, _), (3, _), (4, _), (5, _), (6, _), (8, _), (9, _), (20, _), (21, _), (22, _), (23, _), (24, _)] Az := Hz.only [2, 3, 4, 5, 6, 8, 9, 20, 21, 22, 23, 24]
   have m129 : MemOk _ _ [(9, _), (20, _), (22, _), (33, _), (60, _), (62, _), (200, _), (201, _)] _ := m121.only [9, 20, 22, 33, 60, 62, 200, 201]; clear m121
   refine region_p 20 (B := [(9, _), (20, _), (22, _), (33, _), (60, _), (62, _), (200, _), (201, _)]) (m129.to ⟨il, il, il, il, il, il, il, il, trivial⟩) m129 (by kernel_rfl) (fun w130 hP130 m130 => ?_); clear m129
   refine goR hP130 [0, 1, 2, 3, 4, 5, 6, 7, 8, 10, 11, 12, 13] [0, 6] 13 0 15871 Hz (m130.to ⟨il, il, il, il, il, il, il, il, trivial⟩) (.loadBR hh (i := 20) rfl rfl U24 rfl fct2 (by simp) (by dsimp only [List.drop, List.take] <;> rfl) <| .move rfl <| .rem rfl rfl (by decide) (r := (kq : Int)) hkq <| .conv rfl U5 U3 (r := (kq : Int)) (IntWalk.i64_in _ (by omega)) <| .move rfl <| .fa 0 rfl U24 <| .lb hh 20 U3 rfl rfl rfl <| .move rfl <| .move rfl <| .move rfl <| .rem rfl rfl (by decide) (r := (wq : Int)) hwq <| .conv rfl U5 U3 (r := (wq : Int)) (IntWalk.i64_in _ (by omega)) <| .add rfl rfl (r := (wq : Int) + 1) (IntWalk.i64_in _ (by omega)) <| .nil) ?_
   clear Hz Az; intro Az Hz
   refine stepE_only 9 rfl (by kernel_rfl) rfl (fun K hK => ?_)
   refine e_call Hz Try.func10 rfl rfl rfl rfl (placeX y.bl ((pq : Int) + 1) k9 _ ⟨by omega, by omega⟩ ⟨by omega, by omega⟩ hk9) ?_
   rintro e w144 ⟨p144, c144, rfl, hd144, hb144⟩
   have m145 := m130.callF 202 rfl hb144 hd144
   clear m130
   clear hb144 hd144
   refine ⟨_, rfl, ?_⟩; clear Hz Az; intro Az Hz
   refine hK _ _ (m145.to ⟨il, il, il, il, il, il, il, il, trivial⟩) ?_; clear hK K
   refine stepE_only 14 rfl (by kernel_rfl) rfl (fun K hK => ?_)
   refine e_call Hz Try.func11 rfl rfl rfl rfl (rplan_q y.bl y.sz (-1) _ (kq : Int) ((pq : Int) + 1) ((wq : Int) + 1) its _ _ _ (plX k9 ((y.bl + ((pq : Int) + 1) - 1) / ((pq : Int) + 1)).toNat) _ _ _ _ (m145.rd (i := 33) rfl) ((m145.rd (i := 202) rfl).any) hio (by omega) (by rw [plX_len]; exact nc_bd (by omega) (by omega))) ?_
   rintro e w147 ⟨p147, c147, rfl, hd147, hb147⟩
   rw [hR0] at hd147 ⊢
   have m148 := m145.callD 203 rfl hb147 hd147
   clear m145
   clear hb147 hd147
   refine ⟨_, rfl, ?_⟩; clear Hz Az; intro Az Hz
   refine hK _ _ (m148.to ⟨il, il, il, il, il, il, il, il, trivial⟩) ?_; clear hK K
   refine goA hP130 [15, 16, 17, 18, 19] 5 32767 1048575 Hz (m148.to ⟨il, il, il, il, il, il, il, il, trivial⟩) (.move rfl <| .extract rfl rfl <| .extract rfl rfl <| .assign rfl <| .assign rfl <| .nil) ?_
   clear Hz Az; intro Az Hz
   refine wpAnyE_done (by kernel_rfl) ?_ _
   refine hK13 _ _ ?_; clear hK13
   refine wp_seq_k (fun K14 hK14 => ?_)
   replace Hz : Has 214 [(2, _), (3, _), (4, _), (5, _), (6, _), (8, _), (9, _), (20, _), (21, _), (22, _), (23, _), (24, _), (25, _), (26, _)] Az := Hz.only [2, 3, 4, 5, 6, 8, 9, 20, 21, 22, 23, 24, 25, 26]
   refine zsr fun K15 hK15 => ?_
   refine goCh Hz (.move rfl <| .move rfl <| .neq rfl rfl <| .move rfl <| .nil) ?_
   clear Hz Az; intro Az Hz
   refine bool_cases Hz (t := 118) rfl ?_ ?_
   · intro hb _; exact absurd hb (by first | (simp; done) | (simp [hR00]; done) | (simp; omega))
   clear Hz; intro _ Hz
   refine goCh Hz (.moveZ rfl <| .neqZ rfl rfl <| .pickF rfl rfl <| .move rfl <| .nil) ?_
   clear Hz Az; intro Az Hz
   refine bool_cases Hz (t := 122) rfl ?_ ?_
   · intro hb _; exact absurd hb (by first | (simp; done) | (simp [hR00]; done) | (simp; omega))
   clear Hz; intro _ Hz
   refine goCh Hz (.moveZ rfl <| .moveZ rfl <| .nil) ?_
   clear Hz Az; intro Az Hz
   refine st_ge Hz rfl rfl rfl rfl (fun K hK => ?_)
   refine e_call Hz Try.func12 rfl rfl rfl rfl (hcmds_any R0.1 _ _ _ _ _ _ _ ((m148.rd (i := 201) rfl).any) ((m148.rd (i := 203) rfl).any) hRk.1 hRk.2) ?_
   rintro e w172 ⟨rfl, hb172⟩
   have m173 := m148.later hb172
   clear m148
   clear hb172
   refine ⟨_, rfl, ?_⟩; clear Hz Az; intro Az Hz
   refine hK _ _ ?_; clear hK
   refine goCh Hz (.notZ rfl <| .pickF rfl rfl <| .nil) ?_
   clear Hz Az; intro Az Hz
   refine znl (hK15 _ _ ?_); clear hK15
   refine wp_cond_false (Hz.ev (x := .tmp 127) rfl) ?_
   refine zss (hK14 _ _ ?_); clear hK14
   refine wp_seq_k (fun K16 hK16 => ?_)
   replace Hz : Has 214 [(2, _), (3, _), (4, _), (5, _), (6, _), (8, _), (9, _), (20, _), (21, _), (22, _)] Az := Hz.only [2, 3, 4, 5, 6, 8, 9, 20, 21, 22]
   refine zsr fun K17 hK17 => ?_
   refine goCh Hz (.loadBR m173 (i := 9) rfl rfl U24 rfl fct2 (by simp) (by dsimp only [List.drop, List.take] <;> rfl) <| .loadBR m173 (i := 20) rfl rfl U24 rfl fct2 (by simp) (by dsimp only [List.drop, List.take] <;> rfl) <| .loadBR m173 (i := 22) rfl rfl U24 rfl fct2 (by simp) (by dsimp only [List.drop, List.take] <;> rfl) <| .nil) ?_
   clear Hz Az; intro Az Hz
   refine wpList_plain rfl (fun K hK => ?_)
   refine e_litR Hz m173 204 (mm := 5) rfl (.cons rfl rfl (.cons (.v _) (.cons (.v _) (.cons (.v _) (.cons (.v _) (.cons (m173.rd (i := 60) rfl) .nil))))) <| .cons rfl rfl (.cons (.v _) (.cons (.v _) (.cons (.v _) (.cons (.v _) (.cons (m173.rd (i := 33) rfl) .nil))))) <| .cons rfl rfl (.cons (.v _) (.cons (.v _) (.cons (.v _) (.cons (.v _) (.cons (m173.rd (i := 33) rfl) .nil))))) <| .nil) U39 fct4 rfl rfl rfl rfl rfl ?_
   clear Hz Az m173; intro g184 Az w185 Hz m185
   refine hK _ _ ?_; clear hK
   refine goCh Hz (.len rfl U39 <| .move rfl <| .nil) ?_
   clear Hz Az; intro Az Hz
   refine znl (hK17 _ _ ?_); clear hK17
   refine wp_block ?_
   have m188 := m185.freezeR 204 rfl; clear m185
   obtain ⟨XS9, hXS⟩ : ∃ x, [(⟨rb, rz, rf, rt, rits⟩ : SV9), ⟨y.bl, y.sz, -1, y.ws.length, its⟩, ⟨y.bl, y.sz, tf, y.ws.length, its⟩] = x := ⟨_, rfl⟩
   have hXl : XS9.length = 3 := by rw [← hXS]; rfl
   have hXo : ∀ s ∈ XS9, s.its.length ≤ 256 ∧ ItsOk s.its := by rw [← hXS]; intro s hs; simp only [List.mem_cons, List.not_mem_nil, or_false] at hs; rcases hs with rfl | rfl | rfl; (exact ⟨by simp only; omega, hrio⟩); (exact ⟨by simp only; omega, hio⟩); (exact ⟨by simp only; omega, hio⟩)
   have m189 := m188.only [62, 204]; clear m188
   have hE9 : [[D.v (.int .i64 rb), .v (.int .i64 rz), .v (.int .i64 rf), .v (.int .i64 rt), .l 2 (rits.map itD)], [.v (.int .i64 y.bl), .v (.int .i64 y.sz), .v (.int .i64 (-1)), .v (.int .i64 y.ws.length), .l 2 (its.map itD)], [.v (.int .i64 y.bl), .v (.int .i64 y.sz), .v (.int .i64 tf), .v (.int .i64 y.ws.length), .l 2 (its.map itD)]] = XS9.map svD := by rw [← hXS]; rfl
   rw [hE9] at m189
   refine wp_loop_ghost (fun g a w => ∃ (c9 : Nat) (pr pp : Option Addr) (cr cp : Nat), c9 ≤ 3 ∧ g = 3 - c9 ∧ Has 214 [(2, .int .i64 vo9), (3, .int .i64 pe9), (4, .int .i64 nn9), (5, .slice pp pls.length cp), (6, .int .u8 k9), (8, .int .u8 wh9), (21, .int .i64 ((pq : Int) + 1)), (131, .slice pr 3 cr), (132, .int .i64 3), (133, .int .i64 (c9 : Int))] a ∧ MemOk (cx (fun _ => True) w0) w0 [(62, .dat (.slice pp pls.length cp) (.ns .i64 pls)), (34, .dat (.slice pr 3 cr) (.l 5 (XS9.map svD)))] w) (3) ?_ ?_
   · exact ⟨0, _, _, _, _, by decide, rfl, Hz.only [2, 3, 4, 5, 6, 8, 21, 131, 132, 133], m189.ren [(62, 62), (34, 204)] (by decide)⟩
   clear Hz m189
   rintro g Az w190 ⟨c9, pr, pp, cr, cp, hcl9, hg2, Hz, m190⟩
   refine regS Hz (.lss rfl rfl <| .nil) ?_
   clear Hz Az; intro Az Hz
   refine wp_seq_k (fun K18 hK18 => ?_)
   refine bool_cases Hz (t := 134) rfl ?_ ?_
   ·
    clear Hz; intro hb192 Hz; try simp only [QQ, Qax] at hb192
    have hc3 : c9 < 3 := by have := hb192; first | omega | (simp at this; omega)
    obtain ⟨xv, hxv⟩ : ∃ e, XS9[c9]? = some e := ⟨_, List.getElem?_eq_getElem (by omega)⟩
    obtain ⟨hxl, hxo⟩ := hXo xv (List.mem_of_getElem? hxv)
    obtain ⟨bm, hbm, hbm0, hbm1⟩ := and255 xv.bl
    refine wp_cond_true (Hz.ev (x := .tmp 134) rfl) ?_
    refine zss (hK18 _ _ ?_); clear hK18
    refine wp_seq_k (fun K19 hK19 => ?_)
    refine wp_block ?_
    refine zsr fun K20 hK20 => ?_
    obtain ⟨b194, o194, vs194, hp194, hR194, ho194, m194⟩ := m190.openR (i := 34) rfl (c9) (r := [.v (.int .i64 xv.bl), .v (.int .i64 xv.sz), .v (.int .i64 xv.fr), .v (.int .i64 xv.to), .l 2 (xv.its.map itD)]) (svD_get hxv) 300 rfl
    cases hp194; clear m190 ho194
    rcases hR194 with _ | ⟨hd194_0, _ | ⟨hd194_1, _ | ⟨hd194_2, _ | ⟨hd194_3, _ | ⟨hd194_4, _ | _⟩⟩⟩⟩⟩
    obtain rfl := hd194_0.v_out
    clear hd194_0
    obtain rfl := hd194_1.v_out
    clear hd194_1
    obtain rfl := hd194_2.v_out
    clear hd194_2
    obtain rfl := hd194_3.v_out
    clear hd194_3
    obtain ⟨p195, c195, hv195, hc195⟩ := hd194_4.l_shape; subst hv195
    have m195 := m194.dat 301 rfl (hd194_4.cast (fun _ h => (free_add rfl h))); clear m194 hd194_4
    refine goCh Hz (.c rfl (fun _ h => y_idx h rfl rfl U39 fct2 (c9) rfl hc3) <| .loadCR m195 (i := 300) rfl rfl U24 rfl fct2 <| .nil) ?_
    clear Hz Az; intro Az Hz
    refine wpList_plain rfl (fun K hK => ?_)
    refine e_alloc Hz m195 302 fct37 rfl ?_
    clear Hz Az m195; intro g198 Az w199 Hz m199 hB199 hg199
    clear hB199 hg199
    refine hK _ _ ?_; clear hK
    refine wpList_plain rfl (fun K hK => ?_)
    refine e_storeW Hz m199 302 rfl rfl rfl rfl rfl fct2 ?_
    clear m199; intro w200 m200 hB200
    clear hB200
    refine hK _ _ ?_; clear hK
    refine znl (hK20 _ _ ?_); clear hK20
    refine zsr fun K21 hK21 => ?_
    refine goCh Hz (.move rfl <| .fa 0 rfl U24 <| .lb m200 302 U3 rfl rfl rfl <| .and rfl rfl (r := bm) hbm <| .move rfl <| .move rfl <| .nil) ?_
    clear Hz Az; intro Az Hz
    refine wpList_plain rfl (fun K hK => ?_)
    refine e_call Hz Try.func10 rfl rfl rfl rfl (placeX bm ((pq : Int) + 1) k9 _ ⟨by omega, by omega⟩ ⟨by omega, by omega⟩ hk9) ?_
    rintro e w213 ⟨p213, c213, rfl, hd213, hb213⟩
    obtain ⟨plv, hplv⟩ : ∃ x, plX k9 ((bm + ((pq : Int) + 1) - 1) / ((pq : Int) + 1)).toNat = x := ⟨_, rfl⟩
    have hpll : plv.length ≤ 1000000 := by rw [← hplv, plX_len]; exact nc_bd (by omega) (by omega)
    rw [hplv] at hd213 ⊢
    have m214 := m200.callF 303 rfl hb213 hd213
    clear m200
    clear hb213 hd213
    refine ⟨_, rfl, ?_⟩; clear Hz Az; intro Az Hz
    refine hK _ _ ?_; clear hK
    refine wpList_plain rfl (fun K hK => ?_)
    refine e_litR Hz m214 304 (mm := 1) rfl (.cons rfl rfl (.cons (m214.rd (i := 62) rfl) .nil) <| .cons rfl rfl (.cons (m214.rd (i := 303) rfl) .nil) <| .nil) U40 fct36 rfl rfl rfl rfl rfl ?_
    clear Hz Az m214; intro g216 Az w217 Hz m217
    refine hK _ _ ?_; clear hK
    refine goCh Hz (.len rfl U40 <| .move rfl <| .nil) ?_
    clear Hz Az; intro Az Hz
    refine znl (hK21 _ _ ?_); clear hK21
    refine wp_block ?_
    have m220 := m217.freezeR 304 rfl; clear m217
    refine wp_loop_ghost (fun g a w => ∃ (d9 B28 : Nat) (pr pp px pr2 : Option Addr) (cr cp cx9 cr2 : Nat), d9 ≤ 2 ∧ g = 2 - d9 ∧ Has 214 [(2, .int .i64 vo9), (3, .int .i64 pe9), (4, .int .i64 nn9), (5, .slice pp pls.length cp), (6, .int .u8 k9), (8, .int .u8 wh9), (21, .int .i64 ((pq : Int) + 1)), (131, .slice pr 3 cr), (132, .int .i64 3), (133, .int .i64 (c9 : Int)), (28, .pointer (some ⟨B28, 0, none⟩)), (144, .slice pr2 2 cr2), (145, .int .i64 2), (146, .int .i64 (d9 : Int))] a ∧ MemOk (cx (fun _ => True) w0) w0 [(62, .dat (.slice pp pls.length cp) (.ns .i64 pls)), (34, .dat (.slice pr 3 cr) (.l 5 (XS9.map svD))), (28, .box B28 24 [.int .i64 xv.bl, .int .i64 xv.sz, .int .i64 xv.fr, .int .i64 xv.to, .slice px (xv.its.map itD).length cx9]), (35, .dat (.slice px (xv.its.map itD).length cx9) (.l 2 (xv.its.map itD))), (36, .dat (.slice pr2 2 cr2) (.l 1 [[.ns .i64 pls], [.ns .i64 plv]]))] w) (2) ?_ ?_
    · exact ⟨0, _, _, _, _, _, _, _, _, _, by decide, rfl, Hz.only [2, 3, 4, 5, 6, 8, 21, 131, 132, 133, 28, 144, 145, 146], m220.ren [(62, 62), (34, 34), (28, 302), (35, 301), (36, 304)] (by decide)⟩
    clear Hz m220
    rintro g Az w221 ⟨d9, B28, pr, pp, px, pr2, cr, cp, cx9, cr2, hdl9, hg3, Hz, m221⟩
    refine regS Hz (.lss rfl rfl <| .nil) ?_
    clear Hz Az; intro Az Hz
    refine wp_seq_k (fun K22 hK22 => ?_)
    refine bool_cases Hz (t := 147) rfl ?_ ?_
    ·
     clear Hz; intro hb223 Hz; try simp only [QQ, Qax] at hb223
     have hd2 : d9 < 2 := by have := hb223; first | omega | (simp at this; omega)
     obtain ⟨pv, hpv0, hpv⟩ : ∃ pv, [[D.ns .i64 pls], [.ns .i64 plv]][d9]? = some [.ns .i64 pv] ∧ pv.length ≤ 1000000 := two_pl (by omega) hpll hd2
     obtain ⟨R1, hR1⟩ : ∃ x, planQ xv.bl xv.sz xv.fr xv.to xv.its vo9 pe9 nn9 pv = x := ⟨_, rfl⟩
     have hk1 := hR1 ▸ planQ_ok (bl := xv.bl) (sz := xv.sz) (fr := xv.fr) (to := xv.to) (vo := vo9) (pe := pe9) (n9 := nn9) (pl := pv) hxo hxl hpv
     obtain ⟨R2, hR2⟩ : ∃ x, planQ xv.bl xv.sz xv.fr xv.to xv.its (kz : Int) ((pq : Int) + 1) (wz : Int) pv = x := ⟨_, rfl⟩
     have hk2 := hR2 ▸ planQ_ok (bl := xv.bl) (sz := xv.sz) (fr := xv.fr) (to := xv.to) (vo := (kz : Int)) (pe := (pq : Int) + 1) (n9 := (wz : Int)) (pl := pv) hxo hxl hpv
     refine wp_cond_true (Hz.ev (x := .tmp 147) rfl) ?_
     refine zss (hK22 _ _ ?_); clear hK22
     refine wp_seq_k (fun K23 hK23 => ?_)
     refine wp_block ?_
     refine zsr fun K24 hK24 => ?_
     obtain ⟨b225, o225, vs225, hp225, hR225, ho225, m225⟩ := m221.openR (i := 36) rfl (d9) (r := [.ns .i64 pv]) hpv0 400 rfl
     cases hp225; clear m221 ho225
     rcases hR225 with _ | ⟨hd225_0, _ | _⟩
     obtain ⟨p226, c226, hv226, hc226⟩ := hd225_0.ns_shape; subst hv226
     have m226 := m225.dat 401 rfl (hd225_0.cast (fun _ h => (free_add rfl h))); clear m225 hd225_0
     refine goCh Hz (.c rfl (fun _ h => y_idx h rfl rfl U40 fct17 (d9) rfl hd2) <| .loadC0 m226 (i := 400) rfl rfl U26 rfl <| .assign rfl <| .nil) ?_
     clear Hz Az; intro Az Hz
     refine znl (hK24 _ _ ?_); clear hK24
     refine zsr fun K25 hK25 => ?_
     refine goCh Hz (.loadBR m226 (i := 28) rfl rfl U24 rfl fct2 (by simp) (by dsimp only [List.drop, List.take] <;> rfl) <| .move rfl <| .move rfl <| .move rfl <| .move rfl <| .nil) ?_
     clear Hz Az; intro Az Hz
     refine wpList_plain rfl (fun K hK => ?_)
     refine e_call Hz Try.func9 rfl rfl rfl rfl (pplan_q xv.bl xv.sz xv.fr xv.to vo9 pe9 nn9 xv.its _ _ _ pv _ _ _ _ (m226.rd (i := 35) rfl) ((m226.rd (i := 401) rfl).any) hxo hxl hpv) ?_
     rintro e w240 ⟨p240, c240, rfl, hd240, hb240⟩
     rw [hR1] at hd240 ⊢
     have m241 := m226.callD 402 rfl hb240 hd240
     clear m226
     clear hb240 hd240
     refine ⟨_, rfl, ?_⟩; clear Hz Az; intro Az Hz
     refine hK _ _ ?_; clear hK
     refine goCh Hz (.move rfl <| .extract rfl rfl <| .extract rfl rfl <| .assign rfl <| .assign rfl <| .nil) ?_
     clear Hz Az; intro Az Hz
     refine znl (hK25 _ _ ?_); clear hK25
     replace Hz : Has 214 [(2, _), (3, _), (4, _), (5, _), (6, _), (8, _), (21, _), (131, _), (132, _), (133, _), (28, _), (144, _), (145, _), (146, _), (30, _), (31, _), (32, _)] Az := Hz.only [2, 3, 4, 5, 6, 8, 21, 131, 132, 133, 28, 144, 145, 146, 30, 31, 32]
     refine zsr fun K26 hK26 => ?_
     refine goCh Hz (.loadBR m241 (i := 28) rfl rfl U24 rfl fct2 (by simp) (by dsimp only [List.drop, List.take] <;> rfl) <| .move rfl <| .move rfl <| .move rfl <| .move rfl <| .nil) ?_
     clear Hz Az; intro Az Hz
     refine wpList_plain rfl (fun K hK => ?_)
     refine e_call Hz Try.func11 rfl rfl rfl rfl (rplan_q xv.bl xv.sz xv.fr xv.to vo9 pe9 nn9 xv.its _ _ _ pv _ _ _ _ (m241.rd (i := 35) rfl) ((m241.rd (i := 401) rfl).any) hxo hxl hpv) ?_
     rintro e w259 ⟨p259, c259, rfl, hd259, hb259⟩
     rw [hR1] at hd259 ⊢
     have m260 := m241.callD 403 rfl hb259 hd259
     clear m241
     clear hb259 hd259
     refine ⟨_, rfl, ?_⟩; clear Hz Az; intro Az Hz
     refine hK _ _ ?_; clear hK
     refine goCh Hz (.move rfl <| .extract rfl rfl <| .extract rfl rfl <| .assign rfl <| .assign rfl <| .nil) ?_
     clear Hz Az; intro Az Hz
     refine znl (hK26 _ _ ?_); clear hK26
     refine wp_seq_k (fun K27 hK27 => ?_)
     replace Hz : Has 214 [(2, _), (3, _), (4, _), (5, _), (6, _), (8, _), (21, _), (131, _), (132, _), (133, _), (28, _), (144, _), (145, _), (146, _), (30, _), (31, _), (32, _), (33, _), (34, _)] Az := Hz.only [2, 3, 4, 5, 6, 8, 21, 131, 132, 133, 28, 144, 145, 146, 30, 31, 32, 33, 34]
     refine zsr fun K28 hK28 => ?_
     refine goCh Hz (.move rfl <| .move rfl <| .neq rfl rfl <| .move rfl <| .nil) ?_
     clear Hz Az; intro Az Hz
     refine bool_cases Hz (t := 171) rfl ?_ ?_
     · intro hb _; exact absurd hb (by first | (simp; done) | (simp [hR00]; done) | (simp; omega))
     clear Hz; intro _ Hz
     refine goCh Hz (.moveZ rfl <| .moveZ rfl <| .nil) ?_
     clear Hz Az; intro Az Hz
     refine st_ge Hz rfl rfl rfl rfl (fun K hK => ?_)
     refine e_call Hz Try.func12 rfl rfl rfl rfl (hcmds_any R1.1 _ _ _ _ _ _ _ ((m260.rd (i := 402) rfl).any) ((m260.rd (i := 403) rfl).any) hk1.1 hk1.2) ?_
     rintro e w279 ⟨rfl, hb279⟩
     have m280 := m260.later hb279
     clear m260
     clear hb279
     refine ⟨_, rfl, ?_⟩; clear Hz Az; intro Az Hz
     refine hK _ _ ?_; clear hK
     refine goCh Hz (.notZ rfl <| .pickF rfl rfl <| .nil) ?_
     clear Hz Az; intro Az Hz
     refine znl (hK28 _ _ ?_); clear hK28
     refine wp_cond_false (Hz.ev (x := .tmp 176) rfl) ?_
     refine zss (hK27 _ _ ?_); clear hK27
     replace Hz : Has 214 [(2, _), (3, _), (4, _), (5, _), (6, _), (8, _), (21, _), (131, _), (132, _), (133, _), (28, _), (144, _), (145, _), (146, _), (30, _), (31, _), (32, _), (33, _), (34, _)] Az := Hz.only [2, 3, 4, 5, 6, 8, 21, 131, 132, 133, 28, 144, 145, 146, 30, 31, 32, 33, 34]
     refine zsr fun K29 hK29 => ?_
     refine goCh Hz (.loadBR m280 (i := 28) rfl rfl U24 rfl fct2 (by simp) (by dsimp only [List.drop, List.take] <;> rfl) <| .move rfl <| .rem rfl rfl (by decide) (r := (kz : Int)) hkz <| .conv rfl U5 U3 (r := (kz : Int)) (IntWalk.i64_in _ (by omega)) <| .move rfl <| .move rfl <| .move rfl <| .rem rfl rfl (by decide) (r := (wz : Int)) hwz <| .conv rfl U5 U3 (r := (wz : Int)) (IntWalk.i64_in _ (by omega)) <| .nil) ?_
     clear Hz Az; intro Az Hz
     refine wpList_plain rfl (fun K hK => ?_)
     refine e_call Hz Try.func9 rfl rfl rfl rfl (pplan_q xv.bl xv.sz xv.fr xv.to (kz : Int) ((pq : Int) + 1) (wz : Int) xv.its _ _ _ pv _ _ _ _ (m280.rd (i := 35) rfl) ((m280.rd (i := 401) rfl).any) hxo hxl hpv) ?_
     rintro e w303 ⟨p303, c303, rfl, hd303, hb303⟩
     rw [hR2] at hd303 ⊢
     have m304 := m280.callD 404 rfl hb303 hd303
     clear m280
     clear hb303 hd303
     refine ⟨_, rfl, ?_⟩; clear Hz Az; intro Az Hz
     refine hK _ _ ?_; clear hK
     refine goCh Hz (.move rfl <| .extract rfl rfl <| .extract rfl rfl <| .assign rfl <| .assign rfl <| .nil) ?_
     clear Hz Az; intro Az Hz
     refine znl (hK29 _ _ ?_); clear hK29
     replace Hz : Has 214 [(2, _), (3, _), (4, _), (5, _), (6, _), (8, _), (21, _), (131, _), (132, _), (133, _), (28, _), (144, _), (145, _), (146, _), (30, _), (31, _), (32, _), (33, _), (34, _)] Az := Hz.only [2, 3, 4, 5, 6, 8, 21, 131, 132, 133, 28, 144, 145, 146, 30, 31, 32, 33, 34]
     refine zsr fun K30 hK30 => ?_
     refine goCh Hz (.loadBR m304 (i := 28) rfl rfl U24 rfl fct2 (by simp) (by dsimp only [List.drop, List.take] <;> rfl) <| .move rfl <| .rem rfl rfl (by decide) (r := (kz : Int)) hkz <| .conv rfl U5 U3 (r := (kz : Int)) (IntWalk.i64_in _ (by omega)) <| .move rfl <| .move rfl <| .move rfl <| .rem rfl rfl (by decide) (r := (wz : Int)) hwz <| .conv rfl U5 U3 (r := (wz : Int)) (IntWalk.i64_in _ (by omega)) <| .nil) ?_
     clear Hz Az; intro Az Hz
     refine wpList_plain rfl (fun K hK => ?_)
     refine e_call Hz Try.func11 rfl rfl rfl rfl (rplan_q xv.bl xv.sz xv.fr xv.to (kz : Int) ((pq : Int) + 1) (wz : Int) xv.its _ _ _ pv _ _ _ _ (m304.rd (i := 35) rfl) ((m304.rd (i := 401) rfl).any) hxo hxl hpv) ?_
     rintro e w330 ⟨p330, c330, rfl, hd330, hb330⟩
     rw [hR2] at hd330 ⊢
     have m331 := m304.callD 405 rfl hb330 hd330
     clear m304
     clear hb330 hd330
     refine ⟨_, rfl, ?_⟩; clear Hz Az; intro Az Hz
     refine hK _ _ ?_; clear hK
     refine goCh Hz (.move rfl <| .extract rfl rfl <| .extract rfl rfl <| .assign rfl <| .assign rfl <| .nil) ?_
     clear Hz Az; intro Az Hz
     refine znl (hK30 _ _ ?_); clear hK30
     replace Hz : Has 214 [(2, _), (3, _), (4, _), (5, _), (6, _), (8, _), (21, _), (131, _), (132, _), (133, _), (28, _), (144, _), (145, _), (146, _), (31, _), (32, _), (33, _), (34, _)] Az := Hz.only [2, 3, 4, 5, 6, 8, 21, 131, 132, 133, 28, 144, 145, 146, 31, 32, 33, 34]
     refine zsr fun K31 hK31 => ?_
     refine goCh Hz (.move rfl <| .move rfl <| .neq rfl rfl <| .move rfl <| .nil) ?_
     clear Hz Az; intro Az Hz
     refine bool_cases Hz (t := 206) rfl ?_ ?_
     · intro hb _; exact absurd hb (by first | (simp; done) | (simp [hR00]; done) | (simp; omega))
     clear Hz; intro _ Hz
     refine goCh Hz (.moveZ rfl <| .moveZ rfl <| .nil) ?_
     clear Hz Az; intro Az Hz
     refine st_ge Hz rfl rfl rfl rfl (fun K hK => ?_)
     refine e_call Hz Try.func12 rfl rfl rfl rfl (hcmds_any R2.1 _ _ _ _ _ _ _ ((m331.rd (i := 404) rfl).any) ((m331.rd (i := 405) rfl).any) hk2.1 hk2.2) ?_
     rintro e w350 ⟨rfl, hb350⟩
     have m351 := m331.later hb350
     clear m331
     clear hb350
     refine ⟨_, rfl, ?_⟩; clear Hz Az; intro Az Hz
     refine hK _ _ ?_; clear hK
     refine goCh Hz (.notZ rfl <| .pickF rfl rfl <| .nil) ?_
     clear Hz Az; intro Az Hz
     refine znl (hK31 _ _ ?_); clear hK31
     refine wp_cond_false (Hz.ev (x := .tmp 211) rfl) ?_
     refine zss (hK23 _ _ ?_); clear hK23
     replace Hz : Has 214 [(2, _), (3, _), (4, _), (5, _), (6, _), (8, _), (21, _), (131, _), (132, _), (133, _), (28, _), (144, _), (145, _), (146, _)] Az := Hz.only [2, 3, 4, 5, 6, 8, 21, 131, 132, 133, 28, 144, 145, 146]
     refine wp_region_lit ?_
     refine goCh Hz (.add rfl rfl (r := ((d9 + 1 : Nat) : Int)) (by rw [IntWalk.i64_in _ (by omega)]; omega) <| .move rfl <| .nil) ?_
     clear Hz Az; intro Az Hz
     refine wpList_nil ?_
     show ∃ n', n' < _ ∧ _
     exact ⟨2 - (d9 + 1), by omega, d9 + 1, _, _, _, _, _, _, _, _, _, by omega, rfl, Hz.only [2, 3, 4, 5, 6, 8, 21, 131, 132, 133, 28, 144, 145, 146], m351.ren [(62, 62), (34, 34), (28, 28), (35, 35), (36, 36)] (by decide)⟩
    clear Hz; intro hb223 Hz; try simp only [QQ, Qax] at hb223
    refine wp_cond_false (Hz.ev (x := .tmp 147) rfl) ?_
    refine wp_exit ?_
    refine hK19 _ _ ?_; clear hK19
    refine wp_region_lit ?_
    refine goCh Hz (.add rfl rfl (r := ((c9 + 1 : Nat) : Int)) (by rw [IntWalk.i64_in _ (by omega)]; omega) <| .move rfl <| .nil) ?_
    clear Hz Az; intro Az Hz
    refine wpList_nil ?_
    show ∃ n', n' < _ ∧ _
    exact ⟨3 - (c9 + 1), by omega, c9 + 1, _, _, _, _, by omega, rfl, Hz.only [2, 3, 4, 5, 6, 8, 21, 131, 132, 133], m221.ren [(62, 62), (34, 34)] (by decide)⟩
   clear Hz; intro hb192 Hz; try simp only [QQ, Qax] at hb192
   refine wp_cond_false (Hz.ev (x := .tmp 134) rfl) ?_
   refine wp_exit ?_
   refine hK16 _ _ ?_; clear hK16
   refine regS Hz (.assign rfl <| .nil) ?_
   clear Hz Az; intro Az Hz
   refine wp_ret ?_
   try dsimp only [Exit.then, Exit.inBlock]
   refine (ret1 (fn := Try.f3) Hz rfl rfl ?_)
   exact ⟨rfl, m190.below⟩
 refine regS Hz (.move rfl <| .rem rfl rfl (by decide) rfl <| .eql rfl rfl <| .nil) ?_
 clear Hz Az; intro Az Hz
 refine bool_cases Hz (t := 77) rfl ?_ ?_
 ·
  clear Hz; intro hb364 Hz; try simp only [QQ, Qax] at hb364
  refine wp_cond_true (Hz.ev (x := .tmp 77) rfl) ?_
  refine wp_region_lit ?_
  refine goCh Hz (.fieldAddr (off := 2) rfl U24 rfl (s := 0) (by kernel_rfl) rfl .nil) ?_
  clear Hz Az; intro Az Hz
  refine wpList_plain rfl (fun K hK => ?_)
  refine e_store1 Hz m100 102 rfl rfl rfl rfl rfl fct10 (by dsimp only [List.set] <;> rfl) ?_
  clear m100; intro w366 m366 hB366
  clear hB366
  refine hK _ _ ?_; clear hK
  refine wpList_nil ?_
  show K11 _ _
  exact hC11 _ _ ⟨_, _, _, _, _, _, by first | exact .inl rfl | exact .inr rfl, Hz.only [2, 3, 4, 5, 6, 8, 9, 20, 21, 22], m366.ren [(9, 9), (60, 60), (62, 62), (20, 101), (22, 102), (33, 100)] (by decide)⟩
 clear Hz; intro hb364 Hz; try simp only [QQ, Qax] at hb364
 refine wp_cond_false (Hz.ev (x := .tmp 77) rfl) ?_
 refine wp_skip ?_
 show K11 _ _
 exact hC11 _ _ ⟨_, _, _, _, _, _, by first | exact .inl rfl | exact .inr rfl, Hz.only [2, 3, 4, 5, 6, 8, 9, 20, 21, 22], m100.ren [(9, 9), (60, 60), (62, 62), (20, 101), (22, 102), (33, 100)] (by decide)⟩
end Go.Proofs.Ytkdnhndjjfjppaa.K
