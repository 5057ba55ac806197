/- IntakeCounts' walk. -/
import Derived.Test.YtkdnhndjjfjppaaInt3
namespace Go.Proofs.Ytkdnhndjjfjppaa.K
open Go.ChangeShapes Go.WideShapes Go.ChangeAt Go.RowKit
set_option linter.unusedVariables false
set_option linter.unusedSimpArgs false

theorem sz24icn : (Try.prog.info? 24).map (·.size) = some 5 := by kernel_rfl
theorem sz29icn : (Try.prog.info? 29).map (·.size) = some 2 := by kernel_rfl
theorem sz57icn : (Try.prog.info? 57).map (·.size) = some 10 := by kernel_rfl
theorem zc24icn : ((Try.prog.info? 24).bind (·.zero)).map (·.cells.toList) = some [.int .i64 0, .int .i64 0, .int .i64 0, .int .i64 0, .slice none 0 0] := by kernel_rfl

theorem tmod_n3 {a n : Int} (ha : 0 ≤ a) (hn : 0 < n) : ∃ x : Nat, a.tmod n = (x : Int) ∧ (x : Int) < n := by
 have h1 := Int.emod_nonneg a (show n ≠ 0 by omega)
 have h2 := Int.emod_lt_of_pos a hn
 exact ⟨(a % n).toNat, by rw [Int.tmod_eq_emod_of_nonneg ha]; omega, by omega⟩
theorem plan_end {bl : Int} {n T L : Nat} (h1 : 1 ≤ n) (hT : (bl + (n : Int) - 1) / (n : Int) = (T : Int)) (hL : (L : Int) = bl) : T * n ≥ L := by
 have q2 := Int.lt_ediv_add_one_mul_self (bl + (n : Int) - 1) (show 0 < (n : Int) by omega)
 rw [hT, Int.add_mul, Int.one_mul, ← Int.natCast_mul] at q2
 omega
theorem planL_imp {vo pe : Int} {pl : List Int} {bl sz : Int} {its : List (Int × List Int)} {n T i : Nat} (h : i < T) : (planL vo pe pl bl sz its n T)[i + 1]? = some (impR vo its n i) := by
 simp only [planL, List.cons_append, List.getElem?_cons_succ]
 rw [List.getElem?_append_left (by simpa using h)]
 simp [h]
theorem planL_end {vo pe : Int} {pl : List Int} {bl sz : Int} {its : List (Int × List Int)} {n T : Nat} : (planL vo pe pl bl sz its n T)[T + 1]? = some ⟨7, vo, 0, 0, 0, [], 0, 0, 0, []⟩ := by
 simp only [planL, List.cons_append, List.getElem?_cons_succ]
 rw [List.getElem?_append_right (by simp)]
 simp
theorem whole_row {S : List (List Int)} {its : List (Int × List Int)} {i : Nat} (h : wholeI S S.length = its) (hi : i < S.length) : (its.map itD)[i]? = some [.v (.int .i64 (i : Int)), .ns .u8 (S.getD i [])] := by
 rw [← h]; exact itD_get (wholeI_get hi)
theorem chunk_get {S : List (List Int)} {its : List (Int × List Int)} {vo : Int} {n k j : Nat} (h : wholeI S S.length = its) (hj : j < (chunkI its n k).length) : ((impR vo its n k).its.map itD)[j]? = some [.v (.int .i64 ((k * n + j : Nat) : Int)), .ns .u8 (S.getD (k * n + j) [])] := by
 have hl : its.length = S.length := by rw [← h, wholeI_len]
 have hj' : j < min ((k + 1) * n) its.length - k * n := by rw [chunkI, List.length_drop, List.length_take] at hj; omega
 refine itD_get ?_
 show (chunkI its n k)[j]? = _
 rw [chunkI, List.getElem?_drop, List.getElem?_take, if_pos (by omega), ← h]
 exact wholeI_get (by omega)
set_option maxRecDepth 100000
set_option maxHeartbeats 4000000
theorem counts_walk (l : List Int) (pl : Option Addr) (cl : Nat) (p9 n9 k9 : Int) (w0 : World) (h1 : Rd (fun _ => True) w0 (.slice pl l.length cl) (.ns .u8 l)) (hlb : ∀ j, j < l.length → 0 ≤ l.getD j 0 ∧ l.getD j 0 ≤ 255) (hp9 : 0 ≤ p9 ∧ p9 ≤ 255) (hn9 : 0 ≤ n9 ∧ n9 ≤ 255) (hk9 : 0 ≤ k9 ∧ k9 ≤ 255) :
   Calls Try.prog 5 #[.slice pl l.length cl, .int .u8 p9, .int .u8 n9, .int .u8 k9] w0 fun e w' => e = .returned (.bool true) ∧ Below w0.heap.size w0 w' := by
 refine enter (fn := Try.f5) Try.func5 rfl Try.ntmps5 rfl (fun Az Hz => ?_)
 simp only [List.zipIdx_cons, List.zipIdx_nil, List.map_cons, List.map_nil, Nat.reduceAdd, Nat.zero_add] at Hz
 have m0 := MemOk.start (fun _ => False) w0
 refine regS Hz (.assign rfl <| .nil) ?_
 clear Hz Az; intro Az Hz
 refine wp_seq_k (fun K0 hK0 => ?_)
 refine wp_seq_k (fun K1 hK1 => ?_)
 refine wp_region_lit ?_
 refine wpList_plain rfl (fun K hK => ?_)
 refine e_call Hz Try.func7 rfl rfl rfl rfl (iknown_any _) ?_
 rintro e w2 ⟨rfl, hb2⟩
 have m3 := m0.later hb2
 clear m0
 clear hb2
 refine ⟨_, rfl, ?_⟩; clear Hz Az; intro Az Hz
 refine hK _ _ ?_; clear hK K
 refine goCh Hz (.not rfl .nil) ?_
 clear Hz Az; intro Az Hz
 refine wpList_nil ?_
 refine hK1 _ _ ?_; clear hK1; try clear K1
 refine wp_cond_false (Hz.ev (x := .tmp 18) rfl) ?_
 refine wp_skip ?_
 refine hK0 _ _ ?_; clear hK0; try clear K0
 refine wp_seq_k (fun K2 hK2 => ?_)
 refine regS Hz (.move rfl <| .len rfl Try.underlying25 <| .gtr rfl rfl <| .nil) ?_
 clear Hz Az; intro Az Hz
 refine bool_cases Hz (t := 21) rfl ?_ ?_
 ·
  clear Hz; intro hb9 Hz
  try simp only [Q1x, Q2x, Q3x, Q4x, Q5x, Q6x, Q7x, Q8x, Q9x, Q0x, Qax, Qbx] at hb9
  refine wp_cond_true (Hz.ev (x := .tmp 21) rfl) ?_
  refine regS Hz (.assign rfl <| .nil) ?_
  clear Hz Az; intro Az Hz
  refine wp_ret ?_
  try dsimp only [Exit.then, Exit.inBlock]
  refine (ret1 (fn := Try.f5) Hz rfl rfl ?_)
  exact ⟨by first | rfl | simp, m3.below⟩
 ·
  clear Hz; intro hb9 Hz
  try simp only [Q1x, Q2x, Q3x, Q4x, Q5x, Q6x, Q7x, Q8x, Q9x, Q0x, Qax, Qbx] at hb9
  have hl60 : l.length ≤ 60 := by have := hb9; first | omega | (simp at this; omega)
  refine wp_cond_false (Hz.ev (x := .tmp 21) rfl) ?_
  refine wp_skip ?_
  refine hK2 _ _ ?_; clear hK2; try clear K2
  refine wp_seq_k (fun K3 hK3 => ?_)
  refine wp_region_lit ?_
  refine goCh Hz (.move rfl .nil) ?_
  clear Hz Az; intro Az Hz
  refine wpList_plain rfl (fun K hK => ?_)
  refine e_call Hz Try.func8 rfl rfl rfl rfl (whole_any l _ _ _ ((h1.now' m3 rfl).any) hl60 hlb) ?_
  rintro e w13 ⟨y, S, p13, c13, rfl, hS, hSl, hSz, hd13, hb13⟩
  have m14 := m3.callF 70 rfl hb13 hd13
  clear m3
  clear hb13 hd13
  have hS0 := hS
  have hsm := hS.sm
  obtain ⟨hV, hh0, hpn9, hws9⟩ := hS0
  obtain ⟨v1, v2, v3, v4, v5, v6, v7, v8, v9⟩ := hV
  obtain ⟨n1, n2, n3, n4, n5, n6, n7, n8, n9q, n10, n11⟩ := v1
  refine ⟨_, rfl, ?_⟩; clear Hz Az; intro Az Hz
  refine hK _ _ ?_; clear hK K
  obtain ⟨pq, hpq, hpq2⟩ := tmod_n3 (a := p9) (n := y.bl) hp9.1 (by omega)
  obtain ⟨nq, hnq, hnq2⟩ := tmod_n3 (a := n9) (n := 8) hn9.1 (by decide)
  obtain ⟨kq, hkq, hkq2⟩ := tmod_n3 (a := k9) (n := 8) hk9.1 (by decide)
  obtain ⟨its, hits⟩ : ∃ x, wholeI S S.length = x := ⟨_, rfl⟩
  have hil : its.length = S.length := by rw [← hits, wholeI_len]
  have hso : StreamOk y.bl y.sz (-1) y.ws.length its := by rw [← hits]; exact whole_ok hS (by omega) hSl hSz
  have hio : ItsOk its := fun e he => by
    obtain ⟨j, hj, rfl⟩ := List.getElem_of_mem he
    have := (hso.i j _ (List.getElem?_eq_getElem hj)).2.2
    omega
  obtain ⟨T, hT⟩ : ∃ T : Nat, (y.bl + ((nq + 1 : Nat) : Int) - 1) / ((nq + 1 : Nat) : Int) = (T : Int) := by
    have q0 : 0 ≤ (y.bl + ((nq + 1 : Nat) : Int) - 1) / ((nq + 1 : Nat) : Int) := Int.ediv_nonneg (by omega) (by omega)
    exact ⟨((y.bl + ((nq + 1 : Nat) : Int) - 1) / ((nq + 1 : Nat) : Int)).toNat, by omega⟩
  have hTb : T ≤ 256 := plan_T (n := nq + 1) (by omega) ⟨n3, n4⟩ hT
  have hTe : T * (nq + 1) ≥ S.length := plan_end (by omega) hT hSl
  rw [hits, ← hil] at m14
  rw [← hil] at Hz
  refine wpList_plain rfl (fun K hK => ?_)
  refine e_alloc Hz m14 71 zc24icn rfl ?_
  clear Hz Az m14; intro g16 Az w17 Hz m17 hB17 hg17
  clear hB17 hg17
  refine hK _ _ ?_; clear hK K
  refine wpList_plain rfl (fun K hK => ?_)
  refine e_storeW Hz m17 71 rfl rfl rfl rfl rfl sz24icn ?_
  clear m17; intro w18 m18 hB18
  clear hB18
  refine hK _ _ ?_; clear hK K
  refine wpList_nil ?_
  refine hK3 _ _ ?_; clear hK3; try clear K3
  replace Hz : Has 184 [(1, _), (2, _), (3, _), (8, _), (9, _)] Az := Hz.only [1, 2, 3, 8, 9]
  refine regS Hz (.move rfl <| .conv rfl Try.underlying5 Try.underlying3 (IntWalk.i64_in _ (by omega)) <| .fieldAddr (off := 0) rfl Try.underlying24 rfl (s := 0) (by kernel_rfl) rfl <| .loadB1 m18 (i := 71) rfl rfl rfl Try.underlying3 rfl <| .rem rfl rfl (by omega) (r := (pq : Int)) hpq <| .add rfl rfl (r := (pq : Int) + 1) (IntWalk.i64_in _ (by omega)) <| .move rfl <| .rem rfl rfl (by decide) (r := (nq : Int)) hnq <| .conv rfl Try.underlying5 Try.underlying3 (r := (nq : Int)) (IntWalk.i64_in _ (by omega)) <| .add rfl rfl (r := ((nq + 1 : Nat) : Int)) (by rw [IntWalk.i64_in _ (by omega)]; omega) <| .assign rfl <| .assign rfl <| .nil) ?_
  clear Hz Az; intro Az Hz
  refine wp_seq_k (fun K4 hK4 => ?_)
  replace Hz : Has 184 [(3, _), (8, _), (9, _), (10, _), (11, _)] Az := Hz.only [3, 8, 9, 10, 11]
  have m33 : MemOk _ _ [(70, _), (71, _)] _ := m18.only [70, 71]; clear m18
  refine region_p 17 (B := [(70, _), (71, _)]) (m33.to ⟨il, il, trivial⟩) m33 (by kernel_rfl) (fun w34 hP34 m34 => ?_); clear m33
  refine goR hP34 [0, 1, 2, 3, 4, 5, 6, 7, 8, 10] [0, 6] 10 0 1535 Hz (m34.to ⟨il, il, trivial⟩) (.loadBR hh (i := 71) rfl rfl Try.underlying24 rfl sz24icn (by simp) (by dsimp only [List.drop, List.take] <;> rfl) <| .move rfl <| .rem rfl rfl (by decide) (r := (kq : Int)) hkq <| .conv rfl Try.underlying5 Try.underlying3 (r := (kq : Int)) (IntWalk.i64_in _ (by omega)) <| .move rfl <| .fieldAddr (off := 0) rfl Try.underlying24 rfl (s := 0) (by kernel_rfl) rfl <| .loadB1 hh (i := 71) rfl rfl rfl Try.underlying3 rfl <| .move rfl <| .move rfl <| .move rfl <| .nil) ?_
  clear Hz Az; intro Az Hz
  refine stepE_only 9 rfl (by kernel_rfl) rfl (fun K hK => ?_)
  refine e_call Hz Try.func10 rfl rfl rfl rfl (iplace_any y.bl ((pq : Int) + 1) k9 _ (by omega) (by omega) ⟨by omega, by omega⟩ hk9) ?_
  rintro e w45 ⟨pl9, p45, c45, rfl, hpo, hpl9, hd45, hb45⟩
  have m46 := m34.callF 72 rfl hb45 hd45
  clear m34
  clear hb45 hd45
  refine ⟨_, rfl, ?_⟩; clear Hz Az; intro Az Hz
  refine hK _ _ (m46.to ⟨il, il, trivial⟩) ?_; clear hK K
  refine stepE_only 11 rfl (by kernel_rfl) rfl (fun K hK => ?_)
  refine e_call Hz Try.func9 rfl rfl rfl rfl (plan_yes y.bl y.sz (-1) _ (kq : Int) ((pq : Int) + 1) its _ _ _ pl9 _ _ (nq + 1) T _ _ (m46.rd (i := 70) rfl) ((m46.rd (i := 72) rfl).any) hso hio (by omega) (by omega) (by omega) hT rfl ⟨by omega, by omega, by omega, by omega, by omega, by omega, by omega, by omega, hpo, by omega, by omega⟩) ?_
  rintro e w48 ⟨p48, c48, rfl, hd48, hb48⟩
  obtain ⟨cs, hcs⟩ : ∃ x, planL (kq : Int) ((pq : Int) + 1) pl9 y.bl y.sz its (nq + 1) T = x := ⟨_, rfl⟩
  have hcl : cs.length = T + 2 := by rw [← hcs, planL_len]
  have hc0 : cs[0]? = some (planH (kq : Int) ((pq : Int) + 1) pl9 y.bl y.sz T) := by rw [← hcs]; rfl
  have hci : ∀ i, i < T → cs[i + 1]? = some (impR (kq : Int) its (nq + 1) i) := fun i hi => by rw [← hcs]; exact planL_imp hi
  have hce : cs[T + 1]? = some ⟨7, (kq : Int), 0, 0, 0, [], 0, 0, 0, []⟩ := by rw [← hcs]; exact planL_end
  rw [hcs] at hd48 ⊢
  have m49 := m46.callD 73 rfl hb48 hd48
  clear m46
  clear hb48 hd48
  refine ⟨_, rfl, ?_⟩; clear Hz Az; intro Az Hz
  refine hK _ _ (m49.to ⟨il, il, trivial⟩) ?_; clear hK K
  refine goA hP34 [12, 13, 14, 15, 16] 5 4095 131071 Hz (m49.to ⟨il, il, trivial⟩) (.move rfl <| .extract rfl rfl <| .extract rfl rfl <| .assign rfl <| .assign rfl <| .nil) ?_
  clear Hz Az; intro Az Hz
  refine wpAnyE_done (by kernel_rfl) ?_ _
  refine hK4 _ _ ?_; clear hK4; try clear K4
  refine wp_seq_k (fun K5 hK5 => ?_)
  replace Hz : Has 184 [(3, _), (8, _), (9, _), (11, _), (12, _), (13, _)] Az := Hz.only [3, 8, 9, 11, 12, 13]
  refine wp_seq_k (fun K6 hK6 => ?_)
  refine wp_region_lit ?_
  refine goCh Hz (.move rfl <| .neq rfl rfl <| .move rfl <| .nil) ?_
  clear Hz Az; intro Az Hz
  refine bool_cases Hz (t := 51) rfl ?_ ?_
  · intro hb _; exact absurd hb (by simp)
  clear Hz; intro _ Hz
  refine goCh Hz (.moveZ rfl <| .lenZ rfl Try.underlying31 <| .fieldAddrZ (off := 0) rfl Try.underlying24 rfl (s := 0) (by kernel_rfl) rfl <| .loadB1Z m49 (i := 71) rfl rfl rfl Try.underlying3 rfl <| .moveZ rfl <| .addZ rfl rfl (r := y.bl + ((nq + 1 : Nat) : Int)) (IntWalk.i64_in _ (by omega)) <| .subZ rfl rfl (r := y.bl + ((nq + 1 : Nat) : Int) - 1) (IntWalk.i64_in _ (by omega)) <| .moveZ rfl <| .quoZ rfl rfl (by omega) (r := (T : Int)) (by rw [Int.tdiv_eq_ediv_of_nonneg (by omega), hT]; exact IntWalk.i64_in _ (by omega)) <| .addZ rfl rfl (r := 2 + (T : Int)) (IntWalk.i64_in _ (by omega)) <| .neqZ rfl rfl <| .pickF rfl rfl <| .move rfl <| .nil) ?_
  clear Hz Az; intro Az Hz
  refine bool_cases Hz (t := 64) rfl ?_ ?_
  · intro hb _; exact absurd hb (by simp; omega)
  clear Hz; intro _ Hz
  refine goCh Hz (.moveZ rfl .nil) ?_
  clear Hz Az; intro Az Hz
  obtain ⟨b79, o79, vs79, hp79, hR79, ho79, m79⟩ := m49.openR (i := 73) rfl (0) (r := [.v (.int .i64 (planH (kq : Int) ((pq : Int) + 1) pl9 y.bl y.sz T).kd), .v (.int .i64 (planH (kq : Int) ((pq : Int) + 1) pl9 y.bl y.sz T).vo), .v (.int .i64 (planH (kq : Int) ((pq : Int) + 1) pl9 y.bl y.sz T).bl), .v (.int .i64 (planH (kq : Int) ((pq : Int) + 1) pl9 y.bl y.sz T).sz), .v (.int .i64 (planH (kq : Int) ((pq : Int) + 1) pl9 y.bl y.sz T).pe), .ns .i64 (planH (kq : Int) ((pq : Int) + 1) pl9 y.bl y.sz T).pl, .v (.int .i64 (planH (kq : Int) ((pq : Int) + 1) pl9 y.bl y.sz T).to), .v (.int .i64 (planH (kq : Int) ((pq : Int) + 1) pl9 y.bl y.sz T).at0), .v (.int .i64 (planH (kq : Int) ((pq : Int) + 1) pl9 y.bl y.sz T).ix), .l 2 ((planH (kq : Int) ((pq : Int) + 1) pl9 y.bl y.sz T).its.map itD)]) (cmdD_get hc0) 74 rfl
  cases hp79; clear m49 ho79
  rcases hR79 with _ | ⟨hd79_0, _ | ⟨hd79_1, _ | ⟨hd79_2, _ | ⟨hd79_3, _ | ⟨hd79_4, _ | ⟨hd79_5, _ | ⟨hd79_6, _ | ⟨hd79_7, _ | ⟨hd79_8, _ | ⟨hd79_9, _ | _⟩⟩⟩⟩⟩⟩⟩⟩⟩⟩
  obtain rfl := hd79_0.v_out
  clear hd79_0
  obtain rfl := hd79_1.v_out
  clear hd79_1
  obtain rfl := hd79_2.v_out
  clear hd79_2
  obtain rfl := hd79_3.v_out
  clear hd79_3
  obtain rfl := hd79_4.v_out
  clear hd79_4
  obtain ⟨p80, c80, hv80, hc80⟩ := hd79_5.ns_shape; subst hv80
  have m80 := m79.dat 75 rfl (hd79_5.cast (fun _ h => (free_add rfl h))); clear m79 hd79_5
  obtain rfl := hd79_6.v_out
  clear hd79_6
  obtain rfl := hd79_7.v_out
  clear hd79_7
  obtain rfl := hd79_8.v_out
  clear hd79_8
  obtain ⟨p81, c81, hv81, hc81⟩ := hd79_9.l_shape; subst hv81
  have m81 := m80.dat 76 rfl (hd79_9.cast (fun _ h => (free_add rfl (free_add rfl h)))); clear m80 hd79_9
  refine goCh Hz (.g rfl rfl rfl rfl (fun _ h => y_idx h rfl rfl Try.underlying31 sz57icn (0) rfl (by omega)) <| .fieldAddrQZ 6 rfl Try.underlying57 rfl (s := 0) (by kernel_rfl) rfl <| .loadC1Z m81 (i := 74) (q := 6) rfl rfl rfl Try.underlying3 rfl <| .moveZ rfl <| .lenZ rfl Try.underlying31 <| .subZ rfl rfl (r := (T : Int)) (by rw [hcl, IntWalk.i64_in _ (by omega)]; omega) <| .neqZ rfl rfl <| .pickF rfl rfl <| .nil) ?_
  clear Hz Az; intro Az Hz
  refine wpList_nil ?_
  refine hK6 _ _ ?_; clear hK6; try clear K6
  refine bool_cases Hz (t := 73) rfl ?_ ?_
  · intro hb _; exact absurd hb (by simp [planH])
  clear Hz; intro _ Hz
  refine wp_cond_false (Hz.ev (x := .tmp 73) rfl) ?_
  refine wp_skip ?_
  refine hK5 _ _ ?_; clear hK5; try clear K5
  replace Hz : Has 184 [(3, _), (8, _), (9, _), (11, _), (12, _)] Az := Hz.only [3, 8, 9, 11, 12]
  refine regS Hz (.assign rfl <| .nil) ?_
  clear Hz Az; intro Az Hz
  refine wp_seq_k (fun K7 hK7 => ?_)
  refine regS Hz (.assign rfl <| .nil) ?_
  clear Hz Az; intro Az Hz
  refine wp_block ?_
  refine wp_loop_ghost (fun g a w => ∃ (k : Nat) (B9 : Nat) (pi pc : Option Addr) (ci cc : Nat), k ≤ T ∧ g = T - k ∧ Has 184 [(3, .int .u8 k9), (9, .pointer (some ⟨B9, 0, none⟩)), (11, .int .i64 ((nq + 1 : Nat) : Int)), (12, .slice pc cs.length cc), (14, .int .i64 ((min (k * (nq + 1)) its.length : Nat) : Int)), (15, .int .i64 ((k + 1 : Nat) : Int))] a ∧ MemOk (cn w0) w0 [(1, .box B9 24 [.int .i64 y.bl, .int .i64 y.sz, .int .i64 (-1), .int .i64 y.ws.length, .slice pi its.length ci]), (2, .dat (.slice pi its.length ci) (.l 2 (its.map itD))), (3, .dat (.slice pc cs.length cc) (.l 10 (cs.map cmdD)))] w) (T) ?_ ?_
  · exact ⟨0, _, _, _, _, _, Nat.zero_le _, rfl, by have h9 := Hz.only [3, 9, 11, 12, 14, 15]; rw [show ((min (0 * (nq + 1)) its.length : Nat) : Int) = 0 from by simp]; exact h9, m81.ren [(1, 71), (2, 70), (3, 73)] (by decide)⟩
  ·
   clear Hz m81
   rintro g Az w94 ⟨k, B9, pi, pc, ci, cc, hkl, hg, Hz, m94⟩
   refine wp_seq_k (fun K8 hK8 => ?_)
   refine regS Hz (.move rfl <| .move rfl <| .len rfl Try.underlying31 <| .sub rfl rfl (r := (T : Int) + 1) (by rw [hcl, IntWalk.i64_in _ (by omega)]; omega) <| .lss rfl rfl <| .nil) ?_
   clear Hz Az; intro Az Hz
   refine bool_cases Hz (t := 78) rfl ?_ ?_
   ·
    clear Hz; intro hb100 Hz
    try simp only [Q1x, Q2x, Q3x, Q4x, Q5x, Q6x, Q7x, Q8x, Q9x, Q0x, Qax, Qbx] at hb100
    have hk : k < T := by have := hb100; first | omega | (simp at this; omega)
    obtain ⟨hkn, hkn1, hkn2, hkn3, hkn4⟩ := plan_math (n := nq + 1) (its := its) (by omega) (by omega) hT hTb (by rw [hil]; exact hSl) hk
    have hcl9 : (chunkI its (nq + 1) k).length = min ((k + 1) * (nq + 1)) its.length - k * (nq + 1) := by rw [chunkI, List.length_drop, List.length_take]; omega
    have hk1 : (k + 1) * (nq + 1) = k * (nq + 1) + (nq + 1) := Nat.succ_mul k (nq + 1)
    refine wp_cond_true (Hz.ev (x := .tmp 78) rfl) ?_
    refine wp_skip ?_
    refine hK8 _ _ ?_; clear hK8; try clear K8
    refine wp_seq_k (fun K9 hK9 => ?_)
    refine wp_block ?_
    refine wp_seq_k (fun K10 hK10 => ?_)
    refine wp_seq_k (fun K11 hK11 => ?_)
    refine wp_region_lit ?_
    refine goCh Hz (.move rfl <| .move rfl <| .nil) ?_
    clear Hz Az; intro Az Hz
    obtain ⟨b106, o106, vs106, hp106, hR106, ho106, m106⟩ := m94.openR (i := 3) rfl ((k + 1)) (r := [.v (.int .i64 (impR (kq : Int) its (nq + 1) k).kd), .v (.int .i64 (impR (kq : Int) its (nq + 1) k).vo), .v (.int .i64 (impR (kq : Int) its (nq + 1) k).bl), .v (.int .i64 (impR (kq : Int) its (nq + 1) k).sz), .v (.int .i64 (impR (kq : Int) its (nq + 1) k).pe), .ns .i64 (impR (kq : Int) its (nq + 1) k).pl, .v (.int .i64 (impR (kq : Int) its (nq + 1) k).to), .v (.int .i64 (impR (kq : Int) its (nq + 1) k).at0), .v (.int .i64 (impR (kq : Int) its (nq + 1) k).ix), .l 2 ((impR (kq : Int) its (nq + 1) k).its.map itD)]) (cmdD_get (hci k hk)) 100 rfl
    cases hp106; clear m94 ho106
    rcases hR106 with _ | ⟨hd106_0, _ | ⟨hd106_1, _ | ⟨hd106_2, _ | ⟨hd106_3, _ | ⟨hd106_4, _ | ⟨hd106_5, _ | ⟨hd106_6, _ | ⟨hd106_7, _ | ⟨hd106_8, _ | ⟨hd106_9, _ | _⟩⟩⟩⟩⟩⟩⟩⟩⟩⟩
    obtain rfl := hd106_0.v_out
    clear hd106_0
    obtain rfl := hd106_1.v_out
    clear hd106_1
    obtain rfl := hd106_2.v_out
    clear hd106_2
    obtain rfl := hd106_3.v_out
    clear hd106_3
    obtain rfl := hd106_4.v_out
    clear hd106_4
    obtain ⟨p107, c107, hv107, hc107⟩ := hd106_5.ns_shape; subst hv107
    have m107 := m106.dat 101 rfl (hd106_5.cast (fun _ h => (free_add rfl h))); clear m106 hd106_5
    obtain rfl := hd106_6.v_out
    clear hd106_6
    obtain rfl := hd106_7.v_out
    clear hd106_7
    obtain rfl := hd106_8.v_out
    clear hd106_8
    obtain ⟨p108, c108, hv108, hc108⟩ := hd106_9.l_shape; subst hv108
    have m108 := m107.dat 102 rfl (hd106_9.cast (fun _ h => (free_add rfl (free_add rfl h)))); clear m107 hd106_9
    refine goCh Hz (.c rfl (fun _ h => y_idx h rfl rfl Try.underlying31 sz57icn ((k + 1)) rfl (by omega)) <| .fieldAddrQ 0 rfl Try.underlying57 rfl (s := 0) (by kernel_rfl) rfl <| .loadC0 m108 (i := 100) rfl rfl Try.underlying3 rfl <| .neq rfl rfl <| .move rfl <| .nil) ?_
    clear Hz Az; intro Az Hz
    refine bool_cases Hz (t := 87) rfl ?_ ?_
    · intro hb _; exact absurd hb (by simp [impR])
    clear Hz; intro _ Hz
    refine goCh Hz (.moveZ rfl <| .moveZ rfl <| .nil) ?_
    clear Hz Az; intro Az Hz
    obtain ⟨b117, o117, vs117, hp117, hR117, ho117, m117⟩ := m108.openR (i := 3) rfl ((k + 1)) (r := [.v (.int .i64 (impR (kq : Int) its (nq + 1) k).kd), .v (.int .i64 (impR (kq : Int) its (nq + 1) k).vo), .v (.int .i64 (impR (kq : Int) its (nq + 1) k).bl), .v (.int .i64 (impR (kq : Int) its (nq + 1) k).sz), .v (.int .i64 (impR (kq : Int) its (nq + 1) k).pe), .ns .i64 (impR (kq : Int) its (nq + 1) k).pl, .v (.int .i64 (impR (kq : Int) its (nq + 1) k).to), .v (.int .i64 (impR (kq : Int) its (nq + 1) k).at0), .v (.int .i64 (impR (kq : Int) its (nq + 1) k).ix), .l 2 ((impR (kq : Int) its (nq + 1) k).its.map itD)]) (cmdD_get (hci k hk)) 103 rfl
    cases hp117; clear m108 ho117
    rcases hR117 with _ | ⟨hd117_0, _ | ⟨hd117_1, _ | ⟨hd117_2, _ | ⟨hd117_3, _ | ⟨hd117_4, _ | ⟨hd117_5, _ | ⟨hd117_6, _ | ⟨hd117_7, _ | ⟨hd117_8, _ | ⟨hd117_9, _ | _⟩⟩⟩⟩⟩⟩⟩⟩⟩⟩
    obtain rfl := hd117_0.v_out
    clear hd117_0
    obtain rfl := hd117_1.v_out
    clear hd117_1
    obtain rfl := hd117_2.v_out
    clear hd117_2
    obtain rfl := hd117_3.v_out
    clear hd117_3
    obtain rfl := hd117_4.v_out
    clear hd117_4
    obtain ⟨p118, c118, hv118, hc118⟩ := hd117_5.ns_shape; subst hv118
    have m118 := m117.dat 104 rfl (hd117_5.cast (fun _ h => (free_add rfl h))); clear m117 hd117_5
    obtain rfl := hd117_6.v_out
    clear hd117_6
    obtain rfl := hd117_7.v_out
    clear hd117_7
    obtain rfl := hd117_8.v_out
    clear hd117_8
    obtain ⟨p119, c119, hv119, hc119⟩ := hd117_9.l_shape; subst hv119
    have m119 := m118.dat 105 rfl (hd117_9.cast (fun _ h => (free_add rfl (free_add rfl h)))); clear m118 hd117_9
    refine goCh Hz (.g rfl rfl rfl rfl (fun _ h => y_idx h rfl rfl Try.underlying31 sz57icn ((k + 1)) rfl (by omega)) <| .fieldAddrQZ 8 rfl Try.underlying57 rfl (s := 0) (by kernel_rfl) rfl <| .loadC1Z m119 (i := 103) (q := 8) rfl rfl rfl Try.underlying3 rfl <| .moveZ rfl <| .subZ rfl rfl (r := (k : Int)) (by rw [IntWalk.i64_in _ (by omega)]; omega) <| .neqZ rfl rfl <| .pickF rfl rfl <| .move rfl <| .nil) ?_
    clear Hz Az; intro Az Hz
    refine bool_cases Hz (t := 97) rfl ?_ ?_
    · intro hb _; exact absurd hb (by simp [impR])
    clear Hz; intro _ Hz
    refine goCh Hz (.moveZ rfl <| .moveZ rfl <| .nil) ?_
    clear Hz Az; intro Az Hz
    obtain ⟨b131, o131, vs131, hp131, hR131, ho131, m131⟩ := m119.openR (i := 3) rfl ((k + 1)) (r := [.v (.int .i64 (impR (kq : Int) its (nq + 1) k).kd), .v (.int .i64 (impR (kq : Int) its (nq + 1) k).vo), .v (.int .i64 (impR (kq : Int) its (nq + 1) k).bl), .v (.int .i64 (impR (kq : Int) its (nq + 1) k).sz), .v (.int .i64 (impR (kq : Int) its (nq + 1) k).pe), .ns .i64 (impR (kq : Int) its (nq + 1) k).pl, .v (.int .i64 (impR (kq : Int) its (nq + 1) k).to), .v (.int .i64 (impR (kq : Int) its (nq + 1) k).at0), .v (.int .i64 (impR (kq : Int) its (nq + 1) k).ix), .l 2 ((impR (kq : Int) its (nq + 1) k).its.map itD)]) (cmdD_get (hci k hk)) 106 rfl
    cases hp131; clear m119 ho131
    rcases hR131 with _ | ⟨hd131_0, _ | ⟨hd131_1, _ | ⟨hd131_2, _ | ⟨hd131_3, _ | ⟨hd131_4, _ | ⟨hd131_5, _ | ⟨hd131_6, _ | ⟨hd131_7, _ | ⟨hd131_8, _ | ⟨hd131_9, _ | _⟩⟩⟩⟩⟩⟩⟩⟩⟩⟩
    obtain rfl := hd131_0.v_out
    clear hd131_0
    obtain rfl := hd131_1.v_out
    clear hd131_1
    obtain rfl := hd131_2.v_out
    clear hd131_2
    obtain rfl := hd131_3.v_out
    clear hd131_3
    obtain rfl := hd131_4.v_out
    clear hd131_4
    obtain ⟨p132, c132, hv132, hc132⟩ := hd131_5.ns_shape; subst hv132
    have m132 := m131.dat 107 rfl (hd131_5.cast (fun _ h => (free_add rfl h))); clear m131 hd131_5
    obtain rfl := hd131_6.v_out
    clear hd131_6
    obtain rfl := hd131_7.v_out
    clear hd131_7
    obtain rfl := hd131_8.v_out
    clear hd131_8
    obtain ⟨p133, c133, hv133, hc133⟩ := hd131_9.l_shape; subst hv133
    have m133 := m132.dat 108 rfl (hd131_9.cast (fun _ h => (free_add rfl (free_add rfl h)))); clear m132 hd131_9
    refine goCh Hz (.g rfl rfl rfl rfl (fun _ h => y_idx h rfl rfl Try.underlying31 sz57icn ((k + 1)) rfl (by omega)) <| .fieldAddrQZ 1 rfl Try.underlying57 rfl (s := 0) (by kernel_rfl) rfl <| .loadC1Z m133 (i := 106) (q := 1) rfl rfl rfl Try.underlying3 rfl <| .moveZ rfl <| .remZ rfl rfl (by decide) (r := (kq : Int)) hkq <| .convZ rfl Try.underlying5 Try.underlying3 (r := (kq : Int)) (IntWalk.i64_in _ (by omega)) <| .neqZ rfl rfl <| .pickF rfl rfl <| .move rfl <| .nil) ?_
    clear Hz Az; intro Az Hz
    refine bool_cases Hz (t := 108) rfl ?_ ?_
    · intro hb _; exact absurd hb (by simp [impR])
    clear Hz; intro _ Hz
    refine goCh Hz (.moveZ rfl <| .moveZ rfl <| .nil) ?_
    clear Hz Az; intro Az Hz
    obtain ⟨b146, o146, vs146, hp146, hR146, ho146, m146⟩ := m133.openR (i := 3) rfl ((k + 1)) (r := [.v (.int .i64 (impR (kq : Int) its (nq + 1) k).kd), .v (.int .i64 (impR (kq : Int) its (nq + 1) k).vo), .v (.int .i64 (impR (kq : Int) its (nq + 1) k).bl), .v (.int .i64 (impR (kq : Int) its (nq + 1) k).sz), .v (.int .i64 (impR (kq : Int) its (nq + 1) k).pe), .ns .i64 (impR (kq : Int) its (nq + 1) k).pl, .v (.int .i64 (impR (kq : Int) its (nq + 1) k).to), .v (.int .i64 (impR (kq : Int) its (nq + 1) k).at0), .v (.int .i64 (impR (kq : Int) its (nq + 1) k).ix), .l 2 ((impR (kq : Int) its (nq + 1) k).its.map itD)]) (cmdD_get (hci k hk)) 109 rfl
    cases hp146; clear m133 ho146
    rcases hR146 with _ | ⟨hd146_0, _ | ⟨hd146_1, _ | ⟨hd146_2, _ | ⟨hd146_3, _ | ⟨hd146_4, _ | ⟨hd146_5, _ | ⟨hd146_6, _ | ⟨hd146_7, _ | ⟨hd146_8, _ | ⟨hd146_9, _ | _⟩⟩⟩⟩⟩⟩⟩⟩⟩⟩
    obtain rfl := hd146_0.v_out
    clear hd146_0
    obtain rfl := hd146_1.v_out
    clear hd146_1
    obtain rfl := hd146_2.v_out
    clear hd146_2
    obtain rfl := hd146_3.v_out
    clear hd146_3
    obtain rfl := hd146_4.v_out
    clear hd146_4
    obtain ⟨p147, c147, hv147, hc147⟩ := hd146_5.ns_shape; subst hv147
    have m147 := m146.dat 110 rfl (hd146_5.cast (fun _ h => (free_add rfl h))); clear m146 hd146_5
    obtain rfl := hd146_6.v_out
    clear hd146_6
    obtain rfl := hd146_7.v_out
    clear hd146_7
    obtain rfl := hd146_8.v_out
    clear hd146_8
    obtain ⟨p148, c148, hv148, hc148⟩ := hd146_9.l_shape; subst hv148
    have m148 := m147.dat 111 rfl (hd146_9.cast (fun _ h => (free_add rfl (free_add rfl h)))); clear m147 hd146_9
    refine goCh Hz (.g rfl rfl rfl rfl (fun _ h => y_idx h rfl rfl Try.underlying31 sz57icn ((k + 1)) rfl (by omega)) <| .fieldAddrQZ 9 rfl Try.underlying57 rfl (s := 0) (by kernel_rfl) rfl <| .loadC1Z m148 (i := 109) (q := 9) rfl rfl rfl Try.underlying22 rfl <| .lenZ rfl Try.underlying22 <| .lssZ rfl rfl <| .pickF rfl rfl <| .move rfl <| .nil) ?_
    clear Hz Az; intro Az Hz
    refine bool_cases Hz (t := 117) rfl ?_ ?_
    · intro hb _; exact absurd hb (by simp [impR]; omega)
    clear Hz; intro _ Hz
    refine goCh Hz (.moveZ rfl <| .moveZ rfl <| .nil) ?_
    clear Hz Az; intro Az Hz
    obtain ⟨b159, o159, vs159, hp159, hR159, ho159, m159⟩ := m148.openR (i := 3) rfl ((k + 1)) (r := [.v (.int .i64 (impR (kq : Int) its (nq + 1) k).kd), .v (.int .i64 (impR (kq : Int) its (nq + 1) k).vo), .v (.int .i64 (impR (kq : Int) its (nq + 1) k).bl), .v (.int .i64 (impR (kq : Int) its (nq + 1) k).sz), .v (.int .i64 (impR (kq : Int) its (nq + 1) k).pe), .ns .i64 (impR (kq : Int) its (nq + 1) k).pl, .v (.int .i64 (impR (kq : Int) its (nq + 1) k).to), .v (.int .i64 (impR (kq : Int) its (nq + 1) k).at0), .v (.int .i64 (impR (kq : Int) its (nq + 1) k).ix), .l 2 ((impR (kq : Int) its (nq + 1) k).its.map itD)]) (cmdD_get (hci k hk)) 112 rfl
    cases hp159; clear m148 ho159
    rcases hR159 with _ | ⟨hd159_0, _ | ⟨hd159_1, _ | ⟨hd159_2, _ | ⟨hd159_3, _ | ⟨hd159_4, _ | ⟨hd159_5, _ | ⟨hd159_6, _ | ⟨hd159_7, _ | ⟨hd159_8, _ | ⟨hd159_9, _ | _⟩⟩⟩⟩⟩⟩⟩⟩⟩⟩
    obtain rfl := hd159_0.v_out
    clear hd159_0
    obtain rfl := hd159_1.v_out
    clear hd159_1
    obtain rfl := hd159_2.v_out
    clear hd159_2
    obtain rfl := hd159_3.v_out
    clear hd159_3
    obtain rfl := hd159_4.v_out
    clear hd159_4
    obtain ⟨p160, c160, hv160, hc160⟩ := hd159_5.ns_shape; subst hv160
    have m160 := m159.dat 113 rfl (hd159_5.cast (fun _ h => (free_add rfl h))); clear m159 hd159_5
    obtain rfl := hd159_6.v_out
    clear hd159_6
    obtain rfl := hd159_7.v_out
    clear hd159_7
    obtain rfl := hd159_8.v_out
    clear hd159_8
    obtain ⟨p161, c161, hv161, hc161⟩ := hd159_9.l_shape; subst hv161
    have m161 := m160.dat 114 rfl (hd159_9.cast (fun _ h => (free_add rfl (free_add rfl h)))); clear m160 hd159_9
    refine goCh Hz (.g rfl rfl rfl rfl (fun _ h => y_idx h rfl rfl Try.underlying31 sz57icn ((k + 1)) rfl (by omega)) <| .fieldAddrQZ 9 rfl Try.underlying57 rfl (s := 0) (by kernel_rfl) rfl <| .loadC1Z m161 (i := 112) (q := 9) rfl rfl rfl Try.underlying22 rfl <| .lenZ rfl Try.underlying22 <| .moveZ rfl <| .gtrZ rfl rfl <| .pickF rfl rfl <| .nil) ?_
    clear Hz Az; intro Az Hz
    refine wpList_nil ?_
    refine hK11 _ _ ?_; clear hK11; try clear K11
    refine bool_cases Hz (t := 126) rfl ?_ ?_
    · intro hb _; exact absurd hb (by simp [impR]; omega)
    clear Hz; intro _ Hz
    refine wp_cond_false (Hz.ev (x := .tmp 126) rfl) ?_
    refine wp_skip ?_
    refine hK10 _ _ ?_; clear hK10; try clear K10
    replace Hz : Has 184 [(3, _), (9, _), (11, _), (12, _), (14, _), (15, _)] Az := Hz.only [3, 9, 11, 12, 14, 15]
    refine regS Hz (.assign rfl <| .nil) ?_
    clear Hz Az; intro Az Hz
    refine wp_block ?_
    rw [show min (k * (nq + 1)) its.length = k * (nq + 1) + 0 from by omega] at Hz
    refine wp_loop_ghost (fun g a w => ∃ (j : Nat) (B9 : Nat) (pi pc : Option Addr) (ci cc : Nat), j ≤ (chunkI its (nq + 1) k).length ∧ g = (chunkI its (nq + 1) k).length - j ∧ Has 184 [(3, .int .u8 k9), (9, .pointer (some ⟨B9, 0, none⟩)), (11, .int .i64 ((nq + 1 : Nat) : Int)), (12, .slice pc cs.length cc), (14, .int .i64 ((k * (nq + 1) + j : Nat) : Int)), (15, .int .i64 ((k + 1 : Nat) : Int)), (16, .int .i64 j)] a ∧ MemOk (cn w0) w0 [(1, .box B9 24 [.int .i64 y.bl, .int .i64 y.sz, .int .i64 (-1), .int .i64 y.ws.length, .slice pi its.length ci]), (2, .dat (.slice pi its.length ci) (.l 2 (its.map itD))), (3, .dat (.slice pc cs.length cc) (.l 10 (cs.map cmdD)))] w) ((chunkI its (nq + 1) k).length) ?_ ?_
    · exact ⟨0, _, _, _, _, _, Nat.zero_le _, rfl, Hz.only [3, 9, 11, 12, 14, 15, 16], m161.ren [(1, 1), (2, 2), (3, 3)] (by decide)⟩
    ·
     clear Hz m161
     rintro g Az w172 ⟨j, B9, pi, pc, ci, cc, hjl, hg2, Hz, m172⟩
     refine wp_seq_k (fun K12 hK12 => ?_)
     refine wp_seq_k (fun K13 hK13 => ?_)
     refine wp_region_lit ?_
     refine goCh Hz (.move rfl <| .move rfl <| .move rfl <| .nil) ?_
     clear Hz Az; intro Az Hz
     obtain ⟨b180, o180, vs180, hp180, hR180, ho180, m180⟩ := m172.openR (i := 3) rfl ((k + 1)) (r := [.v (.int .i64 (impR (kq : Int) its (nq + 1) k).kd), .v (.int .i64 (impR (kq : Int) its (nq + 1) k).vo), .v (.int .i64 (impR (kq : Int) its (nq + 1) k).bl), .v (.int .i64 (impR (kq : Int) its (nq + 1) k).sz), .v (.int .i64 (impR (kq : Int) its (nq + 1) k).pe), .ns .i64 (impR (kq : Int) its (nq + 1) k).pl, .v (.int .i64 (impR (kq : Int) its (nq + 1) k).to), .v (.int .i64 (impR (kq : Int) its (nq + 1) k).at0), .v (.int .i64 (impR (kq : Int) its (nq + 1) k).ix), .l 2 ((impR (kq : Int) its (nq + 1) k).its.map itD)]) (cmdD_get (hci k hk)) 200 rfl
     cases hp180; clear m172 ho180
     rcases hR180 with _ | ⟨hd180_0, _ | ⟨hd180_1, _ | ⟨hd180_2, _ | ⟨hd180_3, _ | ⟨hd180_4, _ | ⟨hd180_5, _ | ⟨hd180_6, _ | ⟨hd180_7, _ | ⟨hd180_8, _ | ⟨hd180_9, _ | _⟩⟩⟩⟩⟩⟩⟩⟩⟩⟩
     obtain rfl := hd180_0.v_out
     clear hd180_0
     obtain rfl := hd180_1.v_out
     clear hd180_1
     obtain rfl := hd180_2.v_out
     clear hd180_2
     obtain rfl := hd180_3.v_out
     clear hd180_3
     obtain rfl := hd180_4.v_out
     clear hd180_4
     obtain ⟨p181, c181, hv181, hc181⟩ := hd180_5.ns_shape; subst hv181
     have m181 := m180.dat 201 rfl (hd180_5.cast (fun _ h => (free_add rfl h))); clear m180 hd180_5
     obtain rfl := hd180_6.v_out
     clear hd180_6
     obtain rfl := hd180_7.v_out
     clear hd180_7
     obtain rfl := hd180_8.v_out
     clear hd180_8
     obtain ⟨p182, c182, hv182, hc182⟩ := hd180_9.l_shape; subst hv182
     have m182 := m181.dat 202 rfl (hd180_9.cast (fun _ h => (free_add rfl (free_add rfl h)))); clear m181 hd180_9
     refine goCh Hz (.c rfl (fun _ h => y_idx h rfl rfl Try.underlying31 sz57icn ((k + 1)) rfl (by omega)) <| .fieldAddrQ 9 rfl Try.underlying57 rfl (s := 0) (by kernel_rfl) rfl <| .loadC1 m182 (i := 200) (q := 9) rfl rfl rfl Try.underlying22 rfl <| .len rfl Try.underlying22 <| .lss rfl rfl <| .nil) ?_
     clear Hz Az; intro Az Hz
     refine wpList_nil ?_
     refine hK13 _ _ ?_; clear hK13; try clear K13
     refine bool_cases Hz (t := 134) rfl ?_ ?_
     ·
      clear Hz; intro hb188 Hz
      try simp only [Q1x, Q2x, Q3x, Q4x, Q5x, Q6x, Q7x, Q8x, Q9x, Q0x, Qax, Qbx] at hb188
      have hj : j < (chunkI its (nq + 1) k).length := by have := hb188; first | (simp [impR] at this; omega) | omega
      refine wp_cond_true (Hz.ev (x := .tmp 134) rfl) ?_
      refine wp_skip ?_
      refine hK12 _ _ ?_; clear hK12; try clear K12
      refine wp_seq_k (fun K14 hK14 => ?_)
      refine wp_block ?_
      refine wp_seq_k (fun K15 hK15 => ?_)
      refine wp_seq_k (fun K16 hK16 => ?_)
      replace Hz : Has 184 [(3, _), (9, _), (11, _), (12, _), (14, _), (15, _), (16, _)] Az := Hz.only [3, 9, 11, 12, 14, 15, 16]
      obtain ⟨b190, o190, vs190, hp190, hR190, ho190, m190⟩ := m182.openR (i := 3) rfl ((k + 1)) (r := [.v (.int .i64 (impR (kq : Int) its (nq + 1) k).kd), .v (.int .i64 (impR (kq : Int) its (nq + 1) k).vo), .v (.int .i64 (impR (kq : Int) its (nq + 1) k).bl), .v (.int .i64 (impR (kq : Int) its (nq + 1) k).sz), .v (.int .i64 (impR (kq : Int) its (nq + 1) k).pe), .ns .i64 (impR (kq : Int) its (nq + 1) k).pl, .v (.int .i64 (impR (kq : Int) its (nq + 1) k).to), .v (.int .i64 (impR (kq : Int) its (nq + 1) k).at0), .v (.int .i64 (impR (kq : Int) its (nq + 1) k).ix), .l 2 ((impR (kq : Int) its (nq + 1) k).its.map itD)]) (cmdD_get (hci k hk)) 203 rfl
      cases hp190; clear m182 ho190
      rcases hR190 with _ | ⟨hd190_0, _ | ⟨hd190_1, _ | ⟨hd190_2, _ | ⟨hd190_3, _ | ⟨hd190_4, _ | ⟨hd190_5, _ | ⟨hd190_6, _ | ⟨hd190_7, _ | ⟨hd190_8, _ | ⟨hd190_9, _ | _⟩⟩⟩⟩⟩⟩⟩⟩⟩⟩
      obtain rfl := hd190_0.v_out
      clear hd190_0
      obtain rfl := hd190_1.v_out
      clear hd190_1
      obtain rfl := hd190_2.v_out
      clear hd190_2
      obtain rfl := hd190_3.v_out
      clear hd190_3
      obtain rfl := hd190_4.v_out
      clear hd190_4
      obtain ⟨p191, c191, hv191, hc191⟩ := hd190_5.ns_shape; subst hv191
      have m191 := m190.dat 204 rfl (hd190_5.cast (fun _ h => (free_add rfl h))); clear m190 hd190_5
      obtain rfl := hd190_6.v_out
      clear hd190_6
      obtain rfl := hd190_7.v_out
      clear hd190_7
      obtain rfl := hd190_8.v_out
      clear hd190_8
      obtain ⟨p192, c192, hv192, hc192⟩ := hd190_9.l_shape; subst hv192
      have m192 := m191.dat 205 rfl (hd190_9.cast (fun _ h => (free_add rfl (free_add rfl h)))); clear m191 hd190_9
      obtain ⟨b193, o193, vs193, hp193, hR193, ho193, m193⟩ := m192.openR (i := 205) rfl (j) (r := [.v (.int .i64 ((k * (nq + 1) + j : Nat) : Int)), .ns .u8 (S.getD (k * (nq + 1) + j) [])]) (chunk_get hits hj) 206 rfl
      cases hp193; clear m192 ho193
      rcases hR193 with _ | ⟨hd193_0, _ | ⟨hd193_1, _ | _⟩⟩
      obtain rfl := hd193_0.v_out
      clear hd193_0
      obtain ⟨p194, c194, hv194, hc194⟩ := hd193_1.ns_shape; subst hv194
      have m194 := m193.dat 207 rfl (hd193_1.cast (fun _ h => (free_add rfl h))); clear m193 hd193_1
      obtain ⟨b195, o195, vs195, hp195, hR195, ho195, m195⟩ := m194.openR (i := 3) rfl ((k + 1)) (r := [.v (.int .i64 (impR (kq : Int) its (nq + 1) k).kd), .v (.int .i64 (impR (kq : Int) its (nq + 1) k).vo), .v (.int .i64 (impR (kq : Int) its (nq + 1) k).bl), .v (.int .i64 (impR (kq : Int) its (nq + 1) k).sz), .v (.int .i64 (impR (kq : Int) its (nq + 1) k).pe), .ns .i64 (impR (kq : Int) its (nq + 1) k).pl, .v (.int .i64 (impR (kq : Int) its (nq + 1) k).to), .v (.int .i64 (impR (kq : Int) its (nq + 1) k).at0), .v (.int .i64 (impR (kq : Int) its (nq + 1) k).ix), .l 2 ((impR (kq : Int) its (nq + 1) k).its.map itD)]) (cmdD_get (hci k hk)) 208 rfl
      cases hp195; clear m194 ho195
      rcases hR195 with _ | ⟨hd195_0, _ | ⟨hd195_1, _ | ⟨hd195_2, _ | ⟨hd195_3, _ | ⟨hd195_4, _ | ⟨hd195_5, _ | ⟨hd195_6, _ | ⟨hd195_7, _ | ⟨hd195_8, _ | ⟨hd195_9, _ | _⟩⟩⟩⟩⟩⟩⟩⟩⟩⟩
      obtain rfl := hd195_0.v_out
      clear hd195_0
      obtain rfl := hd195_1.v_out
      clear hd195_1
      obtain rfl := hd195_2.v_out
      clear hd195_2
      obtain rfl := hd195_3.v_out
      clear hd195_3
      obtain rfl := hd195_4.v_out
      clear hd195_4
      obtain ⟨p196, c196, hv196, hc196⟩ := hd195_5.ns_shape; subst hv196
      have m196 := m195.dat 209 rfl (hd195_5.cast (fun _ h => (free_add rfl h))); clear m195 hd195_5
      obtain rfl := hd195_6.v_out
      clear hd195_6
      obtain rfl := hd195_7.v_out
      clear hd195_7
      obtain rfl := hd195_8.v_out
      clear hd195_8
      obtain ⟨p197, c197, hv197, hc197⟩ := hd195_9.l_shape; subst hv197
      have m197 := m196.dat 210 rfl (hd195_9.cast (fun _ h => (free_add rfl (free_add rfl h)))); clear m196 hd195_9
      obtain ⟨b198, o198, vs198, hp198, hR198, ho198, m198⟩ := m197.openR (i := 210) rfl (j) (r := [.v (.int .i64 ((k * (nq + 1) + j : Nat) : Int)), .ns .u8 (S.getD (k * (nq + 1) + j) [])]) (chunk_get hits hj) 211 rfl
      cases hp198; clear m197 ho198
      rcases hR198 with _ | ⟨hd198_0, _ | ⟨hd198_1, _ | _⟩⟩
      obtain rfl := hd198_0.v_out
      clear hd198_0
      obtain ⟨p199, c199, hv199, hc199⟩ := hd198_1.ns_shape; subst hv199
      have m199 := m198.dat 212 rfl (hd198_1.cast (fun _ h => (free_add rfl h))); clear m198 hd198_1
      obtain ⟨b200, o200, vs200, hp200, hR200, ho200, m200⟩ := m199.openR (i := 2) rfl ((k * (nq + 1) + j)) (r := [.v (.int .i64 ((k * (nq + 1) + j : Nat) : Int)), .ns .u8 (S.getD (k * (nq + 1) + j) [])]) (whole_row hits (by omega)) 213 rfl
      cases hp200; clear m199 ho200
      rcases hR200 with _ | ⟨hd200_0, _ | ⟨hd200_1, _ | _⟩⟩
      obtain rfl := hd200_0.v_out
      clear hd200_0
      obtain ⟨p201, c201, hv201, hc201⟩ := hd200_1.ns_shape; subst hv201
      have m201 := m200.dat 214 rfl (hd200_1.cast (fun _ h => (free_add rfl h))); clear m200 hd200_1
      have m202 : MemOk _ _ [(1, _), (2, _), (3, _), (200, _), (201, _), (202, _), (203, _), (204, _), (205, _), (206, _), (207, _), (208, _), (209, _), (210, _), (211, _), (212, _), (213, _), (214, _)] _ := m201.only [1, 2, 3, 200, 201, 202, 203, 204, 205, 206, 207, 208, 209, 210, 211, 212, 213, 214]; clear m201
      refine region_p 31 (B := [(1, _), (2, _), (3, _), (200, _), (201, _), (202, _), (203, _), (204, _), (205, _), (206, _), (207, _), (208, _), (209, _), (210, _), (211, _), (212, _), (213, _), (214, _)]) (m202.to ⟨il, il, il, il, il, il, il, il, il, il, il, il, il, il, il, il, il, il, trivial⟩) m202 (by kernel_rfl) (fun w203 hP203 m203 => ?_); clear m202
      refine goR hP203 [0, 1, 2, 3, 4, 5, 6, 7, 8, 9, 10, 11] [4, 8] 12 0 4095 Hz (m203.to ⟨il, il, il, il, il, il, il, il, il, il, il, il, il, il, il, il, il, il, trivial⟩) (.move rfl <| .move rfl <| .p (fun _ _ h => y_idx h rfl rfl Try.underlying31 sz57icn ((k + 1)) rfl (by omega)) <| .fieldAddrQ 9 rfl Try.underlying57 rfl (s := 0) (by kernel_rfl) rfl <| .loadC1 hh (i := 203) (q := 9) rfl rfl rfl Try.underlying22 rfl <| .move rfl <| .p (fun _ _ h => y_idx h rfl rfl Try.underlying22 sz29icn (j) rfl (by simpa [impR] using hj)) <| .fieldAddrQ 0 rfl Try.underlying29 rfl (s := 0) (by kernel_rfl) rfl <| .loadC0 hh (i := 206) rfl rfl Try.underlying3 rfl <| .move rfl <| .neq rfl rfl <| .move rfl <| .nil) ?_
      clear Hz Az; intro Az Hz
      refine bool_cases Hz (t := 148) rfl ?_ ?_
      · intro hb _; exact absurd hb (by simp)
      clear Hz; intro _ Hz
      refine goR hP203 [12, 13, 14, 15, 16, 17, 18, 19, 20, 21, 22, 23, 24, 25, 26, 27, 28, 29, 30] [16, 20, 21, 23, 27, 28] 19 4095 2147483647 Hz (m203.to ⟨il, il, il, il, il, il, il, il, il, il, il, il, il, il, il, il, il, il, trivial⟩) (.move rfl <| .move rfl <| .p (fun _ _ h => y_idx h rfl rfl Try.underlying31 sz57icn ((k + 1)) rfl (by omega)) <| .fieldAddrQ 9 rfl Try.underlying57 rfl (s := 0) (by kernel_rfl) rfl <| .loadC1 hh (i := 208) (q := 9) rfl rfl rfl Try.underlying22 rfl <| .move rfl <| .p (fun _ _ h => y_idx h rfl rfl Try.underlying22 sz29icn (j) rfl (by simpa [impR] using hj)) <| .fieldAddrQ 1 rfl Try.underlying29 rfl (s := 0) (by kernel_rfl) rfl <| .loadC1 hh (i := 211) (q := 1) rfl rfl rfl Try.underlying25 rfl <| .str rfl (fun _ h => (h.nums (i := 212) rfl)) Try.underlying25 Try.underlying5 Try.underlying9 <| .fieldAddr (off := 4) rfl Try.underlying24 rfl (s := 0) (by kernel_rfl) rfl <| .loadB1 hh (i := 1) rfl rfl rfl Try.underlying22 rfl <| .move rfl <| .p (fun _ _ h => y_idx h rfl rfl Try.underlying22 sz29icn ((k * (nq + 1) + j)) rfl (by omega)) <| .fieldAddrQ 1 rfl Try.underlying29 rfl (s := 0) (by kernel_rfl) rfl <| .loadC1 hh (i := 213) (q := 1) rfl rfl rfl Try.underlying25 rfl <| .str rfl (fun _ h => (h.nums (i := 214) rfl)) Try.underlying25 Try.underlying5 Try.underlying9 <| .neqS rfl rfl <| .pickF rfl rfl <| .nil) ?_
      clear Hz Az; intro Az Hz
      refine wpAnyE_done (by kernel_rfl) ?_ _
      refine hK16 _ _ ?_; clear hK16; try clear K16
      refine bool_cases Hz (t := 167) rfl ?_ ?_
      · intro hb _; exact absurd hb (by simp)
      clear Hz; intro _ Hz
      refine wp_cond_false (Hz.ev (x := .tmp 167) rfl) ?_
      refine wp_skip ?_
      refine hK15 _ _ ?_; clear hK15; try clear K15
      replace Hz : Has 184 [(3, _), (9, _), (11, _), (12, _), (14, _), (15, _), (16, _)] Az := Hz.only [3, 9, 11, 12, 14, 15, 16]
      refine wp_region_lit ?_
      refine goCh Hz (.move rfl <| .add rfl rfl (r := ((k * (nq + 1) + (j + 1) : Nat) : Int)) (by rw [IntWalk.i64_in _ (by omega)]; omega) <| .assign rfl <| .nil) ?_
      clear Hz Az; intro Az Hz
      refine wpList_nil ?_
      refine hK14 _ _ ?_; clear hK14; try clear K14
      refine wp_region_lit ?_
      refine goCh Hz (.move rfl <| .add rfl rfl (r := ((j + 1 : Nat) : Int)) (by rw [IntWalk.i64_in _ (by omega)]; omega) <| .assign rfl <| .nil) ?_
      clear Hz Az; intro Az Hz
      refine wpList_nil ?_
      show ∃ n', n' < _ ∧ _
      exact ⟨(chunkI its (nq + 1) k).length - (j + 1), by omega, j + 1, _, _, _, _, _, by omega, rfl, Hz.only [3, 9, 11, 12, 14, 15, 16], m203.ren [(1, 1), (2, 2), (3, 3)] (by decide)⟩
     ·
      clear Hz; intro hb188 Hz
      try simp only [Q1x, Q2x, Q3x, Q4x, Q5x, Q6x, Q7x, Q8x, Q9x, Q0x, Qax, Qbx] at hb188
      have hje : j = (chunkI its (nq + 1) k).length := by have := hb188; first | (simp [impR] at this; omega) | omega
      rw [show k * (nq + 1) + j = min ((k + 1) * (nq + 1)) its.length from by omega] at Hz
      refine wp_cond_false (Hz.ev (x := .tmp 134) rfl) ?_
      refine wp_exit ?_
      refine hK9 _ _ ?_; clear hK9; try clear K9
      replace Hz : Has 184 [(3, _), (9, _), (11, _), (12, _), (14, _), (15, _), (16, _)] Az := Hz.only [3, 9, 11, 12, 14, 15, 16]
      refine wp_region_lit ?_
      refine goCh Hz (.move rfl <| .add rfl rfl (r := ((k + 1 + 1 : Nat) : Int)) (by rw [IntWalk.i64_in _ (by omega)]; omega) <| .assign rfl <| .nil) ?_
      clear Hz Az; intro Az Hz
      refine wpList_nil ?_
      show ∃ n', n' < _ ∧ _
      exact ⟨T - (k + 1), by omega, k + 1, _, _, _, _, _, by omega, rfl, Hz.only [3, 9, 11, 12, 14, 15], m182.ren [(1, 1), (2, 2), (3, 3)] (by decide)⟩
   ·
    clear Hz; intro hb100 Hz
    try simp only [Q1x, Q2x, Q3x, Q4x, Q5x, Q6x, Q7x, Q8x, Q9x, Q0x, Qax, Qbx] at hb100
    have hke : k = T := by have := hb100; first | omega | (simp at this; omega)
    refine wp_cond_false (Hz.ev (x := .tmp 78) rfl) ?_
    refine wp_exit ?_
    refine hK7 _ _ ?_; clear hK7; try clear K7
    refine wp_seq_k (fun K17 hK17 => ?_)
    refine wp_region_lit ?_
    refine goCh Hz (.move rfl <| .fieldAddr (off := 0) rfl Try.underlying24 rfl (s := 0) (by kernel_rfl) rfl <| .loadB1 m94 (i := 1) rfl rfl rfl Try.underlying3 rfl <| .eql rfl rfl <| .move rfl <| .nil) ?_
    clear Hz Az; intro Az Hz
    refine bool_cases Hz (t := 174) rfl ?_ ?_
    rotate_left
    · intro hb _; exact absurd hb (by simp; rw [hke]; omega)
    clear Hz; intro _ Hz
    refine goCh Hz (.moveZ rfl <| .moveZ rfl <| .lenZ rfl Try.underlying31 <| .subZ rfl rfl (r := ((T + 1 : Nat) : Int)) (by rw [hcl, IntWalk.i64_in _ (by omega)]; omega) <| .nil) ?_
    clear Hz Az; intro Az Hz
    obtain ⟨b263, o263, vs263, hp263, hR263, ho263, m263⟩ := m94.openR (i := 3) rfl ((T + 1)) (r := [.v (.int .i64 7), .v (.int .i64 (kq : Int)), .v (.int .i64 0), .v (.int .i64 0), .v (.int .i64 0), .ns .i64 [], .v (.int .i64 0), .v (.int .i64 0), .v (.int .i64 0), .l 2 []]) (cmdD_get hce) 100 rfl
    cases hp263; clear m94 ho263
    rcases hR263 with _ | ⟨hd263_0, _ | ⟨hd263_1, _ | ⟨hd263_2, _ | ⟨hd263_3, _ | ⟨hd263_4, _ | ⟨hd263_5, _ | ⟨hd263_6, _ | ⟨hd263_7, _ | ⟨hd263_8, _ | ⟨hd263_9, _ | _⟩⟩⟩⟩⟩⟩⟩⟩⟩⟩
    obtain rfl := hd263_0.v_out
    clear hd263_0
    obtain rfl := hd263_1.v_out
    clear hd263_1
    obtain rfl := hd263_2.v_out
    clear hd263_2
    obtain rfl := hd263_3.v_out
    clear hd263_3
    obtain rfl := hd263_4.v_out
    clear hd263_4
    obtain ⟨p264, c264, hv264, hc264⟩ := hd263_5.ns_shape; subst hv264
    have m264 := m263.dat 101 rfl (hd263_5.cast (fun _ h => (free_add rfl h))); clear m263 hd263_5
    obtain rfl := hd263_6.v_out
    clear hd263_6
    obtain rfl := hd263_7.v_out
    clear hd263_7
    obtain rfl := hd263_8.v_out
    clear hd263_8
    obtain ⟨p265, c265, hv265, hc265⟩ := hd263_9.l_shape; subst hv265
    have m265 := m264.dat 102 rfl (hd263_9.cast (fun _ h => (free_add rfl (free_add rfl h)))); clear m264 hd263_9
    refine goCh Hz (.g rfl rfl rfl rfl (fun _ h => y_idx h rfl rfl Try.underlying31 sz57icn ((T + 1)) rfl (by omega)) <| .fieldAddrQZ 0 rfl Try.underlying57 rfl (s := 0) (by kernel_rfl) rfl <| .loadC0Z m265 (i := 100) rfl rfl Try.underlying3 rfl <| .eqlZ rfl rfl <| .pickT rfl rfl <| .assign rfl <| .nil) ?_
    clear Hz Az; intro Az Hz
    refine wpList_nil ?_
    refine hK17 _ _ ?_; clear hK17; try clear K17
    refine wp_ret ?_
    try dsimp only [Exit.then, Exit.inBlock]
    refine (ret1 (fn := Try.f5) Hz rfl rfl ?_)
    exact ⟨by first | rfl | simp, m265.below⟩
end Go.Proofs.Ytkdnhndjjfjppaa.K
