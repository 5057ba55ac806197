/- intake: a volume of numbers as a whole stream. -/
import Derived.Test.YtkdnhndjjfjppaaInt1
namespace Go.Proofs.Ytkdnhndjjfjppaa.K
open Go.ChangeShapes Go.WideShapes Go.ChangeAt Go.RowKit
set_option linter.unusedVariables false
set_option linter.unusedSimpArgs false
theorem fl24iwh : flatS Try.prog 24 [.int .i64 0, .int .i64 0, .int .i64 0, .int .i64 0, .slice none 0 0] = true := by kernel_rfl
theorem fl29iwh : flatS Try.prog 29 [.int .i64 0, .slice none 0 0] = true := by kernel_rfl
set_option maxRecDepth 100000
set_option maxHeartbeats 4000000
theorem whole_any (l : List Int) (pl : Option Addr) (cl : Nat) (w0 : World) (h1 : Rd (fun _ => True) w0 (.slice pl l.length cl) (.ns .u8 l)) (hl60 : l.length ≤ 60) (hlb : ∀ j, j < l.length → 0 ≤ l.getD j 0 ∧ l.getD j 0 ≤ 255) :
   Calls Try.prog 8 #[.slice pl l.length cl] w0 fun e w' => ∃ (y : VolV) (S : List (List Int)) (p : Option Addr) (c : Nat), e = .returned (.agg #[.int .i64 y.bl, .int .i64 y.sz, .int .i64 (-1), .int .i64 y.ws.length, .slice p S.length c]) ∧ VolS l.length y ∧ (S.length : Int) = y.bl ∧ (∀ k, k < S.length → ((S.getD k []).length : Int) = y.sz) ∧ Rd (New w0) w' (.slice p S.length c) (.l 2 ((wholeI S S.length).map itD)) ∧ Below w0.heap.size w0 w' := by
 refine ent1 Try.func8 rfl Try.ntmps8 fun Az Hz => ?_
 have m0 := MemOk.start (fun _ => False) w0
 refine zsr fun K0 hK0 => ?_
 refine wpList_plain rfl (fun K hK => ?_)
 refine e_alloc Hz m0 70 fct37 rfl ?_
 clear Hz Az m0; intro g1 Az w2 Hz m2 hB2 hg2
 clear hB2 hg2
 refine hK _ _ ?_; clear hK
 refine znl (hK0 _ _ ?_); clear hK0
 refine zsr fun K1 hK1 => ?_
 refine goCh Hz (.move rfl .nil) ?_
 clear Hz Az; intro Az Hz
 refine wpList_plain rfl (fun K hK => ?_)
 refine e_call Hz Try.func24 rfl rfl rfl rfl (svol_any l _ _ _ ((h1.now' m2 rfl).any) (by omega) hlb) ?_
 rintro e w5 ⟨y, p15, p25, p35, d15, d25, d35, rfl, hS, hd5, he5, hf5, hb5⟩
 have m6 := m2.callF3 71 72 73 rfl rfl rfl hb5 hd5 he5 hf5
 clear m2
 clear hb5 hd5 he5 hf5
 have hS0 := hS
 obtain ⟨hpl, hpn, hws, hwi⟩ := hS.sm
 obtain ⟨hV, hh0, hpn9, hws9⟩ := hS0
 have hV9 := hV
 obtain ⟨v1, v2, v3, v4, v5, v6, v7, v8, v9⟩ := hV9
 have v0 := v1
 obtain ⟨n1, n2, n3, n4, n5, n6, n7, n8, n9, n10, n11⟩ := v0
 have hwo := hV.its
 refine ⟨_, rfl, ?_⟩; clear Hz Az; intro Az Hz
 refine hK _ _ ?_; clear hK
 refine wpList_plain rfl (fun K hK => ?_)
 refine e_alloc Hz m6 74 fct6 rfl ?_
 clear Hz Az m6; intro g8 Az w9 Hz m9 hB9 hg9
 clear hB9 hg9
 refine hK _ _ ?_; clear hK
 refine wpList_plain rfl (fun K hK => ?_)
 refine e_storeW Hz m9 74 rfl rfl rfl rfl rfl fct5 ?_
 clear m9; intro w10 m10 hB10
 clear hB10
 refine hK _ _ ?_; clear hK
 refine znl (hK1 _ _ ?_); clear hK1
 refine zsr fun K2 hK2 => ?_
 refine goCh Hz (.fieldAddr (off := 8) rfl U49 rfl (s := 0) (by kernel_rfl) rfl .nil) ?_
 clear Hz Az; intro Az Hz
 refine wpList_plain rfl (fun K hK => ?_)
 refine e_store1 Hz m10 74 rfl rfl rfl rfl rfl fct10 (by dsimp only [List.set] <;> rfl) ?_
 clear m10; intro w13 m13 hB13
 clear hB13
 refine hK _ _ ?_; clear hK
 refine znl (hK2 _ _ ?_); clear hK2
 refine wp_seq_k (fun K3 hK3 => ?_)
 have m14 : MemOk _ _ [(70, _), (71, _), (72, _), (73, _), (74, _)] _ := m13.only [70, 71, 72, 73, 74]; clear m13
 refine region_p 9 (B := [(70, _), (71, _), (72, _), (73, _), (74, _)]) (m14.to ⟨il, il, il, il, il, trivial⟩) m14 (by kernel_rfl) (fun w15 hP15 m15 => ?_); clear m14
 refine goR hP15 [0, 1] [0, 1] 2 0 3 Hz (m15.to ⟨il, il, il, il, il, trivial⟩) (.loadBR hh (i := 74) rfl rfl U49 rfl fct5 (by simp) (by dsimp only [List.drop, List.take] <;> rfl) <| .loadBR hh (i := 74) rfl rfl U49 rfl fct5 (by simp) (by dsimp only [List.drop, List.take] <;> rfl) <| .nil) ?_
 clear Hz Az; intro Az Hz
 refine stepE_only 2 rfl (by kernel_rfl) rfl (fun K hK => ?_)
 refine e_call Hz Try.func20 rfl rfl rfl rfl (rlen_w _ _ _ _ _ _ _ _ _ _ _ _ _ _ _ y.ws _ _) ?_
 rintro e w18 ⟨rfl, hb18⟩
 have m19 := m15.later hb18
 clear m15
 clear hb18
 refine ⟨_, rfl, ?_⟩; clear Hz Az; intro Az Hz
 refine hK _ _ (m19.to ⟨il, il, il, il, il, trivial⟩) ?_; clear hK K
 refine stepE_only 3 rfl (by kernel_rfl) rfl (fun K hK => ?_)
 refine e_call Hz Try.func21 rfl rfl rfl rfl (rstate_w _ y _ hS (by omega) _ _ _ _ _ _ 0 _ y.ws.length rfl _ (fun b hb => (List.not_mem_nil (a := b)) hb) (by omega) (Nat.le_refl _) (m19.into [(3, 73)] (by decide) rfl)) ?_
 rintro e w21 ⟨p21, c21, rfl, hm21⟩
 have mx21 := m19.back hm21 [(73, 3), (75, 9)] (by decide); clear hm21 m19
 have m21 : MemOk _ _ [(73, _), (75, _), (70, _), (71, _), (72, _), (74, _)] _ := mx21.only [73, 75, 70, 71, 72, 74]; clear mx21
 refine ⟨_, rfl, ?_⟩; clear Hz Az; intro Az Hz
 refine hK _ _ (m21.to ⟨il, il, il, il, il, trivial⟩) ?_; clear hK K
 obtain ⟨S, hS9⟩ : ∃ S, stL y.bl y.sz y.ws y.ws.length = S := ⟨_, rfl⟩
 have hSl : (S.length : Int) = y.bl := by rw [← hS9, stL_len]; omega
 have hSz : ∀ k, k < S.length → ((S.getD k []).length : Int) = y.sz := fun k hk => by have h9 := stL_sz hV y.ws.length k (by rw [hS9]; exact hk); rwa [hS9] at h9
 rw [hS9] at m21 Hz
 refine goA hP15 [4, 5, 6, 7, 8] 5 15 511 Hz (m21.to ⟨il, il, il, il, il, trivial⟩) (.move rfl <| .extract rfl rfl <| .extract rfl rfl <| .assign rfl <| .assign rfl <| .nil) ?_
 clear Hz Az; intro Az Hz
 refine wpAnyE_done (by kernel_rfl) ?_ _
 refine hK3 _ _ ?_; clear hK3
 refine wp_seq_k (fun K4 hK4 => ?_)
 have hC4 : ∀ (a : Act) (w : World), (∃ (B2 B6 : Nat) (pa : Option Addr) (ca : Nat), Has 43 [(2, .pointer (some ⟨B2, 0, none⟩)), (4, .slice pa (S.map bD).length ca), (6, .pointer (some ⟨B6, 0, none⟩))] a ∧ MemOk (cn w0) w0 [(2, .box B2 24 [.int .i64 0, .int .i64 0, .int .i64 0, .int .i64 0, .slice none 0 0]), (6, .box B6 24 [.int .i64 y.bl, .int .i64 y.sz, .int .i64 (-1), .int .i64 y.ws.length, .slice none 0 0]), (21, .dat (.slice pa (S.map bD).length ca) (.l 1 (S.map bD)))] w) → K4 a w := by
   clear Hz m21
   rintro Az w28 ⟨B2, B6, pa, ca, Hz, m28⟩
   refine hK4 _ _ ?_; clear hK4
   refine wp_seq_k (fun K5 hK5 => ?_)
   refine regS Hz (.assign rfl <| .nil) ?_
   clear Hz Az; intro Az Hz
   refine wp_block ?_
   refine wp_loop_ghost (fun g a w => ∃ (k B2 B6 : Nat) (pa p : Option Addr) (ca c : Nat), k ≤ S.length ∧ g = S.length - k ∧ Has 43 [(2, .pointer (some ⟨B2, 0, none⟩)), (4, .slice pa (S.map bD).length ca), (6, .pointer (some ⟨B6, 0, none⟩)), (7, .int .i64 k)] a ∧ MemOk (cn w0) w0 [(2, .box B2 24 [.int .i64 0, .int .i64 0, .int .i64 0, .int .i64 0, .slice none 0 0]), (6, .box B6 24 [.int .i64 y.bl, .int .i64 y.sz, .int .i64 (-1), .int .i64 y.ws.length, .slice p ((wholeI S k).map itD).length c]), (21, .dat (.slice pa (S.map bD).length ca) (.l 1 (S.map bD))), (22, .row (.slice p ((wholeI S k).map itD).length c) 29 2 ((wholeI S k).map itD))] w) (S.length) ?_ ?_
   · have mz := m28.nilR 22 29 2
     exact ⟨0, _, _, _, _, _, _, Nat.zero_le _, rfl, Hz.only [2, 4, 6, 7], mz.ren [(2, 2), (6, 6), (21, 21), (22, 22)] (by decide)⟩
   clear Hz m28
   rintro g Az w30 ⟨k, B2, B6, pa, p, ca, c, hkl, hg, Hz, m30⟩
   refine wp_seq_k (fun K6 hK6 => ?_)
   refine regS Hz (.move rfl <| .move rfl <| .len rfl U62 <| .lss rfl rfl <| .nil) ?_
   clear Hz Az; intro Az Hz
   refine bool_cases Hz (t := 28) rfl ?_ ?_
   ·
    clear Hz; intro hb35 Hz; try simp only [QQ, Qax] at hb35
    have hk : k < S.length := by have := hb35; first | omega | (simp at this; omega)
    refine wp_cond_true (Hz.ev (x := .tmp 28) rfl) ?_
    refine zss (hK6 _ _ ?_); clear hK6
    refine wp_seq_k (fun K7 hK7 => ?_)
    refine wp_block ?_
    obtain ⟨b36, o36, vs36, hp36, hR36, ho36, m36⟩ := m30.openR (i := 21) rfl (k) (r := [.ns .u8 (S.getD k [])]) (bD_get hk) 200 rfl
    cases hp36; clear m30 ho36
    rcases hR36 with _ | ⟨hd36_0, _ | _⟩
    obtain ⟨p37, c37, hv37, hc37⟩ := hd36_0.ns_shape; subst hv37
    have m37 := m36.dat 201 rfl (hd36_0.cast (fun _ h => (free_add rfl h))); clear m36 hd36_0
    have m38 : MemOk _ _ [(2, _), (6, _), (21, _), (22, _), (200, _), (201, _)] _ := m37.only [2, 6, 21, 22, 200, 201]; clear m37
    refine region_p 11 (B := [(2, _), (6, _), (21, _), (200, _), (201, _)]) (m38.to ⟨il, il, il, il, il, trivial⟩) m38 (by kernel_rfl) (fun w39 hP39 m39 => ?_); clear m38
    refine goR hP39 [0, 1, 2, 3, 4, 5, 6, 7] [1, 6] 8 0 255 Hz (m39.to ⟨il, il, il, il, il, trivial⟩) (.fa 4 rfl U24 <| .lb hh 6 U22 rfl rfl rfl <| .move rfl <| .move rfl <| .move rfl <| .p (fun _ _ h => y_idx h rfl rfl U62 fct15 (k) rfl (by rw [List.length_map]; exact hk)) <| .loadC0 hh (i := 200) rfl rfl U25 rfl <| .build rfl fct20 fl29iwh rfl (by dsimp only [setL, List.set] <;> rfl) <| .nil) ?_
    clear Hz Az; intro Az Hz
    refine stepE_only 8 rfl (by kernel_rfl) rfl (fun K hK => ?_)
    refine e_litR Hz m39 202 (mm := 2) rfl (.cons rfl rfl (.cons (.v _) (.cons (m39.rd (i := 201) rfl) .nil)) <| .nil) U22 fct21 rfl rfl rfl rfl rfl ?_
    clear Hz Az m39; intro g48 Az w49 Hz m49
    refine hK _ _ (m49.to ⟨il, il, il, il, il, trivial⟩) ?_; clear hK K
    have m51 := m49.freezeR 202 rfl; clear m49
    refine stepE_only 9 rfl (by kernel_rfl) rfl (fun K hK => ?_)
    refine e_appR Hz m51 22 rfl rfl rfl (m51.rd (i := 202) rfl) U22 fct21 rfl rfl (by decide) (by rw [List.length_map, wholeI_len]; simp; omega) rfl ?_
    clear Hz Az m51; intro p50 c50 Az w52 Hz m52
    refine hK _ _ (m52.to ⟨il, il, il, il, il, trivial⟩) ?_; clear hK K
    refine goA hP39 [10] 1 1023 2047 Hz (m52.to ⟨il, il, il, il, il, trivial⟩) (.fa 4 rfl U24 <| .nil) ?_
    clear Hz Az; intro Az Hz
    refine stepE_end 11 rfl (by kernel_rfl) rfl (by rfl) (fun K hK => ?_)
    refine e_store1 Hz m52 6 rfl rfl rfl rfl rfl fct16 (by dsimp only [List.set] <;> rfl) ?_
    clear m52; intro w54 m54 hB54
    clear hB54
    refine hK _ _ ?_; clear hK
    refine wpAnyE_done (by kernel_rfl) ?_ _
    refine hK7 _ _ ?_; clear hK7
    replace Hz : Has 43 [(2, _), (4, _), (6, _), (7, _)] Az := Hz.only [2, 4, 6, 7]
    refine wp_region_lit ?_
    refine goCh Hz (.move rfl <| .add rfl rfl (r := ((k + 1 : Nat) : Int)) (by rw [IntWalk.i64_in _ (by omega)]; omega) <| .assign rfl <| .nil) ?_
    clear Hz Az; intro Az Hz
    refine wpList_nil ?_
    show ∃ n', n' < _ ∧ _
    have hE : (wholeI S k).map itD ++ [[D.v (.int .i64 k), .ns .u8 (S.getD k [])]] = (wholeI S (k + 1)).map itD := by rw [wholeI_snoc, List.map_append]; rfl
    rw [hE] at m54
    exact ⟨S.length - (k + 1), by omega, k + 1, _, _, _, _, _, _, by omega, rfl, Hz.only [2, 4, 6, 7], m54.ren [(2, 2), (6, 6), (21, 21), (22, 22)] (by decide)⟩
   clear Hz; intro hb35 Hz; try simp only [QQ, Qax] at hb35
   have hke : k = S.length := by have := hb35; first | omega | (simp at this; omega)
   refine wp_cond_false (Hz.ev (x := .tmp 28) rfl) ?_
   refine wp_exit ?_
   refine hK5 _ _ ?_; clear hK5
   refine zsr fun K8 hK8 => ?_
   refine goCh Hz (.loadBR m30 (i := 6) rfl rfl U24 rfl fct2 (by simp) (by dsimp only [List.drop, List.take] <;> rfl) .nil) ?_
   clear Hz Az; intro Az Hz
   refine wpList_plain rfl (fun K hK => ?_)
   refine e_storeW Hz m30 2 rfl rfl rfl rfl rfl fct2 ?_
   clear m30; intro w61 m61 hB61
   clear hB61
   refine hK _ _ ?_; clear hK
   refine znl (hK8 _ _ ?_); clear hK8
   refine wp_ret ?_
   try dsimp only [Exit.then, Exit.inBlock]
   refine (retC (fn := Try.f8) Hz m61 (i := 2) rfl rfl rfl U24 rfl fct2 ?_)
   have m62 := m61.freezeR 22 rfl; clear m61
   rw [hke, List.length_map, wholeI_len] at m62
   rw [hke]
   exact ⟨y, S, _, _, by rw [List.length_map, wholeI_len], hS, hSl, hSz, m62.outF (i := 22) rfl, m62.below⟩
 replace Hz : Has 43 [(2, _), (3, _), (4, _)] Az := Hz.only [2, 3, 4]
 have m64 : MemOk _ _ [(70, _), (71, _), (72, _), (73, _), (74, _), (75, _)] _ := m21.only [70, 71, 72, 73, 74, 75]; clear m21
 refine region_p 9 (B := [(70, _), (71, _), (72, _), (73, _), (74, _), (75, _)]) (m64.to ⟨il, il, il, il, il, il, trivial⟩) m64 (by kernel_rfl) (fun w65 hP65 m65 => ?_); clear m64
 refine goR hP65 [0, 1, 2, 3, 4] [1, 3, 4] 5 0 31 Hz (m65.to ⟨il, il, il, il, il, il, trivial⟩) (.fa 1 rfl U49 <| .lb hh 74 U3 rfl rfl rfl <| .fa 2 rfl U49 <| .lb hh 74 U3 rfl rfl rfl <| .loadBR hh (i := 74) rfl rfl U49 rfl fct5 (by simp) (by dsimp only [List.drop, List.take] <;> rfl) <| .nil) ?_
 clear Hz Az; intro Az Hz
 refine d_two 5 7 rfl rfl (by kernel_rfl) rfl rfl (fun K hK => ?_) (fun K hK => ?_)
 ·
  refine e_call Hz Try.func20 rfl rfl rfl rfl (rlen_w _ _ _ _ _ _ _ _ _ _ _ _ _ _ _ y.ws _ _) ?_
  rintro e w71 ⟨rfl, hb71⟩
  have m72 := m65.later hb71
  clear m65
  clear hb71
  refine ⟨_, rfl, ?_⟩; clear Hz Az; intro Az Hz
  refine hK _ _ (fun _ => (m72.to ⟨il, il, il, il, il, il, trivial⟩)) ?_; clear hK K
  refine goA hP65 [6] 1 63 127 Hz (m72.to ⟨il, il, il, il, il, il, trivial⟩) (.build rfl fct37 fl24iwh rfl (by dsimp only [setL, List.set] <;> rfl) <| .nil) ?_
  clear Hz Az; intro Az Hz
  refine stepE_only 7 rfl (by kernel_rfl) rfl (fun K hK => ?_)
  refine e_alloc Hz m72 76 fct37 rfl ?_
  clear Hz Az m72; intro g75 Az w76 Hz m76 hB76 hg76
  clear hB76 hg76
  refine hK _ _ (m76.to ⟨il, il, il, il, il, il, trivial⟩) ?_; clear hK K
  refine stepE_only 8 rfl (by kernel_rfl) rfl (fun K hK => ?_)
  refine e_storeW Hz m76 76 rfl rfl rfl rfl rfl fct2 ?_
  clear m76; intro w77 m77 hB77
  clear hB77
  refine hK _ _ (m77.to ⟨il, il, il, il, il, il, trivial⟩) ?_; clear hK K
  refine wpAnyE_done (by kernel_rfl) ?_ _
  show K4 _ _
  exact hC4 _ _ ⟨_, _, _, _, Hz.only [2, 4, 6], m77.ren [(2, 70), (6, 76), (21, 75)] (by decide)⟩
 refine e_alloc Hz m65 76 fct37 rfl ?_
 clear Hz Az m65; intro g78 Az w79 Hz m79 hB79 hg79
 clear hB79 hg79
 refine hK _ _ (fun _ => (m79.to ⟨il, il, il, il, il, il, trivial⟩)) ?_; clear hK K
 refine stepE_only 5 rfl (by kernel_rfl) rfl (fun K hK => ?_)
 refine e_call Hz Try.func20 rfl rfl rfl rfl (rlen_w _ _ _ _ _ _ _ _ _ _ _ _ _ _ _ y.ws _ _) ?_
 rintro e w80 ⟨rfl, hb80⟩
 have m81 := m79.later hb80
 clear m79
 clear hb80
 refine ⟨_, rfl, ?_⟩; clear Hz Az; intro Az Hz
 refine hK _ _ (m81.to ⟨il, il, il, il, il, il, trivial⟩) ?_; clear hK K
 refine goA hP65 [6] 1 191 255 Hz (m81.to ⟨il, il, il, il, il, il, trivial⟩) (.build rfl fct37 fl24iwh rfl (by dsimp only [setL, List.set] <;> rfl) <| .nil) ?_
 clear Hz Az; intro Az Hz
 refine stepE_only 8 rfl (by kernel_rfl) rfl (fun K hK => ?_)
 refine e_storeW Hz m81 76 rfl rfl rfl rfl rfl fct2 ?_
 clear m81; intro w84 m84 hB84
 clear hB84
 refine hK _ _ (m84.to ⟨il, il, il, il, il, il, trivial⟩) ?_; clear hK K
 refine wpAnyE_done (by kernel_rfl) ?_ _
 show K4 _ _
 exact hC4 _ _ ⟨_, _, _, _, Hz.only [2, 4, 6], m84.ren [(2, 70), (6, 76), (21, 75)] (by decide)⟩
end Go.Proofs.Ytkdnhndjjfjppaa.K
