/- intake: a volume of numbers as a whole stream of bytes; the reference's Blocks of it. -/
import Derived.Test.YtkdnhndjjfjppaaInt1
namespace Go.Proofs.Ytkdnhndjjfjppaa.K
open Go.ChangeShapes Go.WideShapes Go.ChangeAt Go.RowKit
set_option linter.unusedVariables false
set_option linter.unusedSimpArgs false
theorem fl24jwh : flatS Try.prog 24 [.int .i64 0, .int .i64 0, .int .i64 0, .int .i64 0, .slice none 0 0] = true := by kernel_rfl
theorem fl29jwh : flatS Try.prog 29 [.int .i64 0, .slice none 0 0] = true := by kernel_rfl
theorem stSteps_by (l : List PI) (hl : ∀ x ∈ l, BytesL x.2) : ∀ (L : List (List Int)), (∀ d ∈ L, BytesL d) → ∀ d ∈ l.foldl stStep L, BytesL d := by
 induction l with
 | nil => intro L h; exact h
 | cons x l ih =>
   intro L h
   rw [List.foldl_cons]
   refine ih (fun y hy => hl y (List.mem_cons_of_mem _ hy)) _ (fun d hd => ?_)
   unfold stStep at hd
   split at hd
   · rcases List.mem_or_eq_of_mem_set hd with h1 | rfl
     · exact h d h1
     exact hl x List.mem_cons_self
   exact h d hd
theorem stWs_by (l : List PWr) (hl : ∀ e ∈ l, ∀ x ∈ e.2, BytesL x.2) : ∀ (L : List (List Int)), (∀ d ∈ L, BytesL d) → ∀ d ∈ l.foldl stW L, BytesL d := by
 induction l with
 | nil => intro L h; exact h
 | cons e l ih => intro L h; rw [List.foldl_cons]; exact ih (fun y hy => hl y (List.mem_cons_of_mem _ hy)) _ (stSteps_by e.2 (hl e List.mem_cons_self) L h)
theorem stL_by {ws : List PWr} (h : WBy ws) (bl sz : Int) (t k : Nat) (hk : k < (stL bl sz ws t).length) : BytesL ((stL bl sz ws t).getD k []) := by
 rw [List.getD, List.getElem?_eq_getElem hk]
 exact stWs_by _ (fun e he x hx => h e (List.mem_of_mem_take he) x hx) _ (fun d hd9 => by rw [(List.mem_replicate.1 hd9).2]; intro x hx; rw [(List.mem_replicate.1 hx).2]; decide) _ (List.getElem_mem hk)
set_option maxRecDepth 100000
set_option maxHeartbeats 4000000
theorem whole_b (l : List Int) (pl : Option Addr) (cl : Nat) (w0 : World) (h1 : Rd (fun _ => True) w0 (.slice pl l.length cl) (.ns .u8 l)) (hl60 : l.length ≤ 60) (hlb : ∀ j, j < l.length → 0 ≤ l.getD j 0 ∧ l.getD j 0 ≤ 255) :
   Calls Try.prog 8 #[.slice pl l.length cl] w0 fun e w' => ∃ (y : VolV) (S : List (List Int)) (p : Option Addr) (c : Nat), e = .returned (.agg #[.int .i64 y.bl, .int .i64 y.sz, .int .i64 (-1), .int .i64 y.ws.length, .slice p S.length c]) ∧ VolS l.length y ∧ (S.length : Int) = y.bl ∧ (∀ k, k < S.length → ((S.getD k []).length : Int) = y.sz) ∧ (∀ k, k < S.length → BytesL (S.getD k [])) ∧ Rd (New w0) w' (.slice p S.length c) (.l 2 ((wholeI S S.length).map itD)) ∧ Below w0.heap.size w0 w' := by
 refine ent1 Try.func8 rfl Try.ntmps8 fun Az Hz => ?_
 have m0 := MemOk.start (fun _ => False) w0
 refine sr fun K0 hK0 => ?_
 refine wpList_plain rfl (fun K hK => ?_)
 refine e_alloc Hz m0 70 fct5 rfl ?_
 clear Hz Az m0; intro g1 Az w2 Hz m2 hB2 hg2
 clear hB2 hg2
 refine hK _ _ ?_; clear hK
 refine nl (hK0 _ _ ?_); clear hK0
 refine sr fun K1 hK1 => ?_
 refine goCh Hz (.move rfl .nil) ?_
 clear Hz Az; intro Az Hz
 refine wpList_plain rfl (fun K hK => ?_)
 refine e_call Hz Try.func24 rfl rfl rfl rfl (svol_any l _ _ _ ((h1.now' m2 rfl).any) (by omega) hlb) ?_
 rintro e w5 ⟨y, p15, p25, p35, d15, d25, d35, rfl, hS, hd5, he5, hf5, hb5⟩
 have m6 := m2.callF3 71 72 73 rfl rfl rfl hb5 hd5 he5 hf5
 clear m2
 clear hb5 hd5 he5 hf5
 have hS0 := hS
 obtain ⟨hpl, hpn, hws, hwi⟩ := hS.sm
 obtain ⟨hV, hh0, hpn9, hws9, hwb9⟩ := hS0
 have hV9 := hV
 obtain ⟨v1, v2, v3, v4, v5, v6, v7, v8, v9⟩ := hV9
 have v0 := v1
 obtain ⟨n1, n2, n3, n4, n5, n6, n7, n8, n9, n10, n11⟩ := v0
 have hwo := hV.its
 refine ⟨_, rfl, ?_⟩; clear Hz Az; intro Az Hz
 refine hK _ _ ?_; clear hK
 refine wpList_plain rfl (fun K hK => ?_)
 refine e_alloc Hz m6 74 fct7 rfl ?_
 clear Hz Az m6; intro g8 Az w9 Hz m9 hB9 hg9
 clear hB9 hg9
 refine hK _ _ ?_; clear hK
 refine wpList_plain rfl (fun K hK => ?_)
 refine e_storeW Hz m9 74 rfl rfl rfl rfl rfl fct2 ?_
 clear m9; intro w10 m10 hB10
 clear hB10
 refine hK _ _ ?_; clear hK
 refine nl (hK1 _ _ ?_); clear hK1
 refine sr fun K2 hK2 => ?_
 refine goCh Hz (.fieldAddr (off := 8) rfl U49 rfl (s := 0) (by kernel_rfl) rfl .nil) ?_
 clear Hz Az; intro Az Hz
 refine wpList_plain rfl (fun K hK => ?_)
 refine e_store1 Hz m10 74 rfl rfl rfl rfl rfl fct14 (by dsimp only [List.set] <;> rfl) ?_
 clear m10; intro w13 m13 hB13
 clear hB13
 refine hK _ _ ?_; clear hK
 refine nl (hK2 _ _ ?_); clear hK2
 refine wp_seq_k (fun K3 hK3 => ?_)
 have m14 : MemOk _ _ [(70, _), (71, _), (72, _), (73, _), (74, _)] _ := m13.only [70, 71, 72, 73, 74]; clear m13
 refine region_p 9 (B := [(70, _), (71, _), (72, _), (73, _), (74, _)]) (m14.to ⟨il, il, il, il, il, trivial⟩) m14 (by kernel_rfl) (fun w15 hP15 m15 => ?_); clear m14
 refine goR hP15 [0, 1] [0, 1] 2 0 3 Hz (m15.to ⟨il, il, il, il, il, trivial⟩) (.loadBR hh (i := 74) rfl rfl U49 rfl fct2 (by simp) (by dsimp only [List.drop, List.take] <;> rfl) <| .loadBR hh (i := 74) rfl rfl U49 rfl fct2 (by simp) (by dsimp only [List.drop, List.take] <;> rfl) <| .nil) ?_
 clear Hz Az; intro Az Hz
 refine stepE_only 2 rfl (by kernel_rfl) rfl (fun K hK => ?_)
 refine e_call Hz Try.func20 rfl rfl rfl rfl (rlen_w _ _ _ _ _ _ _ _ _ _ _ _ _ _ _ y.ws _ _) ?_
 rintro e w18 ⟨rfl, hb18⟩
 have m19 := m15.later hb18
 clear m15
 clear hb18
 refine ⟨_, rfl, ?_⟩; clear Hz Az; intro Az Hz
 refine hK _ _ (m19.to ⟨il, il, il, il, il, trivial⟩) ?_; clear hK K
 refine stepE_only 3 rfl (by kernel_rfl) rfl (fun K hK => ?_)
 refine e_call Hz Try.func21 rfl rfl rfl rfl (rstate_w _ y _ hS (by omega) _ _ _ _ _ _ 0 _ y.ws.length rfl _ (fun b hb => (List.not_mem_nil (a := b)) hb) (by omega) (Nat.le_refl _) (m19.into [(3, 73)] (by decide) rfl)) ?_
 rintro e w21 ⟨p21, c21, rfl, hm21⟩
 have mx21 := m19.back hm21 [(73, 3), (75, 9)] (by decide); clear hm21 m19
 have m21 : MemOk _ _ [(73, _), (75, _), (70, _), (71, _), (72, _), (74, _)] _ := mx21.only [73, 75, 70, 71, 72, 74]; clear mx21
 refine ⟨_, rfl, ?_⟩; clear Hz Az; intro Az Hz
 refine hK _ _ (m21.to ⟨il, il, il, il, il, trivial⟩) ?_; clear hK K
 obtain ⟨S, hS9⟩ : ∃ S, stL y.bl y.sz y.ws y.ws.length = S := ⟨_, rfl⟩
 have hSl : (S.length : Int) = y.bl := by rw [← hS9, stL_len]; omega
 have hSz : ∀ k, k < S.length → ((S.getD k []).length : Int) = y.sz := fun k hk => by have h9 := stL_sz hV y.ws.length k (by rw [hS9]; exact hk); rwa [hS9] at h9
 have hSb : ∀ k, k < S.length → BytesL (S.getD k []) := fun k hk => by have h9 := stL_by hS.2.2.2.2 y.bl y.sz y.ws.length k (by rw [hS9]; exact hk); rwa [hS9] at h9
 rw [hS9] at m21 Hz
 refine goA hP15 [4, 5, 6, 7, 8] 5 15 511 Hz (m21.to ⟨il, il, il, il, il, trivial⟩) (.move rfl <| .extract rfl rfl <| .extract rfl rfl <| .assign rfl <| .assign rfl <| .nil) ?_
 clear Hz Az; intro Az Hz
 refine wpAnyE_done (by kernel_rfl) ?_ _
 refine hK3 _ _ ?_; clear hK3
 refine wp_seq_k (fun K4 hK4 => ?_)
 have hC4 : ∀ (a : Act) (w : World), (∃ (B2 B6 : Nat) (pa : Option Addr) (ca : Nat), Has 43 [(2, .pointer (some ⟨B2, 0, none⟩)), (4, .slice pa (S.map bD).length ca), (6, .pointer (some ⟨B6, 0, none⟩))] a ∧ MemOk (cn w0) w0 [(2, .box B2 24 [.int .i64 0, .int .i64 0, .int .i64 0, .int .i64 0, .slice none 0 0]), (6, .box B6 24 [.int .i64 y.bl, .int .i64 y.sz, .int .i64 (-1), .int .i64 y.ws.length, .slice none 0 0]), (21, .dat (.slice pa (S.map bD).length ca) (.l 1 (S.map bD)))] w) → K4 a w := by
   clear Hz m21
   rintro Az w28 ⟨B2, B6, pa, ca, Hz, m28⟩
   refine hK4 _ _ ?_; clear hK4
   refine wp_seq_k (fun K5 hK5 => ?_)
   refine regS Hz (.assign rfl <| .nil) ?_
   clear Hz Az; intro Az Hz
   refine wp_block ?_
   refine wp_loop_ghost (fun g a w => ∃ (k B2 B6 : Nat) (pa p : Option Addr) (ca c : Nat), k ≤ S.length ∧ g = S.length - k ∧ Has 43 [(2, .pointer (some ⟨B2, 0, none⟩)), (4, .slice pa (S.map bD).length ca), (6, .pointer (some ⟨B6, 0, none⟩)), (7, .int .i64 k)] a ∧ MemOk (cn w0) w0 [(2, .box B2 24 [.int .i64 0, .int .i64 0, .int .i64 0, .int .i64 0, .slice none 0 0]), (6, .box B6 24 [.int .i64 y.bl, .int .i64 y.sz, .int .i64 (-1), .int .i64 y.ws.length, .slice p ((wholeI S k).map itD).length c]), (21, .dat (.slice pa (S.map bD).length ca) (.l 1 (S.map bD))), (22, .row (.slice p ((wholeI S k).map itD).length c) 29 2 ((wholeI S k).map itD))] w) (S.length) ?_ ?_
   · have mz := m28.nilR 22 29 2
     exact ⟨0, _, _, _, _, _, _, Nat.zero_le _, rfl, Hz.only [2, 4, 6, 7], mz.ren [(2, 2), (6, 6), (21, 21), (22, 22)] (by decide)⟩
   clear Hz m28
   rintro g Az w30 ⟨k, B2, B6, pa, p, ca, c, hkl, hg, Hz, m30⟩
   refine wp_seq_k (fun K6 hK6 => ?_)
   refine regS Hz (.move rfl <| .move rfl <| .len rfl U62 <| .lss rfl rfl <| .nil) ?_
   clear Hz Az; intro Az Hz
   refine bool_cases Hz (t := 28) rfl ?_ ?_
   ·
    clear Hz; intro hb35 Hz; try simp only [QQ, Qax] at hb35
    have hk : k < S.length := by have := hb35; first | omega | (simp at this; omega)
    refine wp_cond_true (Hz.ev (x := .tmp 28) rfl) ?_
    refine ss (hK6 _ _ ?_); clear hK6
    refine wp_seq_k (fun K7 hK7 => ?_)
    refine wp_block ?_
    obtain ⟨b36, o36, vs36, hp36, hR36, ho36, m36⟩ := m30.openR (i := 21) rfl (k) (r := [.ns .u8 (S.getD k [])]) (bD_get hk) 200 rfl
    cases hp36; clear m30 ho36
    rcases hR36 with _ | ⟨hd36_0, _ | _⟩
    obtain ⟨p37, c37, hv37, hc37⟩ := hd36_0.ns_shape; subst hv37
    have m37 := m36.dat 201 rfl (hd36_0.cast (fun _ h => (free_add rfl h))); clear m36 hd36_0
    have m38 : MemOk _ _ [(2, _), (6, _), (21, _), (22, _), (200, _), (201, _)] _ := m37.only [2, 6, 21, 22, 200, 201]; clear m37
    refine region_p 11 (B := [(2, _), (6, _), (21, _), (200, _), (201, _)]) (m38.to ⟨il, il, il, il, il, trivial⟩) m38 (by kernel_rfl) (fun w39 hP39 m39 => ?_); clear m38
    refine goR hP39 [0, 1, 2, 3, 4, 5, 6, 7] [1, 6] 8 0 255 Hz (m39.to ⟨il, il, il, il, il, trivial⟩) (.fa 4 rfl U24 <| .lb hh 6 U22 rfl rfl rfl <| .move rfl <| .move rfl <| .move rfl <| .p (fun _ _ h => y_idx h rfl rfl U62 fct21 (k) rfl (by rw [List.length_map]; exact hk)) <| .loadC0 hh (i := 200) rfl rfl U25 rfl <| .build rfl fct11 fl29jwh rfl (by dsimp only [setL, List.set] <;> rfl) <| .nil) ?_
    clear Hz Az; intro Az Hz
    refine stepE_only 8 rfl (by kernel_rfl) rfl (fun K hK => ?_)
    refine e_litR Hz m39 202 (mm := 2) rfl (.cons rfl rfl (.cons (.v _) (.cons (m39.rd (i := 201) rfl) .nil)) <| .nil) U22 fct24 rfl rfl rfl rfl rfl ?_
    clear Hz Az m39; intro g48 Az w49 Hz m49
    refine hK _ _ (m49.to ⟨il, il, il, il, il, trivial⟩) ?_; clear hK K
    have m51 := m49.freezeR 202 rfl; clear m49
    refine stepE_only 9 rfl (by kernel_rfl) rfl (fun K hK => ?_)
    refine e_appR Hz m51 22 rfl rfl rfl (m51.rd (i := 202) rfl) U22 fct24 rfl rfl (by decide) (by rw [List.length_map, wholeI_len]; simp; omega) rfl ?_
    clear Hz Az m51; intro p50 c50 Az w52 Hz m52
    refine hK _ _ (m52.to ⟨il, il, il, il, il, trivial⟩) ?_; clear hK K
    refine goA hP39 [10] 1 1023 2047 Hz (m52.to ⟨il, il, il, il, il, trivial⟩) (.fa 4 rfl U24 <| .nil) ?_
    clear Hz Az; intro Az Hz
    refine stepE_end 11 rfl (by kernel_rfl) rfl (by rfl) (fun K hK => ?_)
    refine e_store1 Hz m52 6 rfl rfl rfl rfl rfl fct15 (by dsimp only [List.set] <;> rfl) ?_
    clear m52; intro w54 m54 hB54
    clear hB54
    refine hK _ _ ?_; clear hK
    refine wpAnyE_done (by kernel_rfl) ?_ _
    refine hK7 _ _ ?_; clear hK7
    replace Hz : Has 43 [(2, _), (4, _), (6, _), (7, _)] Az := Hz.only [2, 4, 6, 7]
    refine wp_region_lit ?_
    refine goCh Hz (.move rfl <| .add rfl rfl (r := ((k + 1 : Nat) : Int)) (by rw [IntWalk.i64_in _ (by omega)]; omega) <| .assign rfl <| .nil) ?_
    clear Hz Az; intro Az Hz
    refine wpList_nil ?_
    show ∃ n', n' < _ ∧ _
    have hE : (wholeI S k).map itD ++ [[D.v (.int .i64 k), .ns .u8 (S.getD k [])]] = (wholeI S (k + 1)).map itD := by rw [wholeI_snoc, List.map_append]; rfl
    rw [hE] at m54
    exact ⟨S.length - (k + 1), by omega, k + 1, _, _, _, _, _, _, by omega, rfl, Hz.only [2, 4, 6, 7], m54.ren [(2, 2), (6, 6), (21, 21), (22, 22)] (by decide)⟩
   clear Hz; intro hb35 Hz; try simp only [QQ, Qax] at hb35
   have hke : k = S.length := by have := hb35; first | omega | (simp at this; omega)
   refine wp_cond_false (Hz.ev (x := .tmp 28) rfl) ?_
   refine wp_exit ?_
   refine hK5 _ _ ?_; clear hK5
   refine sr fun K8 hK8 => ?_
   refine goCh Hz (.loadBR m30 (i := 6) rfl rfl U24 rfl fct1 (by simp) (by dsimp only [List.drop, List.take] <;> rfl) .nil) ?_
   clear Hz Az; intro Az Hz
   refine wpList_plain rfl (fun K hK => ?_)
   refine e_storeW Hz m30 2 rfl rfl rfl rfl rfl fct1 ?_
   clear m30; intro w61 m61 hB61
   clear hB61
   refine hK _ _ ?_; clear hK
   refine nl (hK8 _ _ ?_); clear hK8
   refine wp_ret ?_
   try dsimp only [Exit.then, Exit.inBlock]
   refine (retC (fn := Try.f8) Hz m61 (i := 2) rfl rfl rfl U24 rfl fct1 ?_)
   have m62 := m61.freezeR 22 rfl; clear m61
   rw [hke, List.length_map, wholeI_len] at m62
   rw [hke]
   exact ⟨y, S, _, _, by rw [List.length_map, wholeI_len], hS, hSl, hSz, hSb, m62.outF (i := 22) rfl, m62.below⟩
 replace Hz : Has 43 [(2, _), (3, _), (4, _)] Az := Hz.only [2, 3, 4]
 have m64 : MemOk _ _ [(70, _), (71, _), (72, _), (73, _), (74, _), (75, _)] _ := m21.only [70, 71, 72, 73, 74, 75]; clear m21
 refine region_p 9 (B := [(70, _), (71, _), (72, _), (73, _), (74, _), (75, _)]) (m64.to ⟨il, il, il, il, il, il, trivial⟩) m64 (by kernel_rfl) (fun w65 hP65 m65 => ?_); clear m64
 refine goR hP65 [0, 1, 2, 3, 4] [1, 3, 4] 5 0 31 Hz (m65.to ⟨il, il, il, il, il, il, trivial⟩) (.fa 1 rfl U49 <| .lb hh 74 U3 rfl rfl rfl <| .fa 2 rfl U49 <| .lb hh 74 U3 rfl rfl rfl <| .loadBR hh (i := 74) rfl rfl U49 rfl fct2 (by simp) (by dsimp only [List.drop, List.take] <;> rfl) <| .nil) ?_
 clear Hz Az; intro Az Hz
 refine d_two 5 7 rfl rfl (by kernel_rfl) rfl rfl (fun K hK => ?_) (fun K hK => ?_)
 ·
  refine e_call Hz Try.func20 rfl rfl rfl rfl (rlen_w _ _ _ _ _ _ _ _ _ _ _ _ _ _ _ y.ws _ _) ?_
  rintro e w71 ⟨rfl, hb71⟩
  have m72 := m65.later hb71
  clear m65
  clear hb71
  refine ⟨_, rfl, ?_⟩; clear Hz Az; intro Az Hz
  refine hK _ _ (fun _ => (m72.to ⟨il, il, il, il, il, il, trivial⟩)) ?_; clear hK K
  refine goA hP65 [6] 1 63 127 Hz (m72.to ⟨il, il, il, il, il, il, trivial⟩) (.build rfl fct5 fl24jwh rfl (by dsimp only [setL, List.set] <;> rfl) <| .nil) ?_
  clear Hz Az; intro Az Hz
  refine stepE_only 7 rfl (by kernel_rfl) rfl (fun K hK => ?_)
  refine e_alloc Hz m72 76 fct5 rfl ?_
  clear Hz Az m72; intro g75 Az w76 Hz m76 hB76 hg76
  clear hB76 hg76
  refine hK _ _ (m76.to ⟨il, il, il, il, il, il, trivial⟩) ?_; clear hK K
  refine stepE_only 8 rfl (by kernel_rfl) rfl (fun K hK => ?_)
  refine e_storeW Hz m76 76 rfl rfl rfl rfl rfl fct1 ?_
  clear m76; intro w77 m77 hB77
  clear hB77
  refine hK _ _ (m77.to ⟨il, il, il, il, il, il, trivial⟩) ?_; clear hK K
  refine wpAnyE_done (by kernel_rfl) ?_ _
  show K4 _ _
  exact hC4 _ _ ⟨_, _, _, _, Hz.only [2, 4, 6], m77.ren [(2, 70), (6, 76), (21, 75)] (by decide)⟩
 refine e_alloc Hz m65 76 fct5 rfl ?_
 clear Hz Az m65; intro g78 Az w79 Hz m79 hB79 hg79
 clear hB79 hg79
 refine hK _ _ (fun _ => (m79.to ⟨il, il, il, il, il, il, trivial⟩)) ?_; clear hK K
 refine stepE_only 5 rfl (by kernel_rfl) rfl (fun K hK => ?_)
 refine e_call Hz Try.func20 rfl rfl rfl rfl (rlen_w _ _ _ _ _ _ _ _ _ _ _ _ _ _ _ y.ws _ _) ?_
 rintro e w80 ⟨rfl, hb80⟩
 have m81 := m79.later hb80
 clear m79
 clear hb80
 refine ⟨_, rfl, ?_⟩; clear Hz Az; intro Az Hz
 refine hK _ _ (m81.to ⟨il, il, il, il, il, il, trivial⟩) ?_; clear hK K
 refine goA hP65 [6] 1 191 255 Hz (m81.to ⟨il, il, il, il, il, il, trivial⟩) (.build rfl fct5 fl24jwh rfl (by dsimp only [setL, List.set] <;> rfl) <| .nil) ?_
 clear Hz Az; intro Az Hz
 refine stepE_only 8 rfl (by kernel_rfl) rfl (fun K hK => ?_)
 refine e_storeW Hz m81 76 rfl rfl rfl rfl rfl fct1 ?_
 clear m81; intro w84 m84 hB84
 clear hB84
 refine hK _ _ (m84.to ⟨il, il, il, il, il, il, trivial⟩) ?_; clear hK K
 refine wpAnyE_done (by kernel_rfl) ?_ _
 show K4 _ _
 exact hC4 _ _ ⟨_, _, _, _, Hz.only [2, 4, 6], m84.ren [(2, 70), (6, 76), (21, 75)] (by decide)⟩
theorem r21right_yes (bl sz fr to : Int) (its : List (Int × List Int)) (pi : Option Addr) (ni ci : Nat) (w0 : World) (h1 : Rd (fun _ => True) w0 (.slice pi ni ci) (.l 2 (its.map itD))) (hs : StreamOk bl sz fr to its) (hfr : fr = -1) :
   Calls Try.prog 30 #[.agg #[.int .i64 bl, .int .i64 sz, .int .i64 fr, .int .i64 to, .slice pi ni ci]] w0 fun e w' => e = .returned (.bool true) ∧ Below w0.heap.size w0 w' := by
 obtain rfl : ni = its.length := by obtain ⟨pq, cq, hv, _⟩ := h1.l_shape; injection hv with _ e2 _; rw [List.length_map] at e2; exact e2
 refine ent1 Try.func30 rfl Try.ntmps30 fun Az Hz => ?_
 have m0 := MemOk.start (fun _ => False) w0
 have hil : its.length ≤ 256 := hs.len
 obtain ⟨hb9, hz9, hf9, ht9, hft9, hl9, hi9, hle9⟩ := hs
 have hlE := hl9 hfr
 refine sr fun K0 hK0 => ?_
 refine wpList_plain rfl (fun K hK => ?_)
 refine e_box Hz m0 20 (cs := [_, _, _, _, _]) rfl rfl rfl ?_
 clear Hz Az m0; intro g1 Az w2 Hz m2 hB2 hg2
 clear hB2 hg2
 refine hK _ _ ?_; clear hK
 refine goCh Hz (.assign rfl .nil) ?_
 clear Hz Az; intro Az Hz
 refine nl (hK0 _ _ ?_); clear hK0
 refine wp_seq_k (fun K1 hK1 => ?_)
 refine sr fun K2 hK2 => ?_
 refine goCh Hz (.fa 0 rfl U24 <| .lb m2 20 U3 rfl rfl rfl <| .lss rfl rfl <| .move rfl <| .nil) ?_
 clear Hz Az; intro Az Hz
 refine bool_cases Hz (t := 8) rfl ?_ ?_
 · intro hb _; exact absurd hb (by first | (simp; done) | (simp; omega))
 clear Hz; intro _ Hz
 refine goCh Hz (.faZ 0 rfl U24 <| .loadB1Z m2 (i := 20) rfl rfl rfl U3 rfl <| .gtrZ rfl rfl <| .pickF rfl rfl <| .move rfl <| .nil) ?_
 clear Hz Az; intro Az Hz
 refine bool_cases Hz (t := 13) rfl ?_ ?_
 · intro hb _; exact absurd hb (by first | (simp; done) | (simp; omega))
 clear Hz; intro _ Hz
 refine goCh Hz (.faZ 1 rfl U24 <| .loadB1Z m2 (i := 20) rfl rfl rfl U3 rfl <| .lssZ rfl rfl <| .pickF rfl rfl <| .move rfl <| .nil) ?_
 clear Hz Az; intro Az Hz
 refine bool_cases Hz (t := 18) rfl ?_ ?_
 · intro hb _; exact absurd hb (by first | (simp; done) | (simp; omega))
 clear Hz; intro _ Hz
 refine goCh Hz (.faZ 1 rfl U24 <| .loadB1Z m2 (i := 20) rfl rfl rfl U3 rfl <| .gtrZ rfl rfl <| .pickF rfl rfl <| .move rfl <| .nil) ?_
 clear Hz Az; intro Az Hz
 refine bool_cases Hz (t := 23) rfl ?_ ?_
 · intro hb _; exact absurd hb (by first | (simp; done) | (simp; omega))
 clear Hz; intro _ Hz
 refine goCh Hz (.faZ 2 rfl U24 <| .loadB1Z m2 (i := 20) rfl rfl rfl U2 rfl <| .lssZ rfl rfl <| .pickF rfl rfl <| .move rfl <| .nil) ?_
 clear Hz Az; intro Az Hz
 refine bool_cases Hz (t := 28) rfl ?_ ?_
 · intro hb _; exact absurd hb (by first | (simp; done) | (simp; omega))
 clear Hz; intro _ Hz
 refine goCh Hz (.faZ 3 rfl U24 <| .loadB1Z m2 (i := 20) rfl rfl rfl U2 rfl <| .lssZ rfl rfl <| .pickF rfl rfl <| .move rfl <| .nil) ?_
 clear Hz Az; intro Az Hz
 refine bool_cases Hz (t := 33) rfl ?_ ?_
 · intro hb _; exact absurd hb (by first | (simp; done) | (simp; omega))
 clear Hz; intro _ Hz
 refine goCh Hz (.faZ 3 rfl U24 <| .loadB1Z m2 (i := 20) rfl rfl rfl U2 rfl <| .gtrZ rfl rfl <| .pickF rfl rfl <| .move rfl <| .nil) ?_
 clear Hz Az; intro Az Hz
 refine bool_cases Hz (t := 38) rfl ?_ ?_
 · intro hb _; exact absurd hb (by first | (simp; done) | (simp; omega))
 clear Hz; intro _ Hz
 refine goCh Hz (.faZ 3 rfl U24 <| .loadB1Z m2 (i := 20) rfl rfl rfl U2 rfl <| .faZ 2 rfl U24 <| .loadB1Z m2 (i := 20) rfl rfl rfl U2 rfl <| .lssZ rfl rfl <| .pickF rfl rfl <| .move rfl <| .nil) ?_
 clear Hz Az; intro Az Hz
 refine bool_cases Hz (t := 45) rfl ?_ ?_
 · intro hb _; exact absurd hb (by first | (simp; done) | (simp; omega))
 clear Hz; intro _ Hz
 refine goCh Hz (.faZ 2 rfl U24 <| .loadB1Z m2 (i := 20) rfl rfl rfl U2 rfl <| .lssZ rfl rfl <| .moveZ rfl <| .nil) ?_
 clear Hz Az; intro Az Hz
 refine bool_cases Hz (t := 49) rfl ?_ ?_
 rotate_left
 · intro hb _; exact absurd hb (by simp; omega)
 clear Hz; intro _ Hz
 refine goCh Hz (.faZ 4 rfl U24 <| .loadB1Z m2 (i := 20) rfl rfl rfl U22 rfl <| .lenZ rfl U22 <| .faZ 0 rfl U24 <| .loadB1Z m2 (i := 20) rfl rfl rfl U3 rfl <| .neqZ rfl rfl <| .pickTZ rfl rfl <| .pickF rfl rfl <| .nil) ?_
 clear Hz Az; intro Az Hz
 refine nl (hK2 _ _ ?_); clear hK2
 refine bool_cases Hz (t := 57) rfl ?_ ?_
 · intro hb _; exact absurd hb (by first | (simp; done) | (simp; omega))
 clear Hz; intro _ Hz
 refine wp_cond_false (Hz.ev (x := .tmp 57) rfl) ?_
 refine ss (hK1 _ _ ?_); clear hK1
 replace Hz : Has 102 [(1, _), (2, _)] Az := Hz.only [1, 2]
 refine regS Hz (.assign rfl <| .nil) ?_
 clear Hz Az; intro Az Hz
 refine wp_seq_k (fun K3 hK3 => ?_)
 refine regS Hz (.assign rfl <| .nil) ?_
 clear Hz Az; intro Az Hz
 refine wp_block ?_
 refine wp_loop_ghost (fun g a w => ∃ (k B : Nat), k ≤ its.length ∧ g = its.length - k ∧ Has 102 [(1, .pointer (some ⟨B, 0, none⟩)), (3, .int .i64 (lastB its k)), (4, .int .i64 k)] a ∧ MemOk (cn w0) w0 [(9, .box B 24 [.int .i64 bl, .int .i64 sz, .int .i64 fr, .int .i64 to, .slice pi its.length ci])] w) (its.length) ?_ ?_
 · exact ⟨0, _, Nat.zero_le _, rfl, Hz.only [1, 3, 4], m2.ren [(9, 20)] (by decide)⟩
 clear Hz m2
 rintro g Az w74 ⟨k, B, hkl, hg, Hz, m74⟩
 refine wp_seq_k (fun K4 hK4 => ?_)
 refine regS Hz (.move rfl <| .fa 4 rfl U24 <| .lb m74 9 U22 rfl rfl rfl <| .len rfl U22 <| .lss rfl rfl <| .nil) ?_
 clear Hz Az; intro Az Hz
 refine bool_cases Hz (t := 62) rfl ?_ ?_
 ·
  clear Hz; intro hb80 Hz; try simp only [QQ, Qax] at hb80
  have hk : k < its.length := by have := hb80; first | omega | (simp at this; omega)
  obtain ⟨⟨xb, xd⟩, hes⟩ : ∃ e, its[k]? = some e := ⟨_, List.getElem?_eq_getElem hk⟩
  obtain ⟨hx1, hx2, hx3⟩ := hi9 k _ hes
  dsimp only at hx1 hx2 hx3
  refine wp_cond_true (Hz.ev (x := .tmp 62) rfl) ?_
  refine ss (hK4 _ _ ?_); clear hK4
  refine wp_seq_k (fun K5 hK5 => ?_)
  refine wp_block ?_
  refine wp_seq_k (fun K6 hK6 => ?_)
  refine wp_seq_k (fun K7 hK7 => ?_)
  obtain ⟨gx82, ox82, vx82, hp82, hl82, hR82, hrg82⟩ := h1.extA (k) (r := [.v (.int .i64 xb), .ns .u8 xd]) (itD_get hes)
  cases hp82; clear hl82
  rcases hR82 with _ | ⟨hd82_0, _ | ⟨hd82_1, _ | _⟩⟩
  obtain rfl := hd82_0.v_out
  clear hd82_0
  obtain ⟨p83, c83, hv83, hw83⟩ := hd82_1.ns_shape; subst hv83
  obtain ⟨gx85, ox85, vx85, hp85, hl85, hR85, hrg85⟩ := h1.extA (k) (r := [.v (.int .i64 xb), .ns .u8 xd]) (itD_get hes)
  cases hp85; clear hl85
  rcases hR85 with _ | ⟨hd85_0, _ | ⟨hd85_1, _ | _⟩⟩
  obtain rfl := hd85_0.v_out
  clear hd85_0
  obtain ⟨p86, c86, hv86, hw86⟩ := hd85_1.ns_shape; subst hv86
  obtain ⟨gx88, ox88, vx88, hp88, hl88, hR88, hrg88⟩ := h1.extA (k) (r := [.v (.int .i64 xb), .ns .u8 xd]) (itD_get hes)
  cases hp88; clear hl88
  rcases hR88 with _ | ⟨hd88_0, _ | ⟨hd88_1, _ | _⟩⟩
  obtain rfl := hd88_0.v_out
  clear hd88_0
  obtain ⟨p89, c89, hv89, hw89⟩ := hd88_1.ns_shape; subst hv89
  have m90 : MemOk _ _ [(9, _)] _ := m74.only [9]; clear m74
  refine region_p 31 (B := [(9, _)]) (m90.to ⟨il, trivial⟩) m90 (by kernel_rfl) (fun w91 hP91 m91 => ?_); clear m90
  refine goR hP91 [0, 1, 2, 3, 4, 5, 6, 7, 8] [1, 5] 9 0 511 Hz (m91.to ⟨il, trivial⟩) (.fa 4 rfl U24 <| .lb hh 9 U22 rfl rfl rfl <| .move rfl <| .p (fun _ _ h => y_idx h rfl rfl U22 fct10 (k) rfl hk) <| .fieldAddrQ 0 rfl U29 rfl (s := 0) (by kernel_rfl) rfl <| .loadAt1 (fun _ h => (hrg82 h rfl)) (q := 0) rfl rfl rfl U3 rfl <| .move rfl <| .leq rfl rfl <| .move rfl <| .nil) ?_
  clear Hz Az; intro Az Hz
  refine bool_cases Hz (t := 73) rfl ?_ ?_
  · intro hb _; exact absurd hb (by first | (simp; done) | (simp; omega))
  clear Hz; intro _ Hz
  refine goR hP91 [9, 10, 11, 12, 13, 14, 15, 16, 17, 18, 19] [10, 14, 16] 11 511 1048575 Hz (m91.to ⟨il, trivial⟩) (.fa 4 rfl U24 <| .lb hh 9 U22 rfl rfl rfl <| .move rfl <| .p (fun _ _ h => y_idx h rfl rfl U22 fct10 (k) rfl hk) <| .fieldAddrQ 0 rfl U29 rfl (s := 0) (by kernel_rfl) rfl <| .loadAt1 (fun _ h => (hrg85 h rfl)) (q := 0) rfl rfl rfl U3 rfl <| .fa 0 rfl U24 <| .lb hh 9 U3 rfl rfl rfl <| .geq rfl rfl <| .pickF rfl rfl <| .move rfl <| .nil) ?_
  clear Hz Az; intro Az Hz
  refine bool_cases Hz (t := 84) rfl ?_ ?_
  · intro hb _; exact absurd hb (by first | (simp; done) | (simp; omega))
  clear Hz; intro _ Hz
  refine goR hP91 [20, 21, 22, 23, 24, 25, 26, 27, 28, 29, 30] [21, 25, 28] 11 1048575 2147483647 Hz (m91.to ⟨il, trivial⟩) (.fa 4 rfl U24 <| .lb hh 9 U22 rfl rfl rfl <| .move rfl <| .p (fun _ _ h => y_idx h rfl rfl U22 fct10 (k) rfl hk) <| .fieldAddrQ 1 rfl U29 rfl (s := 0) (by kernel_rfl) rfl <| .loadAt1 (fun _ h => (hrg88 h rfl)) (q := 1) rfl rfl rfl U25 rfl <| .len rfl U25 <| .fa 1 rfl U24 <| .lb hh 9 U3 rfl rfl rfl <| .neq rfl rfl <| .pickF rfl rfl <| .nil) ?_
  clear Hz Az; intro Az Hz
  refine wpAnyE_done (by kernel_rfl) ?_ _
  refine hK7 _ _ ?_; clear hK7
  refine bool_cases Hz (t := 95) rfl ?_ ?_
  · intro hb _; exact absurd hb (by first | (simp; done) | (simp; omega))
  clear Hz; intro _ Hz
  refine wp_cond_false (Hz.ev (x := .tmp 95) rfl) ?_
  refine ss (hK6 _ _ ?_); clear hK6
  replace Hz : Has 102 [(1, _), (3, _), (4, _)] Az := Hz.only [1, 3, 4]
  refine wp_region_lit ?_
  refine goCh Hz (.fa 4 rfl U24 <| .lb m91 9 U22 rfl rfl rfl <| .move rfl <| .nil) ?_
  clear Hz Az; intro Az Hz
  obtain ⟨gx130, ox130, vx130, hp130, hl130, hR130, hrg130⟩ := h1.extA (k) (r := [.v (.int .i64 xb), .ns .u8 xd]) (itD_get hes)
  cases hp130; clear hl130
  rcases hR130 with _ | ⟨hd130_0, _ | ⟨hd130_1, _ | _⟩⟩
  obtain rfl := hd130_0.v_out
  clear hd130_0
  obtain ⟨p131, c131, hv131, hw131⟩ := hd130_1.ns_shape; subst hv131
  refine goCh Hz (.c rfl (fun _ h => y_idx h rfl rfl U22 fct10 (k) rfl hk) <| .fieldAddrQ 0 rfl U29 rfl (s := 0) (by kernel_rfl) rfl <| .loadAt1 (hrg130 m91 rfl) (q := 0) rfl rfl rfl U3 rfl <| .assign rfl <| .nil) ?_
  clear Hz Az; intro Az Hz
  refine nl (hK5 _ _ ?_); clear hK5
  replace Hz : Has 102 [(1, _), (3, _), (4, _)] Az := Hz.only [1, 3, 4]
  refine wp_region_lit ?_
  refine goCh Hz (.move rfl <| .add rfl rfl (r := ((k + 1 : Nat) : Int)) (by rw [IntWalk.i64_in _ (by omega)]; omega) <| .assign rfl <| .nil) ?_
  clear Hz Az; intro Az Hz
  refine wpList_nil ?_
  show ∃ n', n' < _ ∧ _
  have hlb : xb = lastB its (k + 1) := (lastB_next hes).symm
  rw [hlb] at Hz
  exact ⟨its.length - (k + 1), by omega, k + 1, _, by omega, rfl, Hz.only [1, 3, 4], m91.ren [(9, 9)] (by decide)⟩
 clear Hz; intro hb80 Hz; try simp only [QQ, Qax] at hb80
 refine wp_cond_false (Hz.ev (x := .tmp 62) rfl) ?_
 refine wp_exit ?_
 refine hK3 _ _ ?_; clear hK3
 refine regS Hz (.assign rfl <| .nil) ?_
 clear Hz Az; intro Az Hz
 refine wp_ret ?_
 try dsimp only [Exit.then, Exit.inBlock]
 refine (ret1 (fn := Try.f30) Hz rfl rfl ?_)
 exact ⟨by first | rfl | (simp; done) | (simp; omega), m74.below⟩
theorem rblocks_any (X : Cx) (bl sz fr to : Int) (S : List (List Int)) (pi : Option Addr) (ci : Nat) (w0 : World) (hs : StreamOk bl sz fr to (wholeI S S.length)) (hfr : fr = -1) (m0 : MemOk X w0 [(3, .dat (.slice pi ((wholeI S S.length).map itD).length ci) (.l 2 ((wholeI S S.length).map itD)))] w0) :
   Calls Try.prog 23 #[.agg #[.int .i64 bl, .int .i64 sz, .int .i64 fr, .int .i64 to, .slice pi ((wholeI S S.length).map itD).length ci]] w0 fun e w' => ∃ (p : Option Addr) (c : Nat), e = .returned (.slice p (S.map bD).length c) ∧ MemOk X w0 [(3, .dat (.slice pi ((wholeI S S.length).map itD).length ci) (.l 2 ((wholeI S S.length).map itD))), (9, .dat (.slice p (S.map bD).length c) (.l 1 (S.map bD)))] w' := by
 refine ent1 Try.func23 rfl Try.ntmps23 fun Az Hz => ?_
 have hSl := hs.len
 rw [wholeI_len] at hSl
 refine sr fun K0 hK0 => ?_
 refine wpList_plain rfl (fun K hK => ?_)
 refine e_box Hz m0 70 (cs := [_, _, _, _, _]) rfl rfl rfl ?_
 clear Hz Az m0; intro g1 Az w2 Hz m2 hB2 hg2
 clear hB2 hg2
 refine hK _ _ ?_; clear hK
 refine goCh Hz (.assign rfl .nil) ?_
 clear Hz Az; intro Az Hz
 refine nl (hK0 _ _ ?_); clear hK0
 refine wp_seq_k (fun K1 hK1 => ?_)
 refine sr fun K2 hK2 => ?_
 refine goCh Hz (.loadBR m2 (i := 70) rfl rfl U24 rfl fct1 (by simp) (by dsimp only [List.drop, List.take] <;> rfl) .nil) ?_
 clear Hz Az; intro Az Hz
 refine wpList_plain rfl (fun K hK => ?_)
 refine e_call Hz Try.func30 rfl rfl rfl rfl (r21right_yes bl sz fr to (wholeI S S.length) _ _ _ _ ((m2.rd (i := 3) rfl).any) hs hfr) ?_
 rintro e w6 ⟨rfl, hb6⟩
 have m7 := m2.later hb6
 clear m2
 clear hb6
 refine ⟨_, rfl, ?_⟩; clear Hz Az; intro Az Hz
 refine hK _ _ ?_; clear hK
 refine goCh Hz (.not rfl <| .move rfl <| .faZ 2 rfl U24 <| .loadB1Z m7 (i := 70) rfl rfl rfl U2 rfl <| .geqZ rfl rfl <| .pickF rfl rfl <| .nil) ?_
 clear Hz Az; intro Az Hz
 refine nl (hK2 _ _ ?_); clear hK2
 refine bool_cases Hz (t := 12) rfl ?_ ?_
 · intro hb _; exact absurd hb (by simp; omega)
 clear Hz; intro _ Hz
 refine wp_cond_false (Hz.ev (x := .tmp 12) rfl) ?_
 refine ss (hK1 _ _ ?_); clear hK1
 replace Hz : Has 30 [(1, _), (2, _)] Az := Hz.only [1, 2]
 refine regS Hz (.assign rfl <| .nil) ?_
 clear Hz Az; intro Az Hz
 refine wp_seq_k (fun K3 hK3 => ?_)
 refine regS Hz (.assign rfl <| .nil) ?_
 clear Hz Az; intro Az Hz
 refine wp_block ?_
 refine wp_loop_ghost (fun g a w => ∃ (k B : Nat) (p : Option Addr) (c : Nat), k ≤ S.length ∧ g = S.length - k ∧ Has 30 [(1, .pointer (some ⟨B, 0, none⟩)), (3, .slice p ((S.take k).map bD).length c), (4, .int .i64 k)] a ∧ MemOk X w0 [(1, .box B 24 [.int .i64 bl, .int .i64 sz, .int .i64 fr, .int .i64 to, .slice pi ((wholeI S S.length).map itD).length ci]), (3, .dat (.slice pi ((wholeI S S.length).map itD).length ci) (.l 2 ((wholeI S S.length).map itD))), (9, .row (.slice p ((S.take k).map bD).length c) 25 1 ((S.take k).map bD))] w) (S.length) ?_ ?_
 · have mz := m7.nilR 9 25 1
   exact ⟨0, _, _, _, Nat.zero_le _, rfl, Hz.only [1, 3, 4], mz.ren [(1, 70), (3, 3), (9, 9)] (by decide)⟩
 clear Hz m7
 rintro g Az w19 ⟨k, B, p, c, hkl, hg, Hz, m19⟩
 refine wp_seq_k (fun K4 hK4 => ?_)
 refine regS Hz (.move rfl <| .fa 4 rfl U24 <| .lb m19 1 U22 rfl rfl rfl <| .len rfl U22 <| .lss rfl rfl <| .nil) ?_
 clear Hz Az; intro Az Hz
 refine bool_cases Hz (t := 17) rfl ?_ ?_
 ·
  clear Hz; intro hb25 Hz; try simp only [QQ, Qax] at hb25
  have hk : k < S.length := by have := hb25; rw [List.length_map, wholeI_len] at this; omega
  refine wp_cond_true (Hz.ev (x := .tmp 17) rfl) ?_
  refine ss (hK4 _ _ ?_); clear hK4
  refine wp_seq_k (fun K5 hK5 => ?_)
  refine wp_block ?_
  refine wp_region_lit ?_
  refine goCh Hz (.move rfl <| .fa 4 rfl U24 <| .lb m19 1 U22 rfl rfl rfl <| .move rfl <| .nil) ?_
  clear Hz Az; intro Az Hz
  obtain ⟨b30, o30, vs30, hp30, hR30, ho30, m30⟩ := m19.openR (i := 3) rfl (k) (r := [.v (.int .i64 k), .ns .u8 (S.getD k [])]) (itD_get (wholeI_get hk)) 100 rfl
  cases hp30; clear m19 ho30
  rcases hR30 with _ | ⟨hd30_0, _ | ⟨hd30_1, _ | _⟩⟩
  obtain rfl := hd30_0.v_out
  clear hd30_0
  obtain ⟨p31, c31, hv31, hc31⟩ := hd30_1.ns_shape; subst hv31
  have m31 := m30.dat 101 rfl (hd30_1.cast (fun _ h => (free_add rfl h))); clear m30 hd30_1
  refine goCh Hz (.c rfl (fun _ h => y_idx h rfl rfl U22 fct10 (k) rfl (by rw [List.length_map, wholeI_len]; exact hk)) <| .fieldAddrQ 1 rfl U29 rfl (s := 0) (by kernel_rfl) rfl <| .loadC1 m31 (i := 100) (q := 1) rfl rfl rfl U25 rfl <| .nil) ?_
  clear Hz Az; intro Az Hz
  refine wpList_plain rfl (fun K hK => ?_)
  refine e_litR Hz m31 102 (mm := 1) rfl (.cons rfl rfl (.cons (m31.rd (i := 101) rfl) .nil) <| .nil) U62 fct29 rfl rfl rfl rfl rfl ?_
  clear Hz Az m31; intro g35 Az w36 Hz m36
  refine hK _ _ ?_; clear hK
  have m38 := m36.freezeR 102 rfl; clear m36
  refine wpList_plain rfl (fun K hK => ?_)
  refine e_appR Hz m38 9 rfl rfl rfl (m38.rd (i := 102) rfl) U62 fct29 rfl rfl (by decide) (by simp; omega) rfl ?_
  clear Hz Az m38; intro p37 c37 Az w39 Hz m39
  refine hK _ _ ?_; clear hK
  refine goCh Hz (.assign rfl .nil) ?_
  clear Hz Az; intro Az Hz
  refine nl (hK5 _ _ ?_); clear hK5
  replace Hz : Has 30 [(1, _), (3, _), (4, _)] Az := Hz.only [1, 3, 4]
  refine wp_region_lit ?_
  refine goCh Hz (.move rfl <| .add rfl rfl (r := ((k + 1 : Nat) : Int)) (by rw [IntWalk.i64_in _ (by omega)]; omega) <| .assign rfl <| .nil) ?_
  clear Hz Az; intro Az Hz
  refine wpList_nil ?_
  show ∃ n', n' < _ ∧ _
  have hE : (S.take k).map bD ++ [[D.ns .u8 (S.getD k [])]] = (S.take (k + 1)).map bD := by rw [List.take_succ_eq_append_getElem hk, List.map_append, List.getD, List.getElem?_eq_getElem hk]; rfl
  rw [hE] at m39 Hz
  exact ⟨S.length - (k + 1), by omega, k + 1, _, _, _, by omega, rfl, Hz.only [1, 3, 4], m39.ren [(1, 1), (3, 3), (9, 9)] (by decide)⟩
 clear Hz; intro hb25 Hz; try simp only [QQ, Qax] at hb25
 have hke : k = S.length := by have := hb25; rw [List.length_map, wholeI_len] at this; omega
 refine wp_cond_false (Hz.ev (x := .tmp 17) rfl) ?_
 refine wp_exit ?_
 refine hK3 _ _ ?_; clear hK3
 refine regS Hz (.move rfl <| .assign rfl <| .nil) ?_
 clear Hz Az; intro Az Hz
 refine wp_ret ?_
 try dsimp only [Exit.then, Exit.inBlock]
 refine (ret1 (fn := Try.f23) Hz rfl rfl ?_)
 have m47 := m19.freezeR 9 rfl; clear m19
 rw [hke, List.take_length] at m47
 rw [hke, List.take_length]
 exact ⟨_, _, rfl, m47.ren [(3, 3), (9, 9)] (by decide)⟩
end Go.Proofs.Ytkdnhndjjfjppaa.K
