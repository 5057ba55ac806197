/- intake: the plan of a whole stream. -/
import Derived.Test.YtkdnhndjjfjppaaInt2
namespace Go.Proofs.Ytkdnhndjjfjppaa.K
open Go.ChangeShapes Go.WideShapes Go.ChangeAt Go.RowKit
set_option linter.unusedVariables false
set_option linter.unusedSimpArgs false
theorem fl57iply : flatS Try.prog 57 [.int .i64 0, .int .i64 0, .int .i64 0, .int .i64 0, .int .i64 0, .slice none 0 0, .int .i64 0, .int .i64 0, .int .i64 0, .slice none 0 0] = true := by kernel_rfl
set_option maxRecDepth 100000
set_option maxHeartbeats 4000000
theorem plan_yes (bl sz fr to vo pe : Int) (its : List (Int × List Int)) (pi : Option Addr) (ni ci : Nat) (pl : List Int) (pq : Option Addr) (cq : Nat) (n T : Nat) (S : Nat → Prop) (w0 : World) (h1 : Rd S w0 (.slice pi ni ci) (.l 2 (its.map itD))) (h2 : Rd (fun _ => True) w0 (.slice pq pl.length cq) (.ns .i64 pl)) (hs : StreamOk bl sz fr to its) (hio : ItsOk its) (hn1 : 1 ≤ n) (hn8 : n ≤ 8) (hpl : pl.length ≤ 1000000) (hT : (bl + (n : Int) - 1) / (n : Int) = (T : Int)) (hf : fr = -1) (hN : NewOk vo bl sz pe T pl) :
   Calls Try.prog 9 #[.agg #[.int .i64 bl, .int .i64 sz, .int .i64 fr, .int .i64 to, .slice pi ni ci], .int .i64 vo, .int .i64 pe, .slice pq pl.length cq, .int .i64 (n : Int)] w0 fun e w' => ∃ p c, e = .returned (.tuple #[.slice p (planL vo pe pl bl sz its n T).length c, .int .i64 0]) ∧ Rd (Out S w0) w' (.slice p (planL vo pe pl bl sz its n T).length c) (.l 10 ((planL vo pe pl bl sz its n T).map cmdD)) ∧ Below w0.heap.size w0 w' := by
 obtain rfl : ni = its.length := by obtain ⟨pq, cq, hv, _⟩ := h1.l_shape; injection hv with _ e2 _; rw [List.length_map] at e2; exact e2
 refine ent5 Try.func9 rfl Try.ntmps9 fun Az Hz => ?_
 have m0 := (MemOk.start S w0).dat 60 rfl (h1.cast (fun b hb => free_nil (fun _ => hb)))
 have hcap : its.length ≤ ci := by obtain ⟨pq, cq, hv, hcap⟩ := h1.l_shape; injection hv with _ _ e3; rw [List.length_map] at hcap; omega
 have hlen := hs.len
 have hbb := hs.b
 have hTb : T ≤ 256 := plan_T hn1 hbb hT
 have hil : (its.length : Int) = bl := hs.l (by omega)
 refine zsr fun K0 hK0 => ?_
 refine wpList_plain rfl (fun K hK => ?_)
 refine e_box Hz m0 70 (cs := [_, _, _, _, _]) rfl rfl rfl ?_
 clear Hz Az m0; intro g1 Az w2 Hz m2 hB2 hg2
 clear hB2 hg2
 refine hK _ _ ?_; clear hK
 refine goCh Hz (.assign rfl <| .assign rfl <| .nil) ?_
 clear Hz Az; intro Az Hz
 refine znl (hK0 _ _ ?_); clear hK0
 refine wp_seq_k (fun K1 hK1 => ?_)
 refine zsr fun K2 hK2 => ?_
 refine goCh Hz (.loadBR m2 (i := 70) rfl rfl U24 rfl fct2 (by simp) (by dsimp only [List.drop, List.take] <;> rfl) .nil) ?_
 clear Hz Az; intro Az Hz
 refine wpList_plain rfl (fun K hK => ?_)
 refine e_call Hz Try.func25 rfl rfl rfl rfl (sright_yes bl sz fr to its _ _ _ _ ((m2.rd (i := 60) rfl).any) hs) ?_
 rintro e w7 ⟨rfl, hb7⟩
 have m8 := m2.later hb7
 clear m2
 clear hb7
 refine ⟨_, rfl, ?_⟩; clear Hz Az; intro Az Hz
 refine hK _ _ ?_; clear hK
 refine goCh Hz (.not rfl <| .move rfl <| .moveZ rfl <| .lssZ rfl rfl <| .pickF rfl rfl <| .move rfl <| .nil) ?_
 clear Hz Az; intro Az Hz
 refine bool_cases Hz (t := 25) rfl ?_ ?_
 · intro hb _; exact absurd hb (by simp; omega)
 clear Hz; intro _ Hz
 refine goCh Hz (.moveZ rfl <| .gtrZ rfl rfl <| .pickF rfl rfl <| .nil) ?_
 clear Hz Az; intro Az Hz
 refine znl (hK2 _ _ ?_); clear hK2
 refine bool_cases Hz (t := 28) rfl ?_ ?_
 · intro hb _; exact absurd hb (by simp; omega)
 clear Hz; intro _ Hz
 refine wp_cond_false (Hz.ev (x := .tmp 28) rfl) ?_
 refine zss (hK1 _ _ ?_); clear hK1
 refine wp_seq_k (fun K3 hK3 => ?_)
 have hC3 : ∀ (a : Act) (w : World), (∃ (B5 B12 : Nat) (p2 : Option Addr) (c2 : Nat), Has 92 [(1, .int .i64 vo), (4, .int .i64 (n : Int)), (5, .pointer (some ⟨B5, 0, none⟩)), (12, .pointer (some ⟨B12, 0, none⟩))] a ∧ MemOk (cx S w0) w0 [(1, .box B5 24 [.int .i64 bl, .int .i64 sz, .int .i64 fr, .int .i64 to, .slice pi its.length ci]), (2, .box B12 57 [.int .i64 1, .int .i64 vo, .int .i64 bl, .int .i64 sz, .int .i64 pe, .slice p2 pl.length c2, .int .i64 (T : Int), .int .i64 0, .int .i64 0, .slice none 0 0]), (3, .dat (.slice p2 pl.length c2) (.ns .i64 pl)), (60, .dat (.slice pi its.length ci) (.l 2 (its.map itD)))] w) → K3 a w := by
   clear Hz m8
   rintro Az w21 ⟨B5, B12, p2, c2, Hz, m21⟩
   refine hK3 _ _ ?_; clear hK3
   refine wp_seq_k (fun K4 hK4 => ?_)
   refine zsr fun K5 hK5 => ?_
   refine goCh Hz (.loadBR m21 (i := 2) rfl rfl U57 rfl fct1 (by simp) (by dsimp only [List.drop, List.take] <;> rfl) .nil) ?_
   clear Hz Az; intro Az Hz
   refine wpList_plain rfl (fun K hK => ?_)
   refine e_call Hz Try.func26 rfl rfl rfl rfl (vnew_y _ vo bl sz pe _ _ _ pl _ _ _ _ _ _ ((m21.rd (i := 3) rfl).any) (by omega) hN) ?_
   rintro e w24 ⟨p24, c24, rfl, hd24, hb24⟩
   have m25 := m21.callF 100 rfl hb24 hd24
   clear m21
   clear hb24 hd24
   refine ⟨_, rfl, ?_⟩; clear Hz Az; intro Az Hz
   refine hK _ _ ?_; clear hK
   refine goCh Hz (.move rfl <| .extract rfl rfl <| .extract rfl rfl <| .nil) ?_
   clear Hz Az; intro Az Hz
   refine wpList_plain rfl (fun K hK => ?_)
   refine e_alloc Hz m25 101 fct6 rfl ?_
   clear Hz Az m25; intro g30 Az w31 Hz m31 hB31 hg31
   clear hB31 hg31
   refine hK _ _ ?_; clear hK
   refine wpList_plain rfl (fun K hK => ?_)
   refine e_storeW Hz m31 101 rfl rfl rfl rfl rfl fct5 ?_
   clear m31; intro w32 m32 hB32
   clear hB32
   refine hK _ _ ?_; clear hK
   refine goCh Hz (.assign rfl .nil) ?_
   clear Hz Az; intro Az Hz
   refine znl (hK5 _ _ ?_); clear hK5
   replace Hz : Has 92 [(1, _), (4, _), (5, _), (12, _), (14, _)] Az := Hz.only [1, 4, 5, 12, 14]
   refine regS Hz (.move rfl <| .neq rfl rfl <| .nil) ?_
   clear Hz Az; intro Az Hz
   refine bool_cases Hz (t := 51) rfl ?_ ?_
   · intro hb _; exact absurd hb (by simp)
   clear Hz; intro _ Hz
   refine wp_cond_false (Hz.ev (x := .tmp 51) rfl) ?_
   refine zss (hK4 _ _ ?_); clear hK4
   refine wp_seq_k (fun K6 hK6 => ?_)
   refine zsr fun K7 hK7 => ?_
   refine goCh Hz (.loadBR m32 (i := 1) rfl rfl U24 rfl fct2 (by simp) (by dsimp only [List.drop, List.take] <;> rfl) .nil) ?_
   clear Hz Az; intro Az Hz
   refine wpList_plain rfl (fun K hK => ?_)
   refine e_litR Hz m32 102 (mm := 5) rfl (.cons rfl rfl (.cons (.v _) (.cons (.v _) (.cons (.v _) (.cons (.v _) (.cons (m32.rd (i := 60) rfl) .nil))))) <| .nil) U39 fct4 rfl rfl rfl rfl rfl ?_
   clear Hz Az m32; intro g40 Az w41 Hz m41
   refine hK _ _ ?_; clear hK
   have m42 := m41.freezeR 102 rfl; clear m41
   refine wpList_plain rfl (fun K hK => ?_)
   refine e_call Hz Try.func27 rfl rfl rfl rfl (cright_one bl sz fr to its _ _ _ ((m42.rd (i := 102) rfl).any) hs (by omega)) ?_
   rintro e w43 ⟨rfl, hb43⟩
   have m44 := m42.later hb43
   clear m42
   clear hb43
   refine ⟨_, rfl, ?_⟩; clear Hz Az; intro Az Hz
   refine hK _ _ ?_; clear hK
   refine goCh Hz (.not rfl .nil) ?_
   clear Hz Az; intro Az Hz
   refine znl (hK7 _ _ ?_); clear hK7
   refine wp_cond_false (Hz.ev (x := .tmp 56) rfl) ?_
   refine zss (hK6 _ _ ?_); clear hK6
   replace Hz : Has 92 [(1, _), (4, _), (5, _), (12, _)] Az := Hz.only [1, 4, 5, 12]
   refine zsr fun K8 hK8 => ?_
   refine goCh Hz (.loadBR m44 (i := 2) rfl rfl U57 rfl fct1 (by simp) (by dsimp only [List.drop, List.take] <;> rfl) .nil) ?_
   clear Hz Az; intro Az Hz
   refine wpList_plain rfl (fun K hK => ?_)
   refine e_litR Hz m44 103 (mm := 10) rfl (.cons rfl rfl (.cons (.v _) (.cons (.v _) (.cons (.v _) (.cons (.v _) (.cons (.v _) (.cons (m44.rd (i := 3) rfl) (.cons (.v _) (.cons (.v _) (.cons (.v _) (.cons (.l0 _ _ 2) .nil)))))))))) <| .nil) U31 fct8 rfl rfl rfl rfl rfl ?_
   clear Hz Az m44; intro g50 Az w51 Hz m51
   refine hK _ _ ?_; clear hK
   refine goCh Hz (.assign rfl .nil) ?_
   clear Hz Az; intro Az Hz
   refine znl (hK8 _ _ ?_); clear hK8
   refine wp_seq_k (fun K9 hK9 => ?_)
   refine regS Hz (.fa 6 rfl U57 <| .lb m51 2 U3 rfl rfl rfl <| .move rfl <| .nil) ?_
   clear Hz Az; intro Az Hz
   refine wp_block ?_
   refine wp_loop_ghost (fun g a w => ∃ (k B5 B12 : Nat) (p2 p : Option Addr) (c2 c : Nat), k ≤ T ∧ g = T - k ∧ Has 92 [(1, .int .i64 vo), (4, .int .i64 (n : Int)), (5, .pointer (some ⟨B5, 0, none⟩)), (12, .pointer (some ⟨B12, 0, none⟩)), (15, .slice p ((planH vo pe pl bl sz T :: (List.range k).map (impR vo its n)).map cmdD).length c), (60, .int .i64 (T : Int)), (61, .int .i64 k)] a ∧ MemOk (cx S w0) w0 [(1, .box B5 24 [.int .i64 bl, .int .i64 sz, .int .i64 fr, .int .i64 to, .slice pi its.length ci]), (2, .box B12 57 [.int .i64 1, .int .i64 vo, .int .i64 bl, .int .i64 sz, .int .i64 pe, .slice p2 pl.length c2, .int .i64 (T : Int), .int .i64 0, .int .i64 0, .slice none 0 0]), (3, .dat (.slice p2 pl.length c2) (.ns .i64 pl)), (60, .dat (.slice pi its.length ci) (.l 2 (its.map itD))), (9, .row (.slice p ((planH vo pe pl bl sz T :: (List.range k).map (impR vo its n)).map cmdD).length c) 57 10 ((planH vo pe pl bl sz T :: (List.range k).map (impR vo its n)).map cmdD))] w) (T) ?_ ?_
   · exact ⟨0, _, _, _, _, _, _, Nat.zero_le _, rfl, Hz.only [1, 4, 5, 12, 15, 60, 61], m51.ren [(1, 1), (2, 2), (3, 3), (60, 60), (9, 103)] (by decide)⟩
   clear Hz m51
   rintro g Az w56 ⟨k, B5, B12, p2, p, c2, c, hkl, hg, Hz, m56⟩
   refine regS Hz (.lss rfl rfl <| .nil) ?_
   clear Hz Az; intro Az Hz
   refine wp_seq_k (fun K10 hK10 => ?_)
   refine bool_cases Hz (t := 62) rfl ?_ ?_
   ·
    clear Hz; intro hb58 Hz; try simp only [QQ, Qax] at hb58
    have hk : k < T := by have := hb58; first | omega | (simp at this; omega)
    obtain ⟨hkn, hkn1, hkn2, hkn3⟩ := plan_math hn1 hn8 hT hTb hil hk
    refine wp_cond_true (Hz.ev (x := .tmp 62) rfl) ?_
    refine zss (hK10 _ _ ?_); clear hK10
    refine wp_seq_k (fun K11 hK11 => ?_)
    refine wp_block ?_
    refine regS Hz (.move rfl <| .assign rfl <| .nil) ?_
    clear Hz Az; intro Az Hz
    refine zsr fun K12 hK12 => ?_
    refine goCh Hz (.fa 4 rfl U24 <| .lb m56 1 U22 rfl rfl rfl <| .move rfl <| .move rfl <| .mul rfl rfl (r := ((k * n : Nat) : Int)) (by rw [hkn1]; exact IntWalk.i64_in _ (by omega)) <| .move rfl <| .add rfl rfl (r := ((k + 1 : Nat) : Int)) (by rw [IntWalk.i64_in _ (by omega)]; omega) <| .move rfl <| .mul rfl rfl (r := (((k + 1) * n : Nat) : Int)) (by rw [hkn2]; exact IntWalk.i64_in _ (by omega)) <| .fa 4 rfl U24 <| .lb m56 1 U22 rfl rfl rfl <| .len rfl U22 <| .c rfl (fun _ h => y_min h rfl rfl (r := ((min ((k + 1) * n) its.length : Nat) : Int)) (by omega)) <| .nil) ?_
    clear Hz Az; intro Az Hz
    obtain ⟨P2, hP2⟩ : ∃ x, (if ci = k * n then pi else pi.map (·.add (k * n * 2))) = x := ⟨_, rfl⟩
    obtain ⟨C2, hC2⟩ : ∃ x, ci - k * n = x := ⟨_, rfl⟩
    have hW2l : (chunkI its n k).length = min ((k + 1) * n) its.length - k * n := by rw [chunkI, List.length_drop, List.length_take]; omega
    have h1b := (h1.takeL (min ((k + 1) * n) its.length) (by rw [List.length_map]; omega)).dropL (k * n) (by rw [List.length_take, List.length_map]; omega)
    rw [hP2, hC2, ← List.map_take, ← List.map_drop, ← hW2l] at h1b
    rw [show (its.take (min ((k + 1) * n) its.length)).drop (k * n) = chunkI its n k from rfl] at h1b
    refine goCh Hz (.c rfl (fun _ h => y_sliceLHn h (k * n) (min ((k + 1) * n) its.length) rfl rfl rfl U22 fct9 rfl rfl (by omega) (by omega) hP2 hC2 hW2l.symm) <| .assign rfl <| .nil) ?_
    clear Hz Az; intro Az Hz
    refine znl (hK12 _ _ ?_); clear hK12
    replace Hz : Has 92 [(1, _), (4, _), (5, _), (12, _), (15, _), (60, _), (61, _), (16, _), (17, _)] Az := Hz.only [1, 4, 5, 12, 15, 60, 61, 16, 17]
    refine wp_region_lit ?_
    refine goCh Hz (.move rfl <| .move rfl <| .move rfl <| .move rfl <| .nil) ?_
    clear Hz Az; intro Az Hz
    refine wpList_plain rfl (fun K hK => ?_)
    refine e_call Hz Try.func28 rfl rfl rfl rfl (items_any (chunkI its n k) _ _ _ _ ((h1b.now' m56 rfl).any) (by have := chunkI_len (its := its) (n := n) (k := k); omega) (fun e he => hio e (chunkI_mem he))) ?_
    rintro e w94 ⟨p94, c94, rfl, hd94, hb94⟩
    have m95 := m56.callF 200 rfl hb94 hd94
    clear m56
    clear hb94 hd94
    refine ⟨_, rfl, ?_⟩; clear Hz Az; intro Az Hz
    refine hK _ _ ?_; clear hK
    refine goCh Hz (.build rfl fct7 fl57iply rfl (by dsimp only [setL, List.set] <;> rfl) .nil) ?_
    clear Hz Az; intro Az Hz
    refine wpList_plain rfl (fun K hK => ?_)
    refine e_litR Hz m95 201 (mm := 10) rfl (.cons rfl rfl (.cons (.v _) (.cons (.v _) (.cons (.v _) (.cons (.v _) (.cons (.v _) (.cons (Rd.nilN _ _ .i64 _) (.cons (.v _) (.cons (.v _) (.cons (.v _) (.cons (m95.rd (i := 200) rfl) .nil)))))))))) <| .nil) U31 fct8 rfl rfl rfl rfl rfl ?_
    clear Hz Az m95; intro g98 Az w99 Hz m99
    refine hK _ _ ?_; clear hK
    have m101 := m99.freezeR 201 rfl; clear m99
    refine wpList_plain rfl (fun K hK => ?_)
    refine e_appR Hz m101 9 rfl rfl rfl (m101.rd (i := 201) rfl) U31 fct8 rfl rfl (by decide) (by rw [List.length_map]; simp; omega) rfl ?_
    clear Hz Az m101; intro p100 c100 Az w102 Hz m102
    refine hK _ _ ?_; clear hK
    refine goCh Hz (.assign rfl .nil) ?_
    clear Hz Az; intro Az Hz
    refine znl (hK11 _ _ ?_); clear hK11
    replace Hz : Has 92 [(1, _), (4, _), (5, _), (12, _), (15, _), (60, _), (61, _)] Az := Hz.only [1, 4, 5, 12, 15, 60, 61]
    refine wp_region_lit ?_
    refine goCh Hz (.add rfl rfl (r := ((k + 1 : Nat) : Int)) (by rw [IntWalk.i64_in _ (by omega)]; omega) <| .move rfl <| .nil) ?_
    clear Hz Az; intro Az Hz
    refine wpList_nil ?_
    show ∃ n', n' < _ ∧ _
    have hE : ((planH vo pe pl bl sz T :: (List.range k).map (impR vo its n)).map cmdD) ++ [[.v (.int .i64 (impR vo its n k).kd), .v (.int .i64 (impR vo its n k).vo), .v (.int .i64 (impR vo its n k).bl), .v (.int .i64 (impR vo its n k).sz), .v (.int .i64 (impR vo its n k).pe), .ns .i64 (impR vo its n k).pl, .v (.int .i64 (impR vo its n k).to), .v (.int .i64 (impR vo its n k).at0), .v (.int .i64 (impR vo its n k).ix), .l 2 ((impR vo its n k).its.map itD)]] = ((planH vo pe pl bl sz T :: (List.range (k + 1)).map (impR vo its n)).map cmdD) := by rw [List.range_succ, List.map_append, ← List.cons_append, List.map_append]; rfl
    have mE := m102
    have aE := Hz
    rw [show ((planH vo pe pl bl sz T :: (List.range k).map (impR vo its n)).map cmdD) ++ [[.v (.int .i64 6), .v (.int .i64 vo), .v (.int .i64 0), .v (.int .i64 0), .v (.int .i64 0), .ns .i64 [], .v (.int .i64 0), .v (.int .i64 0), .v (.int .i64 (k : Int)), .l 2 ((chunkI its n k).map itD)]] = ((planH vo pe pl bl sz T :: (List.range (k + 1)).map (impR vo its n)).map cmdD) from hE] at mE aE
    exact ⟨T - (k + 1), by omega, k + 1, _, _, _, _, _, _, by omega, rfl, aE.only [1, 4, 5, 12, 15, 60, 61], mE.ren [(1, 1), (2, 2), (3, 3), (60, 60), (9, 9)] (by decide)⟩
   clear Hz; intro hb58 Hz; try simp only [QQ, Qax] at hb58
   have hke : k = T := by have := hb58; first | omega | (simp at this; omega)
   refine wp_cond_false (Hz.ev (x := .tmp 62) rfl) ?_
   refine wp_exit ?_
   refine hK9 _ _ ?_; clear hK9
   refine zsr fun K13 hK13 => ?_
   refine goCh Hz (.move rfl <| .move rfl <| .build rfl fct7 fl57iply rfl (by dsimp only [setL, List.set] <;> rfl) <| .nil) ?_
   clear Hz Az; intro Az Hz
   refine wpList_plain rfl (fun K hK => ?_)
   refine e_litR Hz m56 200 (mm := 10) rfl (.cons rfl rfl (.cons (.v _) (.cons (.v _) (.cons (.v _) (.cons (.v _) (.cons (.v _) (.cons (Rd.nilN _ _ .i64 _) (.cons (.v _) (.cons (.v _) (.cons (.v _) (.cons (.l0 _ _ 2) .nil)))))))))) <| .nil) U31 fct8 rfl rfl rfl rfl rfl ?_
   clear Hz Az m56; intro g113 Az w114 Hz m114
   refine hK _ _ ?_; clear hK
   have m116 := m114.freezeR 200 rfl; clear m114
   refine wpList_plain rfl (fun K hK => ?_)
   refine e_appR Hz m116 9 rfl rfl rfl (m116.rd (i := 200) rfl) U31 fct8 rfl rfl (by decide) (by rw [List.length_map]; simp; omega) rfl ?_
   clear Hz Az m116; intro p115 c115 Az w117 Hz m117
   refine hK _ _ ?_; clear hK
   refine goCh Hz (.assign rfl <| .assign rfl <| .nil) ?_
   clear Hz Az; intro Az Hz
   refine znl (hK13 _ _ ?_); clear hK13
   refine wp_ret ?_
   try dsimp only [Exit.then, Exit.inBlock]
   refine (ret2 (fn := Try.f9) Hz rfl rfl rfl ?_)
   have m120 := m117.freezeR 9 rfl; clear m117
   have mE := m120
   rw [show ((planH vo pe pl bl sz T :: (List.range k).map (impR vo its n)).map cmdD) ++ [[.v (.int .i64 7), .v (.int .i64 vo), .v (.int .i64 0), .v (.int .i64 0), .v (.int .i64 0), .ns .i64 [], .v (.int .i64 0), .v (.int .i64 0), .v (.int .i64 0), .l 2 []]] = (planL vo pe pl bl sz its n T).map cmdD from by rw [hke, planL, List.map_append]; rfl, List.length_map] at mE
   rw [show ((planH vo pe pl bl sz T :: (List.range k).map (impR vo its n)).map cmdD) ++ [[.v (.int .i64 7), .v (.int .i64 vo), .v (.int .i64 0), .v (.int .i64 0), .v (.int .i64 0), .ns .i64 [], .v (.int .i64 0), .v (.int .i64 0), .v (.int .i64 0), .l 2 []]] = (planL vo pe pl bl sz its n T).map cmdD from by rw [hke, planL, List.map_append]; rfl]
   exact ⟨_, _, by rw [List.length_map], outS mE (i := 9) rfl, mE.below⟩
 replace Hz : Has 92 [(1, _), (2, _), (3, _), (4, _), (5, _), (10, _), (11, _)] Az := Hz.only [1, 2, 3, 4, 5, 10, 11]
 have m122 : MemOk _ _ [(60, _), (70, _)] _ := m8.only [60, 70]; clear m8
 refine region_p 18 (B := [(60, _), (70, _)]) (m122.to ⟨il, il, trivial⟩) m122 (by kernel_rfl) (fun w123 hP123 m123 => ?_); clear m122
 refine goR hP123 [0, 1, 2, 3, 4, 5, 6, 8, 9, 10, 11, 12, 13, 14] [2, 4, 9] 14 0 32639 Hz (m123.to ⟨il, il, trivial⟩) (.move rfl <| .fa 0 rfl U24 <| .lb hh 70 U3 rfl rfl rfl <| .fa 1 rfl U24 <| .lb hh 70 U3 rfl rfl rfl <| .move rfl <| .move rfl <| .fa 0 rfl U24 <| .lb hh 70 U3 rfl rfl rfl <| .move rfl <| .add rfl rfl (r := bl + (n : Int)) (IntWalk.i64_in _ (by omega)) <| .sub rfl rfl (r := bl + (n : Int) - 1) (IntWalk.i64_in _ (by omega)) <| .move rfl <| .quo rfl rfl (by omega) (r := (T : Int)) (by rw [Int.tdiv_eq_ediv_of_nonneg (by omega), hT]; exact IntWalk.i64_in _ (by omega)) <| .nil) ?_
 clear Hz Az; intro Az Hz
 refine d_two 7 16 rfl rfl (by kernel_rfl) rfl rfl (fun K hK => ?_) (fun K hK => ?_)
 ·
  refine e_app0N Hz m123 71 rfl rfl (h2.now' m123 rfl).ns_out.nums U26 fct3 (by decide) (by omega) rfl ?_
  clear Hz Az m123; intro p138 c138 Az w139 Hz m139
  refine hK _ _ (fun _ => (m139.to ⟨il, il, trivial⟩)) ?_; clear hK K
  refine goA hP123 [15] 1 32767 65535 Hz (m139.to ⟨il, il, trivial⟩) (.build rfl fct7 fl57iply rfl (by dsimp only [setL, List.set] <;> rfl) <| .nil) ?_
  clear Hz Az; intro Az Hz
  refine stepE_only 16 rfl (by kernel_rfl) rfl (fun K hK => ?_)
  refine e_alloc Hz m139 72 fct7 rfl ?_
  clear Hz Az m139; intro g141 Az w142 Hz m142 hB142 hg142
  clear hB142 hg142
  refine hK _ _ (m142.to ⟨il, il, trivial⟩) ?_; clear hK K
  refine stepE_only 17 rfl (by kernel_rfl) rfl (fun K hK => ?_)
  refine e_storeW Hz m142 72 rfl rfl rfl rfl rfl fct1 ?_
  clear m142; intro w143 m143 hB143
  clear hB143
  refine hK _ _ (m143.to ⟨il, il, trivial⟩) ?_; clear hK K
  refine wpAnyE_done (by kernel_rfl) ?_ _
  have m144 := m143.freezeN 71 rfl; clear m143
  show K3 _ _
  exact hC3 _ _ ⟨_, _, _, _, Hz.only [1, 4, 5, 12], m144.ren [(1, 70), (2, 72), (3, 71), (60, 60)] (by decide)⟩
 refine e_alloc Hz m123 71 fct7 rfl ?_
 clear Hz Az m123; intro g145 Az w146 Hz m146 hB146 hg146
 clear hB146 hg146
 refine hK _ _ (fun _ => (m146.to ⟨il, il, trivial⟩)) ?_; clear hK K
 refine stepE_only 7 rfl (by kernel_rfl) rfl (fun K hK => ?_)
 refine e_app0N Hz m146 72 rfl rfl (h2.now' m146 rfl).ns_out.nums U26 fct3 (by decide) (by omega) rfl ?_
 clear Hz Az m146; intro p147 c147 Az w148 Hz m148
 refine hK _ _ (m148.to ⟨il, il, trivial⟩) ?_; clear hK K
 refine goA hP123 [15] 1 98303 131071 Hz (m148.to ⟨il, il, trivial⟩) (.build rfl fct7 fl57iply rfl (by dsimp only [setL, List.set] <;> rfl) <| .nil) ?_
 clear Hz Az; intro Az Hz
 refine stepE_only 17 rfl (by kernel_rfl) rfl (fun K hK => ?_)
 refine e_storeW Hz m148 71 rfl rfl rfl rfl rfl fct1 ?_
 clear m148; intro w150 m150 hB150
 clear hB150
 refine hK _ _ (m150.to ⟨il, il, trivial⟩) ?_; clear hK K
 refine wpAnyE_done (by kernel_rfl) ?_ _
 have m151 := m150.freezeN 72 rfl; clear m150
 show K3 _ _
 exact hC3 _ _ ⟨_, _, _, _, Hz.only [1, 4, 5, 12], m151.ren [(1, 70), (2, 71), (3, 72), (60, 60)] (by decide)⟩
end Go.Proofs.Ytkdnhndjjfjppaa.K
