/- stream: StreamBurst's walk. -/
import Derived.Test.YtodiklpfdfjikaaDoorStr16m
namespace Go.Proofs.YtodiklpfdfjikaaDoor.K
open Go.ChangeShapes Go.WideShapes Go.ChangeAt Go.RowKit
set_option linter.unusedVariables false
set_option linter.unusedSimpArgs false
theorem burst_er {bs ys Fo : List Int} {E F : Nat} {bl sz fr to bl2 sz2 fr2 to2 er : Int} {its its2 : List (Int × List Int)} (hs : StreamOk bl sz fr to its) (hby : ∀ e ∈ its, BytesL e.2) (hbs : bodyB bl sz fr to its = bs) (hFo : fourC (sumC [bs]) = Fo) (hyl : ys.length = bs.length) (hyb : BytesL ys) (hbsb : BytesL bs) (hny : numB ys = numB bs ^^^ (E <<< F)) (hF : F < 8 * bs.length) (hE : E < 4294967296) (hR : ReadIs (ys ++ Fo) bl2 sz2 fr2 to2 its2 er) : er = if E = 0 then 0 else 24 := by
 have ho := open_burst bs ys E F hyl hbsb hyb (by omega) hE hny
 rw [hFo] at ho
 by_cases h0 : E = 0
 · rw [if_pos h0]
   rw [h0, Nat.zero_shiftLeft, Nat.xor_zero] at hny
   have hyb2 := numB_inj ys bs hyl hyb hbsb hny
   have hst : strB bl sz fr to its = ys ++ Fo := by rw [strB, hbs, hFo, hyb2]
   exact (ReadIs.one hR (.inl ⟨rfl, hs, hby, hst⟩)).1
 rw [if_neg h0]
 have hof : openB (ys ++ Fo) = false := by rw [ho]; exact decide_eq_false h0
 rcases hR with ⟨_, _, _, h3⟩ | ⟨h3, _⟩
 · have := (open_str bl2 sz2 fr2 to2 its2).1
   rw [h3, hof] at this; cases this
 rw [h3]; unfold errE
 have hFl : Fo.length = 4 := by rw [← hFo, fourC_len]
 rw [if_neg (by rw [List.length_append]; omega), if_pos hof]
set_option maxRecDepth 100000
set_option maxHeartbeats 4000000
theorem burst21_walk (l : List Int) (fv tv av xv : Nat) (pl : Option Addr) (cl : Nat) (w0 : World) (hT : TabOk w0) (h01 : 1 ≤ w0.heap.size) (h1 : Rd (fun _ => True) w0 (.slice pl l.length cl) (.ns .u8 l)) (hlb : ∀ j, j < l.length → 0 ≤ l.getD j 0 ∧ l.getD j 0 ≤ 255) (hf : fv ≤ 255) (ht : tv ≤ 255) (ha9 : av ≤ 65535) (hx9 : xv < 4294967296) :
   Calls Tryd.prog 4 #[.slice pl l.length cl, .int .u8 (fv : Int), .int .u8 (tv : Int), .int .u16 (av : Int), .int .u32 (xv : Int)] w0 fun e w' => e = .returned (.bool true) ∧ Below w0.heap.size w0 w' := by
 refine ent5 Tryd.func4 rfl Tryd.ntmps4 fun Az Hz => ?_
 have m0 := MemOk.start (fun _ => False) w0
 refine regS Hz (.assign rfl <| .nil) ?_
 clear Hz Az; intro Az Hz
 refine wp_seq_k (fun K0 hK0 => ?_)
 refine zsr fun K1 hK1 => ?_
 refine wpList_plain rfl (fun K hK => ?_)
 refine e_call Hz Tryd.func6 rfl rfl rfl rfl (sknown_any _ (hT.below m0.below h01) (Nat.le_trans h01 m0.below.size)) ?_
 rintro e w2 ⟨rfl, hb2⟩
 have m3 := m0.later hb2
 clear m0
 clear hb2
 refine ⟨_, rfl, ?_⟩; clear Hz Az; intro Az Hz
 refine hK _ _ ?_; clear hK
 refine goCh Hz (.not rfl .nil) ?_
 clear Hz Az; intro Az Hz
 refine znl (hK1 _ _ ?_); clear hK1
 refine wp_cond_false (Hz.ev (x := .tmp 20) rfl) ?_
 refine zss (hK0 _ _ ?_); clear hK0
 refine wp_seq_k (fun K2 hK2 => ?_)
 refine zsr fun K3 hK3 => ?_
 refine goCh Hz (.move rfl <| .len rfl U22 <| .gtr rfl rfl <| .move rfl <| .nil) ?_
 clear Hz Az; intro Az Hz
 refine bool_cases Hz (t := 24) rfl ?_ ?_
 ·
  clear Hz; intro hb14 Hz; try simp only [QQ, Qax] at hb14
  refine goCh Hz (.sk <| .sk <| .pickT rfl rfl <| .nil) ?_
  clear Hz Az; intro Az Hz
  refine znl (hK3 _ _ ?_); clear hK3
  refine wp_cond_true (Hz.ev (x := .tmp 27) rfl) ?_
  replace Hz : Has 96 [(0, _), (1, _), (2, _), (3, _), (4, _), (10, _), (24, _), (27, _)] Az := Hz.only [0, 1, 2, 3, 4, 10, 24, 27]
  refine regS Hz (.assign rfl <| .nil) ?_
  clear Hz Az; intro Az Hz
  refine wp_ret ?_
  try dsimp only [Exit.then, Exit.inBlock]
  refine (ret1 (fn := Tryd.f4) Hz rfl rfl ?_)
  exact ⟨(by first | rfl | (rw [hER]; by_cases h0 : xv % 2 ^ k = 0 <;> simp [h0]; done)), m3.below⟩
 clear Hz; intro hb14 Hz; try simp only [QQ, Qax] at hb14
 refine goCh Hz (.moveZ rfl <| .eqlZ rfl rfl <| .pickF rfl rfl <| .nil) ?_
 clear Hz Az; intro Az Hz
 refine znl (hK3 _ _ ?_); clear hK3
 refine bool_cases Hz (t := 27) rfl ?_ ?_
 ·
  clear Hz; intro hb23 Hz; try simp only [QQ, Qax] at hb23
  refine wp_cond_true (Hz.ev (x := .tmp 27) rfl) ?_
  replace Hz : Has 96 [(0, _), (1, _), (2, _), (3, _), (4, _), (10, _), (24, _), (27, _)] Az := Hz.only [0, 1, 2, 3, 4, 10, 24, 27]
  refine regS Hz (.assign rfl <| .nil) ?_
  clear Hz Az; intro Az Hz
  refine wp_ret ?_
  try dsimp only [Exit.then, Exit.inBlock]
  refine (ret1 (fn := Tryd.f4) Hz rfl rfl ?_)
  exact ⟨(by first | rfl | (rw [hER]; by_cases h0 : xv % 2 ^ k = 0 <;> simp [h0]; done)), m3.below⟩
 clear Hz; intro hb23 Hz; try simp only [QQ, Qax] at hb23
 refine wp_cond_false (Hz.ev (x := .tmp 27) rfl) ?_
 refine zss (hK2 _ _ ?_); clear hK2
 replace Hz : Has 96 [(0, _), (1, _), (2, _), (3, _), (4, _), (10, _), (24, _), (27, _)] Az := Hz.only [0, 1, 2, 3, 4, 10, 24, 27]
 refine zsr fun K4 hK4 => ?_
 refine goCh Hz (.move rfl <| .move rfl <| .move rfl <| .nil) ?_
 clear Hz Az; intro Az Hz
 refine wpList_plain rfl (fun K hK => ?_)
 refine e_call Hz Tryd.func8 rfl rfl rfl rfl (some_any l fv tv _ _ _ ((h1.now' m3 rfl).any) (by omega) hlb hf ht) ?_
 rintro e w33 ⟨bl, sz, fr, to, its, pa33, ca33, rfl, hs, hby, hd33, hb33⟩
 have m34 := m3.callF 70 rfl hb33 hd33
 clear m3
 clear hb33 hd33
 refine ⟨_, rfl, ?_⟩; clear Hz Az; intro Az Hz
 refine hK _ _ ?_; clear hK
 refine wpList_plain rfl (fun K hK => ?_)
 refine e_call Hz Tryd.func13 rfl rfl rfl rfl (sput_yes bl sz fr to its _ _ _ _ (hT.below m34.below h01) (Nat.le_trans h01 m34.below.size) ((m34.rd (i := 70) rfl).any) hs hby) ?_
 rintro e w36 ⟨p36, c36, rfl, ho36, hb36⟩
 have m37 := m34.newN 71 hb36 ho36
 clear m34
 clear hb36 ho36
 refine ⟨_, rfl, ?_⟩; clear Hz Az; intro Az Hz
 refine hK _ _ ?_; clear hK
 obtain ⟨bs, hbs⟩ : ∃ L, bodyB bl sz fr to its = L := ⟨_, rfl⟩
 obtain ⟨Fo, hFo⟩ : ∃ L, fourC (sumC [bs]) = L := ⟨_, rfl⟩
 have hFol : Fo.length = 4 := by rw [← hFo, fourC_len]
 have hFob : BytesL Fo := by rw [← hFo]; exact fourBytes _
 have hstr : strB bl sz fr to its = bs ++ Fo := by rw [strB, hbs, hFo]
 have hbsb : BytesL bs := by rw [← hbs]; exact bodyBytes hs hby
 have hsl := str_len hs
 have hn1 : 1 ≤ bs.length := by rw [← hbs, bodyB, headB, List.length_append, sealC_len]; omega
 rw [hstr] at hsl
 have hlen : (bs ++ Fo).length = bs.length + 4 := by rw [List.length_append, hFol]
 obtain ⟨F, hF⟩ : ∃ F, av % (8 * bs.length) = F := ⟨_, rfl⟩
 have hFl : F < 8 * bs.length := by rw [← hF]; exact Nat.mod_lt _ (by omega)
 have hbl9 : bs.length ≤ 10000 := by rw [hlen] at hsl; omega
 rw [hstr] at m37 Hz
 refine goCh Hz (.move rfl <| .extract rfl rfl <| .extract rfl rfl <| .assign rfl <| .assign rfl <| .nil) ?_
 clear Hz Az; intro Az Hz
 refine znl (hK4 _ _ ?_); clear hK4
 replace Hz : Has 96 [(3, _), (4, _), (10, _), (24, _), (27, _), (11, _), (12, _)] Az := Hz.only [3, 4, 10, 24, 27, 11, 12]
 refine regS Hz (.move rfl <| .len rfl U22 <| .sub rfl rfl (r := (bs.length : Int)) (by rw [hlen, IntWalk.i64_in _ (by omega)]; omega) <| .mul rfl rfl (r := 8 * (bs.length : Int)) (IntWalk.i64_in _ (by rw [hlen] at hsl; omega)) <| .assign rfl <| .nil) ?_
 clear Hz Az; intro Az Hz
 refine wp_seq_k (fun K5 hK5 => ?_)
 refine zsr fun K6 hK6 => ?_
 refine goCh Hz (.move rfl <| .neq rfl rfl <| .move rfl <| .nil) ?_
 clear Hz Az; intro Az Hz
 refine bool_cases Hz (t := 42) rfl ?_ ?_
 · intro hb _; exact absurd hb (by simp)
 clear Hz; intro _ Hz
 refine goCh Hz (.moveZ rfl <| .leqZ rfl rfl <| .pickF rfl rfl <| .nil) ?_
 clear Hz Az; intro Az Hz
 refine znl (hK6 _ _ ?_); clear hK6
 refine bool_cases Hz (t := 45) rfl ?_ ?_
 · intro hb _; exact absurd hb (by simp; omega)
 clear Hz; intro _ Hz
 refine wp_cond_false (Hz.ev (x := .tmp 45) rfl) ?_
 refine zss (hK5 _ _ ?_); clear hK5
 replace Hz : Has 96 [(3, _), (4, _), (10, _), (24, _), (27, _), (11, _), (13, _)] Az := Hz.only [3, 4, 10, 24, 27, 11, 13]
 refine regS Hz (.move rfl <| .conv rfl U23 U3 (r := (av : Int)) (IntWalk.i64_in _ (by omega)) <| .move rfl <| .rem rfl rfl (by omega) (r := (F : Int)) (by rw [Int.tmod_eq_emod_of_nonneg (by omega), ← hF]; simp) <| .assign rfl <| .assign rfl <| .nil) ?_
 clear Hz Az; intro Az Hz
 refine wp_seq_k (fun K7 hK7 => ?_)
 refine regS Hz (.assign rfl <| .nil) ?_
 clear Hz Az; intro Az Hz
 refine wp_block ?_
 refine wp_loop_ghost (fun g a w => ∃ (k : Nat) (ys : List Int) (p : Option Addr) (c : Nat), k ≤ 32 ∧ g = 32 - k ∧ ys.length = bs.length ∧ BytesL ys ∧ numB ys = numB bs ^^^ ((xv % 2 ^ k) <<< F) ∧ Has 96 [(4, .int .u32 (xv : Int)), (11, .slice p (ys ++ Fo).length c), (13, .int .i64 (8 * (bs.length : Int))), (14, .int .i64 (F : Int)), (15, .bool (decide (xv % 2 ^ k ≠ 0))), (16, .int .i64 (k : Int))] a ∧ MemOk (cn w0) w0 [(9, .num (.slice p (ys ++ Fo).length c) 5 .u8 (ys ++ Fo))] w) (32) ?_ ?_
 · have e0 : false = decide (xv % 2 ^ 0 ≠ 0) := by simp [Nat.mod_one]
   rw [e0] at Hz
   exact ⟨0, bs, _, _, Nat.zero_le _, rfl, rfl, hbsb, by simp [Nat.mod_one], Hz.only [4, 11, 13, 14, 15, 16], m37.ren [(9, 71)] (by decide)⟩
 clear Hz m37
 rintro g Az w69 ⟨k, ys, p, c, hkl, hg, hyl, hyb, hny, Hz, m69⟩
 refine wp_seq_k (fun K8 hK8 => ?_)
 refine zsr fun K9 hK9 => ?_
 refine goCh Hz (.move rfl <| .lss rfl rfl <| .move rfl <| .nil) ?_
 clear Hz Az; intro Az Hz
 refine bool_cases Hz (t := 52) rfl ?_ ?_
 ·
  clear Hz; intro hb76 Hz; try simp only [QQ, Qax] at hb76
  have hk : k < 32 := by have := hb76; first | omega | (simp at this; omega)
  refine goCh Hz (.moveZ rfl <| .moveZ rfl <| .addZ rfl rfl (r := ((F + k : Nat) : Int)) (by rw [IntWalk.i64_in _ (by omega)]; omega) <| .moveZ rfl <| .lssZ rfl rfl <| .pickT rfl rfl <| .nil) ?_
  clear Hz Az; intro Az Hz
  refine znl (hK9 _ _ ?_); clear hK9
  refine bool_cases Hz (t := 58) rfl ?_ ?_
  ·
   clear Hz; intro hb83 Hz; try simp only [QQ, Qax] at hb83
   have hfk : F + k < 8 * bs.length := by have := hb83; first | omega | (simp at this; omega)
   refine wp_cond_true (Hz.ev (x := .tmp 58) rfl) ?_
   refine zss (hK8 _ _ ?_); clear hK8
   refine wp_seq_k (fun K10 hK10 => ?_)
   refine wp_block ?_
   replace Hz : Has 96 [(4, _), (11, _), (13, _), (14, _), (15, _), (16, _)] Az := Hz.only [4, 11, 13, 14, 15, 16]
   refine regS Hz (.move rfl <| .move rfl <| .shr rfl rfl (by omega) (r := ((xv / 2 ^ k : Nat) : Int)) (by rw [show min ((k : Int)).toNat IntKind.u32.bits = k from by show min k 32 = k; omega, Int.fdiv_eq_ediv_of_nonneg _ (Int.le_of_lt (Int.pow_pos (by decide)))]; push_cast; rfl) <| .and rfl rfl (r := ((xv / 2 ^ k % 2 : Nat) : Int)) (show bits .and .u32 _ 1 = _ from by rw [show (1 : Int) = ((1 : Nat) : Int) from rfl, u32_and_nat _ _ (Nat.lt_of_le_of_lt (Nat.div_le_self _ _) (by omega)) (by decide), nat_mask1]) <| .eql rfl rfl <| .nil) ?_
   clear Hz Az; intro Az Hz
   refine bool_cases Hz (t := 65) rfl ?_ ?_
   ·
    clear Hz; intro hb90 Hz; try simp only [QQ, Qax] at hb90
    have hbit : xv / 2 ^ k % 2 = 1 := by have := hb90; first | omega | (simp at this; omega)
    obtain ⟨hQl, hV8, hVb, hVn, hnz⟩ := flip_step hbit hyl hyb hny hfk
    have hM : 2 ^ ((F + k) % 8) < 256 := Nat.lt_of_le_of_lt (Nat.pow_le_pow_right (by decide) (by omega) : 2 ^ ((F + k) % 8) ≤ 2 ^ 7) (by decide)
    obtain ⟨Q, hQ⟩ : ∃ Q, (F + k) / 8 = Q := ⟨_, rfl⟩
    obtain ⟨R, hR⟩ : ∃ R, (F + k) % 8 = R := ⟨_, rfl⟩
    rw [hQ, hR] at hVb hVn hV8
    rw [hR] at hM
    rw [hQ] at hQl
    have hy9 : 0 ≤ ys.getD Q 0 ∧ ys.getD Q 0 ≤ 255 := getD_bd hyb (by omega)
    have hyQ : (ys ++ Fo).getD Q 0 = (((ys.getD Q 0).toNat : Nat) : Int) := by rw [List.getD, List.getElem?_append_left (by omega), ← List.getD]; omega
    have hy8 : (ys.getD Q 0).toNat < 256 := by omega
    obtain ⟨V, hV⟩ : ∃ V, (ys.getD Q 0).toNat ^^^ 2 ^ R = V := ⟨_, rfl⟩
    rw [hV] at hVb hVn hV8
    refine wp_cond_true (Hz.ev (x := .tmp 65) rfl) ?_
    refine wp_seq_k (fun K11 hK11 => ?_)
    obtain ⟨g91, hpg91⟩ := m69.openO (i := 9) rfl (Nat.lt_of_le_of_lt (Nat.zero_le _) (show Q < (ys ++ Fo).length by rw [List.length_append]; omega))
    cases hpg91
    obtain ⟨g92, hpg92⟩ := m69.openO (i := 9) rfl (Nat.lt_of_le_of_lt (Nat.zero_le _) (show Q < (ys ++ Fo).length by rw [List.length_append]; omega))
    cases hpg92
    have m93 : MemOk _ _ [(9, _)] _ := m69.only [9]; clear m69
    refine region_p 14 (B := [(9, _)]) (m93.to ⟨il, trivial⟩) m93 (by kernel_rfl) (fun w94 hP94 m94 => ?_); clear m93
    refine goR hP94 [0, 1, 2, 3, 4, 5, 6, 7, 8, 9, 10, 11, 12, 13] [6] 14 0 16383 Hz (m94.to ⟨il, trivial⟩) (.move rfl <| .move rfl <| .move rfl <| .add rfl rfl (r := ((F + k : Nat) : Int)) (by rw [IntWalk.i64_in _ (by omega)]; omega) <| .quo rfl rfl (by omega) (r := (Q : Int)) (by rw [Int.tdiv_eq_ediv_of_nonneg (by omega), IntKind.wrap_i64]; omega) <| .p (fun _ _ h => y_idxO h rfl rfl U22 fct7 (Q) rfl (show Q < (ys ++ Fo).length by rw [List.length_append]; omega)) <| .c (fun _ hW _ h => y_loadO h hW (i := 9) rfl rfl rfl (show Q < (ys ++ Fo).length by rw [List.length_append]; omega) U5 rfl) <| .move rfl <| .move rfl <| .add rfl rfl (r := ((F + k : Nat) : Int)) (by rw [IntWalk.i64_in _ (by omega)]; omega) <| .rem rfl rfl (by omega) (r := (R : Int)) (by rw [Int.tmod_eq_emod_of_nonneg (by omega)]; omega) <| .shl rfl rfl (by omega) (r := ((2 ^ R : Nat) : Int)) (by rw [show min ((R : Int)).toNat IntKind.u8.bits = R from by show min R 8 = R; omega, IntKind.wrap_u8]; push_cast; rw [Int.one_mul]; exact Int.emod_eq_of_lt (Int.le_of_lt (Int.pow_pos (by decide))) (by exact_mod_cast hM)) <| .xor rfl rfl (r := (V : Int)) (show bits .xor .u8 _ _ = _ from by rw [hyQ, u8_xor_nat _ _ hy8 hM, hV]) <| .p (fun _ _ h => y_idxO h rfl rfl U22 fct7 (Q) rfl (show Q < (ys ++ Fo).length by rw [List.length_append]; omega)) <| .nil) ?_
    clear Hz Az; intro Az Hz
    refine stepE_end 14 rfl (by kernel_rfl) rfl (by rfl) (fun K hK => ?_)
    refine e_storeO Hz m94 9 rfl rfl rfl rfl (show Q < (ys ++ Fo).length by rw [List.length_append]; omega) fct7 ?_
    clear m94; intro w109 m109
    refine hK _ _ ?_; clear hK
    refine wpAnyE_done (by kernel_rfl) ?_ _
    refine hK11 _ _ ?_; clear hK11
    replace Hz : Has 96 [(4, _), (11, _), (13, _), (14, _), (15, _), (16, _)] Az := Hz.only [4, 11, 13, 14, 15, 16]
    refine wp_region_lit ?_
    refine goCh Hz (.assign rfl .nil) ?_
    clear Hz Az; intro Az Hz
    refine znl (hK10 _ _ ?_); clear hK10
    refine wp_region_lit ?_
    refine goCh Hz (.move rfl <| .add rfl rfl (r := ((k + 1 : Nat) : Int)) (by rw [IntWalk.i64_in _ (by omega)]; omega) <| .assign rfl <| .nil) ?_
    clear Hz Az; intro Az Hz
    refine wpList_nil ?_
    show ∃ n', n' < _ ∧ _
    have e1 : (ys ++ Fo).set Q (V : Int) = ys.set Q (V : Int) ++ Fo := List.set_append_left _ _ (by omega)
    have e2 : (ys ++ Fo).length = (ys.set Q (V : Int) ++ Fo).length := by rw [List.length_append, List.length_append, List.length_set]
    rw [e1, e2] at m109
    rw [e2] at Hz
    have e3 : true = decide (xv % 2 ^ (k + 1) ≠ 0) := (decide_eq_true hnz).symm
    rw [e3] at Hz
    exact ⟨32 - (k + 1), by omega, k + 1, _, _, _, by omega, rfl, by rw [List.length_set]; exact hyl, hVb, hVn, Hz.only [4, 11, 13, 14, 15, 16], m109.ren [(9, 9)] (by decide)⟩
   clear Hz; intro hb90 Hz; try simp only [QQ, Qax] at hb90
   have hbit : ¬ xv / 2 ^ k % 2 = 1 := by have := hb90; first | omega | (simp at this; omega)
   refine wp_cond_false (Hz.ev (x := .tmp 65) rfl) ?_
   refine zss (hK10 _ _ ?_); clear hK10
   refine wp_region_lit ?_
   refine goCh Hz (.move rfl <| .add rfl rfl (r := ((k + 1 : Nat) : Int)) (by rw [IntWalk.i64_in _ (by omega)]; omega) <| .assign rfl <| .nil) ?_
   clear Hz Az; intro Az Hz
   refine wpList_nil ?_
   show ∃ n', n' < _ ∧ _
   have e1 := mod_none xv k hbit
   rw [← e1] at Hz hny
   exact ⟨32 - (k + 1), by omega, k + 1, _, _, _, by omega, rfl, hyl, hyb, hny, Hz.only [4, 11, 13, 14, 15, 16], m69.ren [(9, 9)] (by decide)⟩
  clear Hz; intro hb83 Hz; try simp only [QQ, Qax] at hb83
  have hfk9 : 8 * bs.length ≤ F + k := by have := hb83; first | omega | (simp at this; omega)
  refine wp_cond_false (Hz.ev (x := .tmp 58) rfl) ?_
  refine wp_exit ?_
  refine hK7 _ _ ?_; clear hK7
  replace Hz : Has 96 [(4, _), (11, _), (13, _), (14, _), (15, _), (16, _)] Az := Hz.only [4, 11, 13, 14, 15, 16]
  refine zsr fun K12 hK12 => ?_
  refine goCh Hz (.move rfl .nil) ?_
  clear Hz Az; intro Az Hz
  have m121 := m69.freezeN 9 rfl; clear m69
  refine wpList_plain rfl (fun K hK => ?_)
  refine e_call Hz Tryd.func10 rfl rfl rfl rfl (sread_any (ys ++ Fo) _ _ _ (hT.below m121.below h01) (Nat.le_trans h01 m121.below.size) ((m121.rd (i := 9) rfl).any) (bytesApp hyb hFob) (by rw [List.length_append, hyl, hFol]; rw [hlen] at hsl; omega)) ?_
  rintro e w122 ⟨bl2, sz2, fr2, to2, its2, pa122, ca122, er, rfl, hR, hd122, hb122⟩
  clear hd122
  have m123 := m121.later hb122
  clear m121
  clear hb122
  refine ⟨_, rfl, ?_⟩; clear Hz Az; intro Az Hz
  refine hK _ _ ?_; clear hK
  have hER := burst_er hs hby hbs hFo hyl hyb hbsb hny hFl (Nat.lt_of_le_of_lt (Nat.mod_le _ _) hx9) hR
  refine goCh Hz (.move rfl <| .extract rfl rfl <| .extract rfl rfl <| .nil) ?_
  clear Hz Az; intro Az Hz
  refine wpList_plain rfl (fun K hK => ?_)
  refine e_alloc Hz m123 100 fct29 rfl ?_
  clear Hz Az m123; intro g128 Az w129 Hz m129 hB129 hg129
  clear hB129 hg129
  refine hK _ _ ?_; clear hK
  refine wpList_plain rfl (fun K hK => ?_)
  refine e_storeW Hz m129 100 rfl rfl rfl rfl rfl fct27 ?_
  clear m129; intro w130 m130 hB130
  clear hB130
  refine hK _ _ ?_; clear hK
  refine goCh Hz (.assign rfl .nil) ?_
  clear Hz Az; intro Az Hz
  refine znl (hK12 _ _ ?_); clear hK12
  replace Hz : Has 96 [(4, _), (11, _), (13, _), (14, _), (15, _), (16, _), (18, _)] Az := Hz.only [4, 11, 13, 14, 15, 16, 18]
  refine zsr fun K13 hK13 => ?_
  refine goCh Hz (.move rfl <| .eql rfl rfl <| .move rfl <| .eqlB rfl rfl U4 <| .move rfl <| .nil) ?_
  clear Hz Az; intro Az Hz
  refine bool_cases Hz (t := 89) rfl ?_ ?_
  rotate_left
  · intro hb _; exact absurd hb (by rw [hER]; by_cases h0 : xv % 2 ^ k = 0 <;> simp [h0])
  clear Hz; intro _ Hz
  refine goCh Hz (.moveZ rfl <| .eqlZ rfl rfl <| .moveZ rfl <| .notZ rfl <| .eqlBZ rfl rfl U4 <| .pickT rfl rfl <| .assign rfl <| .nil) ?_
  clear Hz Az; intro Az Hz
  refine znl (hK13 _ _ ?_); clear hK13
  refine wp_ret ?_
  try dsimp only [Exit.then, Exit.inBlock]
  refine (ret1 (fn := Tryd.f4) Hz rfl rfl ?_)
  exact ⟨(by first | rfl | (rw [hER]; by_cases h0 : xv % 2 ^ k = 0 <;> simp [h0]; done)), m130.below⟩
 clear Hz; intro hb76 Hz; try simp only [QQ, Qax] at hb76
 have hk9 : k = 32 := by have := hb76; first | omega | (simp at this; omega)
 refine goCh Hz (.sk <| .sk <| .sk <| .sk <| .sk <| .pickF rfl rfl <| .nil) ?_
 clear Hz Az; intro Az Hz
 refine znl (hK9 _ _ ?_); clear hK9
 refine wp_cond_false (Hz.ev (x := .tmp 58) rfl) ?_
 refine wp_exit ?_
 refine hK7 _ _ ?_; clear hK7
 replace Hz : Has 96 [(4, _), (11, _), (13, _), (14, _), (15, _), (16, _)] Az := Hz.only [4, 11, 13, 14, 15, 16]
 refine zsr fun K14 hK14 => ?_
 refine goCh Hz (.move rfl .nil) ?_
 clear Hz Az; intro Az Hz
 have m160 := m69.freezeN 9 rfl; clear m69
 refine wpList_plain rfl (fun K hK => ?_)
 refine e_call Hz Tryd.func10 rfl rfl rfl rfl (sread_any (ys ++ Fo) _ _ _ (hT.below m160.below h01) (Nat.le_trans h01 m160.below.size) ((m160.rd (i := 9) rfl).any) (bytesApp hyb hFob) (by rw [List.length_append, hyl, hFol]; rw [hlen] at hsl; omega)) ?_
 rintro e w161 ⟨bl2, sz2, fr2, to2, its2, pa161, ca161, er, rfl, hR, hd161, hb161⟩
 clear hd161
 have m162 := m160.later hb161
 clear m160
 clear hb161
 refine ⟨_, rfl, ?_⟩; clear Hz Az; intro Az Hz
 refine hK _ _ ?_; clear hK
 have hER := burst_er hs hby hbs hFo hyl hyb hbsb hny hFl (Nat.lt_of_le_of_lt (Nat.mod_le _ _) hx9) hR
 refine goCh Hz (.move rfl <| .extract rfl rfl <| .extract rfl rfl <| .nil) ?_
 clear Hz Az; intro Az Hz
 refine wpList_plain rfl (fun K hK => ?_)
 refine e_alloc Hz m162 100 fct29 rfl ?_
 clear Hz Az m162; intro g167 Az w168 Hz m168 hB168 hg168
 clear hB168 hg168
 refine hK _ _ ?_; clear hK
 refine wpList_plain rfl (fun K hK => ?_)
 refine e_storeW Hz m168 100 rfl rfl rfl rfl rfl fct27 ?_
 clear m168; intro w169 m169 hB169
 clear hB169
 refine hK _ _ ?_; clear hK
 refine goCh Hz (.assign rfl .nil) ?_
 clear Hz Az; intro Az Hz
 refine znl (hK14 _ _ ?_); clear hK14
 replace Hz : Has 96 [(4, _), (11, _), (13, _), (14, _), (15, _), (16, _), (18, _)] Az := Hz.only [4, 11, 13, 14, 15, 16, 18]
 refine zsr fun K15 hK15 => ?_
 refine goCh Hz (.move rfl <| .eql rfl rfl <| .move rfl <| .eqlB rfl rfl U4 <| .move rfl <| .nil) ?_
 clear Hz Az; intro Az Hz
 refine bool_cases Hz (t := 89) rfl ?_ ?_
 rotate_left
 · intro hb _; exact absurd hb (by rw [hER]; by_cases h0 : xv % 2 ^ k = 0 <;> simp [h0])
 clear Hz; intro _ Hz
 refine goCh Hz (.moveZ rfl <| .eqlZ rfl rfl <| .moveZ rfl <| .notZ rfl <| .eqlBZ rfl rfl U4 <| .pickT rfl rfl <| .assign rfl <| .nil) ?_
 clear Hz Az; intro Az Hz
 refine znl (hK15 _ _ ?_); clear hK15
 refine wp_ret ?_
 try dsimp only [Exit.then, Exit.inBlock]
 refine (ret1 (fn := Tryd.f4) Hz rfl rfl ?_)
 exact ⟨(by first | rfl | (rw [hER]; by_cases h0 : xv % 2 ^ k = 0 <;> simp [h0]; done)), m169.below⟩
end Go.Proofs.YtodiklpfdfjikaaDoor.K
