/- stream: the bytes of a stream that may be: the program's Put. -/
import Derived.Test.YtodiklpfdfjikaaDoorStr4m
namespace Go.Proofs.YtodiklpfdfjikaaDoor.K
open Go.ChangeShapes Go.WideShapes Go.ChangeAt Go.RowKit
set_option linter.unusedVariables false
set_option linter.unusedSimpArgs false
set_option maxRecDepth 100000
set_option maxHeartbeats 4000000
theorem sput_yes (bl sz fr to : Int) (its : List (Int × List Int)) (pi : Option Addr) (ni ci : Nat) (w0 : World) (hT : TabOk w0) (h01 : 1 ≤ w0.heap.size) (h1 : Rd (fun _ => True) w0 (.slice pi ni ci) (.l 2 (its.map itD))) (hs : StreamOk bl sz fr to its) (hby : ∀ e ∈ its, BytesL e.2) :
   Calls Tryd.prog 13 #[.agg #[.int .i64 bl, .int .i64 sz, .int .i64 fr, .int .i64 to, .slice pi ni ci]] w0 fun e w' => ∃ (p : Option Addr) (c : Nat), e = .returned (.tuple #[.slice p (strB bl sz fr to its).length c, .int .i64 0]) ∧ w'.ownsRow w0.heap.size 5 1 (.slice p (strB bl sz fr to its).length c) (strB bl sz fr to its).length ((strB bl sz fr to its).map (Value.int .u8)) ∧ Below w0.heap.size w0 w' := by
 obtain rfl : ni = its.length := by obtain ⟨pq, c9, hv, _⟩ := h1.l_shape; injection hv with _ e2 _; rw [List.length_map] at e2; exact e2
 refine ent1 Tryd.func13 rfl Tryd.ntmps13 fun Az Hz => ?_
 have m0 := MemOk.start (fun _ => True) w0
 have hil : its.length ≤ 256 := hs.len
 obtain ⟨⟨b1, b2⟩, ⟨b3, b4⟩, b5, ⟨b6, b7⟩, b8⟩ := hs.head
 have hHB : BytesL (magicB ++ encs [bl, sz, fr + 1, to, (its.length : Int)]) := bytesApp magicBytes (encsBytes (by intro x hx; simp only [List.mem_cons, List.not_mem_nil, or_false] at hx; omega))
 have hHL : (magicB ++ encs [bl, sz, fr + 1, to, (its.length : Int)]).length ≤ 10000 := by have := headB_len bl sz fr to its.length; rw [headB, sealC_len] at this; omega
 have hbl : ∀ k, k ≤ its.length → (headB bl sz fr to its.length ++ itemsB (its.take k)).length ≤ 12000 := fun k hk => by
   have q1 := headB_len bl sz fr to its.length
   have q2 := itemsB_len (its.take k) (fun e he => by have := (hs.it e (List.mem_of_mem_take he)).2; omega)
   rw [List.length_take] at q2
   rw [List.length_append]; omega
 refine zsr fun K0 hK0 => ?_
 refine wpList_plain rfl (fun K hK => ?_)
 refine e_box Hz m0 20 (cs := [_, _, _, _, _]) rfl rfl rfl ?_
 clear Hz Az m0; intro g1 Az w2 Hz m2 hB2 hg2
 clear hB2 hg2
 refine hK _ _ ?_; clear hK
 refine goCh Hz (.assign rfl <| .assign rfl <| .nil) ?_
 clear Hz Az; intro Az Hz
 refine znl (hK0 _ _ ?_); clear hK0
 refine wp_seq_k (fun K1 hK1 => ?_)
 refine zsr fun K2 hK2 => ?_
 refine goCh Hz (.loadBR m2 (i := 20) rfl rfl U29 rfl fct27 (by simp) (by dsimp only [List.drop, List.take] <;> rfl) .nil) ?_
 clear Hz Az; intro Az Hz
 refine wpList_plain rfl (fun K hK => ?_)
 refine e_call Hz Tryd.func15 rfl rfl rfl rfl (sright_yes bl sz fr to its _ _ _ _ ((h1.now' m2 rfl).any) hs) ?_
 rintro e w7 ⟨rfl, hb7⟩
 have m8 := m2.later hb7
 clear m2
 clear hb7
 refine ⟨_, rfl, ?_⟩; clear Hz Az; intro Az Hz
 refine hK _ _ ?_; clear hK
 refine goCh Hz (.not rfl .nil) ?_
 clear Hz Az; intro Az Hz
 refine znl (hK2 _ _ ?_); clear hK2
 refine wp_cond_false (Hz.ev (x := .tmp 10) rfl) ?_
 refine zss (hK1 _ _ ?_); clear hK1
 refine zsr fun K3 hK3 => ?_
 refine goCh Hz (.fa 2 rfl U29 <| .lb m8 20 U2 rfl rfl rfl <| .add rfl rfl (r := fr + 1) (IntWalk.i64_in _ (by omega)) <| .fa 3 rfl U29 <| .lb m8 20 U2 rfl rfl rfl <| .nil) ?_
 clear Hz Az; intro Az Hz
 refine wpList_plain rfl (fun K hK => ?_)
 refine e_litN Hz m8 21 (k := .i64) rfl rfl U53 fct10 rfl rfl rfl rfl ?_
 clear Hz Az m8; intro g21 Az w22 Hz m22
 refine hK _ _ ?_; clear hK
 have m23 := m22.freezeN 21 rfl; clear m22
 refine wpList_plain rfl (fun K hK => ?_)
 refine e_call Hz Tryd.func30 rfl rfl rfl rfl (pnuml_x [fr + 1, to] _ _ _ ((m23.rd (i := 21) rfl).any) (by simp) (b63 (by intro x hx; simp only [List.mem_cons, List.not_mem_nil, or_false] at hx; omega))) ?_
 rintro e w24 ⟨p24, c24, rfl, ho24, hb24⟩
 have m25 := m23.newN 22 hb24 ho24
 clear m23
 clear hb24 ho24
 refine ⟨_, rfl, ?_⟩; clear Hz Az; intro Az Hz
 refine hK _ _ ?_; clear hK
 have m27 := m25.freezeN 22 rfl; clear m25
 refine goCh Hz (.assign rfl .nil) ?_
 clear Hz Az; intro Az Hz
 refine znl (hK3 _ _ ?_); clear hK3
 refine wp_seq_k (fun K4 hK4 => ?_)
 have hC4 : ∀ (a : Act) (w : World), (∃ (B : Nat) (p : Option Addr) (c : Nat), Has 60 [(1, .pointer (some ⟨B, 0, none⟩)), (5, .slice p (headB bl sz fr to its.length).length c)] a ∧ MemOk (cxt w0) w0 [(8, .box B 29 [.int .i64 bl, .int .i64 sz, .int .i64 fr, .int .i64 to, .slice pi its.length ci]), (9, .num (.slice p (headB bl sz fr to its.length).length c) 5 .u8 (headB bl sz fr to its.length))] w) → K4 a w := by
   clear Hz m27
   rintro Az w29 ⟨B, p, c, Hz, m29⟩
   refine hK4 _ _ ?_; clear hK4
   refine wp_seq_k (fun K5 hK5 => ?_)
   refine regS Hz (.fa 4 rfl U29 <| .lb m29 8 U27 rfl rfl rfl <| .len rfl U27 <| .move rfl <| .nil) ?_
   clear Hz Az; intro Az Hz
   refine wp_block ?_
   refine wp_loop_ghost (fun g a w => ∃ (k B : Nat) (b : List Int) (p : Option Addr) (c : Nat), k ≤ its.length ∧ g = its.length - k ∧ b = headB bl sz fr to its.length ++ itemsB (its.take k) ∧ Has 60 [(1, .pointer (some ⟨B, 0, none⟩)), (5, .slice p b.length c), (36, .slice pi its.length ci), (37, .int .i64 its.length), (38, .int .i64 k)] a ∧ MemOk (cxt w0) w0 [(8, .box B 29 [.int .i64 bl, .int .i64 sz, .int .i64 fr, .int .i64 to, .slice pi its.length ci]), (9, .num (.slice p b.length c) 5 .u8 b)] w) (its.length) ?_ ?_
   · exact ⟨0, _, _, _, _, Nat.zero_le _, rfl, (List.append_nil _).symm, Hz.only [1, 5, 36, 37, 38], m29.ren [(8, 8), (9, 9)] (by decide)⟩
   clear Hz m29
   rintro g Az w34 ⟨k, B, b, p, c, hkl, hg, hbe, Hz, m34⟩
   refine regS Hz (.lss rfl rfl <| .nil) ?_
   clear Hz Az; intro Az Hz
   refine wp_seq_k (fun K6 hK6 => ?_)
   refine bool_cases Hz (t := 39) rfl ?_ ?_
   ·
    clear Hz; intro hb36 Hz; try simp only [QQ, Qax] at hb36
    have hk : k < its.length := by have := hb36; first | omega | (simp at this; omega)
    obtain ⟨⟨xb, xd⟩, hes⟩ : ∃ e, its[k]? = some e := ⟨_, List.getElem?_eq_getElem hk⟩
    have hx := hs.it _ (List.mem_of_getElem? hes)
    have hxy := hby _ (List.mem_of_getElem? hes)
    dsimp only at hx hxy
    have hEB : BytesL (enc xb ++ xd) := bytesApp (encBytes (by omega)) hxy
    have hEL : (enc xb ++ xd).length ≤ 10000 := by rw [List.length_append]; have := (enc_len xb).1; omega
    refine wp_cond_true (Hz.ev (x := .tmp 39) rfl) ?_
    refine zss (hK6 _ _ ?_); clear hK6
    refine wp_seq_k (fun K7 hK7 => ?_)
    refine wp_block ?_
    refine zsr fun K8 hK8 => ?_
    obtain ⟨gx38, ox38, vx38, hp38, hl38, hR38, hrg38⟩ := h1.extA (k) (r := [.v (.int .i64 xb), .ns .u8 xd]) (itD_get hes)
    cases hp38; clear hl38
    rcases hR38 with _ | ⟨hd38_0, _ | ⟨hd38_1, _ | _⟩⟩
    obtain rfl := hd38_0.v_out
    clear hd38_0
    obtain ⟨p39, c39, hv39, hw39⟩ := hd38_1.ns_shape; subst hv39
    refine goCh Hz (.c rfl (fun _ h => y_idx h rfl rfl U27 fct12 (k) rfl hk) <| .loadAt (hrg38 m34 rfl) rfl U46 rfl fct12 <| .nil) ?_
    clear Hz Az; intro Az Hz
    refine wpList_plain rfl (fun K hK => ?_)
    refine e_alloc Hz m34 201 fct15 rfl ?_
    clear Hz Az m34; intro g42 Az w43 Hz m43 hB43 hg43
    clear hB43 hg43
    refine hK _ _ ?_; clear hK
    refine wpList_plain rfl (fun K hK => ?_)
    refine e_storeW Hz m43 201 rfl rfl rfl rfl rfl fct12 ?_
    clear m43; intro w44 m44 hB44
    clear hB44
    refine hK _ _ ?_; clear hK
    refine znl (hK8 _ _ ?_); clear hK8
    have m45 : MemOk _ _ [(8, _), (9, _), (201, _)] _ := m44.only [8, 9, 201]; clear m44
    refine region_p 10 (B := [(8, _), (9, _), (201, _)]) (m45.to ⟨il, il, il, trivial⟩) m45 (by kernel_rfl) (fun w46 hP46 m46 => ?_); clear m45
    refine goR hP46 [0, 1, 2, 5, 6] [2, 6] 5 0 103 Hz (m46.to ⟨il, il, il, trivial⟩) (.move rfl <| .fa 0 rfl U46 <| .lb hh 201 U3 rfl rfl rfl <| .fa 1 rfl U46 <| .lb hh 201 U22 rfl rfl rfl <| .nil) ?_
    clear Hz Az; intro Az Hz
    refine stepE_only 3 rfl (by kernel_rfl) rfl (fun K hK => ?_)
    refine e_litN Hz m46 202 (k := .i64) rfl rfl U52 fct26 rfl rfl rfl rfl ?_
    clear Hz Az m46; intro g52 Az w53 Hz m53
    refine hK _ _ (m53.to ⟨il, il, il, trivial⟩) ?_; clear hK K
    have m54 := m53.freezeN 202 rfl; clear m53
    refine stepE_only 4 rfl (by kernel_rfl) rfl (fun K hK => ?_)
    refine e_call Hz Tryd.func33 rfl rfl rfl rfl (pnums_x [xb] _ _ _ ((m54.rd (i := 202) rfl).any) (by simp) (b63 (by intro x hx; simp only [List.mem_cons, List.not_mem_nil, or_false] at hx; omega))) ?_
    rintro e w55 ⟨p55, c55, rfl, ho55, hb55⟩
    have m56 := m54.newN 203 hb55 ho55
    clear m54
    clear hb55 ho55
    refine ⟨_, rfl, ?_⟩; clear Hz Az; intro Az Hz
    refine hK _ _ (m56.to ⟨il, il, il, trivial⟩) ?_; clear hK K
    have m59 := m56.freezeN 203 rfl; clear m56
    refine stepE_only 7 rfl (by kernel_rfl) rfl (fun K hK => ?_)
    refine e_litR Hz m59 204 (mm := 1) rfl (.cons rfl rfl (.cons (m59.rd (i := 203) rfl) .nil) <| .cons rfl rfl (.cons (m59.old hd38_1) .nil) <| .nil) U32 fct4 rfl rfl rfl rfl rfl ?_
    clear Hz Az m59; intro g58 Az w60 Hz m60
    refine hK _ _ (m60.to ⟨il, il, il, trivial⟩) ?_; clear hK K
    have m61 := m60.freezeR 204 rfl; clear m60
    refine stepE_only 8 rfl (by kernel_rfl) rfl (fun K hK => ?_)
    refine e_call Hz Tryd.func32 rfl rfl rfl rfl (pjoin_is (ls := [encs [xb], xd]) (S := (enc xb ++ xd)) ((m61.rd (i := 204) rfl).any) (by simp) (by simp only [sumLen, List.flatten_cons, List.flatten_nil, List.length_append, List.length_nil]; have q1 := encs_len [xb]; simp only [List.length_cons, List.length_nil] at *; omega) (by simp [encs])) ?_
    rintro e w62 ⟨p62, c62, rfl, ho62, hb62⟩
    have m63 := m61.newN 205 hb62 ho62
    clear m61
    clear hb62 ho62
    refine ⟨_, rfl, ?_⟩; clear Hz Az; intro Az Hz
    refine hK _ _ (m63.to ⟨il, il, il, trivial⟩) ?_; clear hK K
    have m65 := m63.freezeN 205 rfl; clear m63
    refine stepE_only 9 rfl (by kernel_rfl) rfl (fun K hK => ?_)
    refine e_call Hz Tryd.func31 rfl rfl rfl rfl (pseal_x _ _ _ (hT.below m65.below h01) (Nat.le_trans h01 m65.below.size) ((m65.rd (i := 205) rfl).any) hEB hEL) ?_
    rintro e w66 ⟨p66, c66, rfl, ho66, hb66⟩
    have m67 := m65.newN 206 hb66 ho66
    clear m65
    clear hb66 ho66
    refine ⟨_, rfl, ?_⟩; clear Hz Az; intro Az Hz
    refine hK _ _ (m67.to ⟨il, il, il, trivial⟩) ?_; clear hK K
    refine stepE_end 10 rfl (by kernel_rfl) rfl (by rfl) (fun K hK => ?_)
    refine e_appN Hz m67 9 rfl rfl rfl (m67.numsO (i := 206) rfl) U22 fct0 (by decide) (by have q1 := hbl k hkl; rw [← hbe] at q1; rw [sealC_len]; omega) rfl ?_
    clear Hz Az m67; intro p69 c69 Az w70 Hz m70
    refine hK _ _ ?_; clear hK
    refine goB hP46 [11] 1 2047 4095 Hz (.assign rfl <| .nil) ?_
    clear Hz Az; intro Az Hz
    refine wpAnyE_done (by kernel_rfl) ?_ _
    refine hK7 _ _ ?_; clear hK7
    replace Hz : Has 60 [(1, _), (5, _), (36, _), (37, _), (38, _)] Az := Hz.only [1, 5, 36, 37, 38]
    refine wp_region_lit ?_
    refine goCh Hz (.add rfl rfl (r := ((k + 1 : Nat) : Int)) (by rw [IntWalk.i64_in _ (by omega)]; omega) <| .move rfl <| .nil) ?_
    clear Hz Az; intro Az Hz
    refine wpList_nil ?_
    show ∃ n', n' < _ ∧ _
    have hE : b ++ sealC (enc xb ++ xd) = headB bl sz fr to its.length ++ itemsB (its.take (k + 1)) := by rw [hbe, itemsB_snoc hes, List.append_assoc]; rfl
    exact ⟨its.length - (k + 1), by omega, k + 1, _, _, _, _, by omega, rfl, hE, Hz.only [1, 5, 36, 37, 38], m70.ren [(8, 8), (9, 9)] (by decide)⟩
   clear Hz; intro hb36 Hz; try simp only [QQ, Qax] at hb36
   have hke : k = its.length := by have := hb36; first | omega | (simp at this; omega)
   rw [hke, List.take_length] at hbe
   have hBB : BytesL b := by rw [hbe]; exact bodyBytes hs hby
   have hBL : b.length ≤ 12000 := by rw [hbe]; exact body_len hs
   refine wp_cond_false (Hz.ev (x := .tmp 39) rfl) ?_
   refine wp_exit ?_
   refine hK5 _ _ ?_; clear hK5
   refine zsr fun K9 hK9 => ?_
   refine goCh Hz (.move rfl <| .move rfl <| .nil) ?_
   clear Hz Az; intro Az Hz
   refine wpList_plain rfl (fun K hK => ?_)
   refine e_litB Hz m34 200 rfl U32 fct4 rfl ?_
   clear Hz Az m34; intro g79 Az w80 Hz m80
   refine hK _ _ ?_; clear hK
   refine wpList_plain rfl (fun K hK => ?_)
   refine e_call Hz Tryd.func35 rfl rfl rfl rfl (psum_b (hT.below m80.below h01) (m80.ok 200 _ rfl).1 (m80.numsO (i := 9) rfl) hBB (by omega)) ?_
   rintro e w81 ⟨rfl, hb81⟩
   have m82 := m80.later hb81
   clear m80
   clear hb81
   refine ⟨_, rfl, ?_⟩; clear Hz Az; intro Az Hz
   refine hK _ _ ?_; clear hK
   refine wpList_plain rfl (fun K hK => ?_)
   refine e_call Hz Tryd.func34 rfl rfl rfl rfl (pfour_x _ _ (sumC_range _)) ?_
   rintro e w84 ⟨p84, c84, rfl, ho84, hb84⟩
   have m85 := m82.newN 201 hb84 ho84
   clear m82
   clear hb84 ho84
   refine ⟨_, rfl, ?_⟩; clear Hz Az; intro Az Hz
   refine hK _ _ ?_; clear hK
   refine wpList_plain rfl (fun K hK => ?_)
   refine e_appN Hz m85 9 rfl rfl rfl (m85.numsO (i := 201) rfl) U22 fct0 (by decide) (by rw [fourC_len]; omega) rfl ?_
   clear Hz Az m85; intro p87 c87 Az w88 Hz m88
   refine hK _ _ ?_; clear hK
   refine goCh Hz (.assign rfl <| .assign rfl <| .nil) ?_
   clear Hz Az; intro Az Hz
   refine znl (hK9 _ _ ?_); clear hK9
   refine wp_ret ?_
   try dsimp only [Exit.then, Exit.inBlock]
   refine (ret2 (fn := Tryd.f13) Hz rfl rfl rfl ?_)
   subst hbe
   exact ⟨_, _, rfl, m88.ok 9 _ rfl, m88.below⟩
 replace Hz : Has 60 [(1, _), (2, _), (3, _), (4, _)] Az := Hz.only [1, 2, 3, 4]
 have m92 : MemOk _ _ [(20, _), (21, _), (22, _)] _ := m27.only [20, 21, 22]; clear m27
 refine region_p 16 (B := [(20, _), (21, _), (22, _)]) (m92.to ⟨il, il, il, trivial⟩) m92 (by kernel_rfl) (fun w93 hP93 m93 => ?_); clear m92
 refine goR hP93 [2, 3, 4, 5, 8, 9, 10, 11] [3, 5, 10] 8 0 3900 Hz (m93.to ⟨il, il, il, trivial⟩) (.fa 0 rfl U29 <| .lb hh 20 U3 rfl rfl rfl <| .fa 1 rfl U29 <| .lb hh 20 U3 rfl rfl rfl <| .move rfl <| .fa 4 rfl U29 <| .lb hh 20 U27 rfl rfl rfl <| .len rfl U27 <| .nil) ?_
 clear Hz Az; intro Az Hz
 refine d_three 0 6 12 rfl rfl rfl (by kernel_rfl) rfl rfl rfl (fun K hK => ?_) (fun K hK => ?_) (fun K hK => ?_)
 ·
  refine e_litN Hz m93 23 (k := .u8) rfl rfl U22 fct0 rfl rfl rfl rfl ?_
  clear Hz Az m93; intro g102 Az w103 Hz m103
  refine hK _ _ (fun _ => (m103.to ⟨il, il, il, trivial⟩)) ?_; clear hK K
  refine d_three 1 6 12 rfl rfl rfl (by kernel_rfl) rfl rfl rfl (fun K hK => ?_) (fun K hK => ?_) (fun K hK => ?_)
  ·
   refine e_cvN Hz m103 23 rfl rfl U22 U5 rfl ?_
   clear Hz Az m103; intro  Az w104 Hz m104
   refine hK _ _ (fun _ => (m104.to ⟨il, il, il, trivial⟩)) ?_; clear hK K
   refine d_two 6 12 rfl rfl (by kernel_rfl) rfl rfl (fun K hK => ?_) (fun K hK => ?_)
   ·
    refine e_litN Hz m104 24 (k := .i64) rfl rfl U52 fct26 rfl rfl rfl rfl ?_
    clear Hz Az m104; intro g105 Az w106 Hz m106
    refine hK _ _ (fun _ => (m106.to ⟨il, il, il, trivial⟩)) ?_; clear hK K
    refine d_two 7 12 rfl rfl (by kernel_rfl) rfl rfl (fun K hK => ?_) (fun K hK => ?_)
    ·
     have m107 := m106.freezeN 24 rfl; clear m106
     refine e_call Hz Tryd.func33 rfl rfl rfl rfl (pnums_x [bl, sz] _ _ _ ((m107.rd (i := 24) rfl).any) (by simp) (b63 (by intro x hx; simp only [List.mem_cons, List.not_mem_nil, or_false] at hx; omega))) ?_
     rintro e w108 ⟨p108, c108, rfl, ho108, hb108⟩
     have m109 := m107.newN 25 hb108 ho108
     clear m107
     clear hb108 ho108
     refine ⟨_, rfl, ?_⟩; clear Hz Az; intro Az Hz
     refine hK _ _ (fun _ => (m109.to ⟨il, il, il, trivial⟩)) ?_; clear hK K
     refine stepE_only 12 rfl (by kernel_rfl) rfl (fun K hK => ?_)
     refine e_litN Hz m109 26 (k := .i64) rfl rfl U52 fct26 rfl rfl rfl rfl ?_
     clear Hz Az m109; intro g111 Az w112 Hz m112
     refine hK _ _ (m112.to ⟨il, il, il, trivial⟩) ?_; clear hK K
     have m113 := m112.freezeN 26 rfl; clear m112
     refine stepE_only 13 rfl (by kernel_rfl) rfl (fun K hK => ?_)
     refine e_call Hz Tryd.func33 rfl rfl rfl rfl (pnums_x [(its.length : Int)] _ _ _ ((m113.rd (i := 26) rfl).any) (by simp) (b63 (by intro x hx; simp only [List.mem_cons, List.not_mem_nil, or_false] at hx; omega))) ?_
     rintro e w114 ⟨p114, c114, rfl, ho114, hb114⟩
     have m115 := m113.newN 27 hb114 ho114
     clear m113
     clear hb114 ho114
     refine ⟨_, rfl, ?_⟩; clear Hz Az; intro Az Hz
     refine hK _ _ (m115.to ⟨il, il, il, trivial⟩) ?_; clear hK K
     have m118 := m115.freezeN 25 rfl; clear m115
     have m119 := m118.freezeN 27 rfl; clear m118
     refine stepE_only 14 rfl (by kernel_rfl) rfl (fun K hK => ?_)
     refine e_litR Hz m119 28 (mm := 1) rfl (.cons rfl rfl (.cons (m119.rd (i := 23) rfl) .nil) <| .cons rfl rfl (.cons (m119.rd (i := 25) rfl) .nil) <| .cons rfl rfl (.cons (m119.rd (i := 22) rfl) .nil) <| .cons rfl rfl (.cons (m119.rd (i := 27) rfl) .nil) <| .nil) U32 fct4 rfl rfl rfl rfl rfl ?_
     clear Hz Az m119; intro g117 Az w120 Hz m120
     refine hK _ _ (m120.to ⟨il, il, il, trivial⟩) ?_; clear hK K
     have m121 := m120.freezeR 28 rfl; clear m120
     refine stepE_only 15 rfl (by kernel_rfl) rfl (fun K hK => ?_)
     refine e_call Hz Tryd.func32 rfl rfl rfl rfl (pjoin_is (ls := [magicB, encs [bl, sz], encs [fr + 1, to], encs [(its.length : Int)]]) (S := (magicB ++ encs [bl, sz, fr + 1, to, (its.length : Int)])) ((m121.rd (i := 28) rfl).any) (by simp) (by simp only [sumLen, List.flatten_cons, List.flatten_nil, List.length_append, List.length_nil]; have q1 := encs_len [bl, sz]; have q2 := encs_len [fr + 1, to]; have q3 := encs_len [(its.length : Int)]; simp only [List.length_cons, List.length_nil, magicB] at *; omega) (by simp [encs])) ?_
     rintro e w122 ⟨p122, c122, rfl, ho122, hb122⟩
     have m123 := m121.newN 29 hb122 ho122
     clear m121
     clear hb122 ho122
     refine ⟨_, rfl, ?_⟩; clear Hz Az; intro Az Hz
     refine hK _ _ (m123.to ⟨il, il, il, trivial⟩) ?_; clear hK K
     have m125 := m123.freezeN 29 rfl; clear m123
     refine stepE_end 16 rfl (by kernel_rfl) rfl (by rfl) (fun K hK => ?_)
     refine e_call Hz Tryd.func31 rfl rfl rfl rfl (pseal_x _ _ _ (hT.below m125.below h01) (Nat.le_trans h01 m125.below.size) ((m125.rd (i := 29) rfl).any) hHB hHL) ?_
     rintro e w126 ⟨p126, c126, rfl, ho126, hb126⟩
     have m127 := m125.newN 30 hb126 ho126
     clear m125
     clear hb126 ho126
     refine ⟨_, rfl, ?_⟩; clear Hz Az; intro Az Hz
     refine hK _ _ ?_; clear hK
     refine goB hP93 [17] 1 131071 262143 Hz (.assign rfl <| .nil) ?_
     clear Hz Az; intro Az Hz
     refine wpAnyE_done (by kernel_rfl) ?_ _
     show K4 _ _
     exact hC4 _ _ ⟨_, _, _, Hz.only [1, 5], m127.ren [(8, 20), (9, 30)] (by decide)⟩
    refine e_litN Hz m106 25 (k := .i64) rfl rfl U52 fct26 rfl rfl rfl rfl ?_
    clear Hz Az m106; intro g130 Az w131 Hz m131
    refine hK _ _ (fun _ => (m131.to ⟨il, il, il, trivial⟩)) ?_; clear hK K
    have m132 := m131.freezeN 24 rfl; clear m131
    refine stepE_only 7 rfl (by kernel_rfl) rfl (fun K hK => ?_)
    refine e_call Hz Tryd.func33 rfl rfl rfl rfl (pnums_x [bl, sz] _ _ _ ((m132.rd (i := 24) rfl).any) (by simp) (b63 (by intro x hx; simp only [List.mem_cons, List.not_mem_nil, or_false] at hx; omega))) ?_
    rintro e w133 ⟨p133, c133, rfl, ho133, hb133⟩
    have m134 := m132.newN 26 hb133 ho133
    clear m132
    clear hb133 ho133
    refine ⟨_, rfl, ?_⟩; clear Hz Az; intro Az Hz
    refine hK _ _ (m134.to ⟨il, il, il, trivial⟩) ?_; clear hK K
    have m136 := m134.freezeN 25 rfl; clear m134
    refine stepE_only 13 rfl (by kernel_rfl) rfl (fun K hK => ?_)
    refine e_call Hz Tryd.func33 rfl rfl rfl rfl (pnums_x [(its.length : Int)] _ _ _ ((m136.rd (i := 25) rfl).any) (by simp) (b63 (by intro x hx; simp only [List.mem_cons, List.not_mem_nil, or_false] at hx; omega))) ?_
    rintro e w137 ⟨p137, c137, rfl, ho137, hb137⟩
    have m138 := m136.newN 27 hb137 ho137
    clear m136
    clear hb137 ho137
    refine ⟨_, rfl, ?_⟩; clear Hz Az; intro Az Hz
    refine hK _ _ (m138.to ⟨il, il, il, trivial⟩) ?_; clear hK K
    have m141 := m138.freezeN 26 rfl; clear m138
    have m142 := m141.freezeN 27 rfl; clear m141
    refine stepE_only 14 rfl (by kernel_rfl) rfl (fun K hK => ?_)
    refine e_litR Hz m142 28 (mm := 1) rfl (.cons rfl rfl (.cons (m142.rd (i := 23) rfl) .nil) <| .cons rfl rfl (.cons (m142.rd (i := 26) rfl) .nil) <| .cons rfl rfl (.cons (m142.rd (i := 22) rfl) .nil) <| .cons rfl rfl (.cons (m142.rd (i := 27) rfl) .nil) <| .nil) U32 fct4 rfl rfl rfl rfl rfl ?_
    clear Hz Az m142; intro g140 Az w143 Hz m143
    refine hK _ _ (m143.to ⟨il, il, il, trivial⟩) ?_; clear hK K
    have m144 := m143.freezeR 28 rfl; clear m143
    refine stepE_only 15 rfl (by kernel_rfl) rfl (fun K hK => ?_)
    refine e_call Hz Tryd.func32 rfl rfl rfl rfl (pjoin_is (ls := [magicB, encs [bl, sz], encs [fr + 1, to], encs [(its.length : Int)]]) (S := (magicB ++ encs [bl, sz, fr + 1, to, (its.length : Int)])) ((m144.rd (i := 28) rfl).any) (by simp) (by simp only [sumLen, List.flatten_cons, List.flatten_nil, List.length_append, List.length_nil]; have q1 := encs_len [bl, sz]; have q2 := encs_len [fr + 1, to]; have q3 := encs_len [(its.length : Int)]; simp only [List.length_cons, List.length_nil, magicB] at *; omega) (by simp [encs])) ?_
    rintro e w145 ⟨p145, c145, rfl, ho145, hb145⟩
    have m146 := m144.newN 29 hb145 ho145
    clear m144
    clear hb145 ho145
    refine ⟨_, rfl, ?_⟩; clear Hz Az; intro Az Hz
    refine hK _ _ (m146.to ⟨il, il, il, trivial⟩) ?_; clear hK K
    have m148 := m146.freezeN 29 rfl; clear m146
    refine stepE_end 16 rfl (by kernel_rfl) rfl (by rfl) (fun K hK => ?_)
    refine e_call Hz Tryd.func31 rfl rfl rfl rfl (pseal_x _ _ _ (hT.below m148.below h01) (Nat.le_trans h01 m148.below.size) ((m148.rd (i := 29) rfl).any) hHB hHL) ?_
    rintro e w149 ⟨p149, c149, rfl, ho149, hb149⟩
    have m150 := m148.newN 30 hb149 ho149
    clear m148
    clear hb149 ho149
    refine ⟨_, rfl, ?_⟩; clear Hz Az; intro Az Hz
    refine hK _ _ ?_; clear hK
    refine goB hP93 [17] 1 131071 262143 Hz (.assign rfl <| .nil) ?_
    clear Hz Az; intro Az Hz
    refine wpAnyE_done (by kernel_rfl) ?_ _
    show K4 _ _
    exact hC4 _ _ ⟨_, _, _, Hz.only [1, 5], m150.ren [(8, 20), (9, 30)] (by decide)⟩
   refine e_litN Hz m104 24 (k := .i64) rfl rfl U52 fct26 rfl rfl rfl rfl ?_
   clear Hz Az m104; intro g153 Az w154 Hz m154
   refine hK _ _ (fun _ => (m154.to ⟨il, il, il, trivial⟩)) ?_; clear hK K
   refine stepE_only 6 rfl (by kernel_rfl) rfl (fun K hK => ?_)
   refine e_litN Hz m154 25 (k := .i64) rfl rfl U52 fct26 rfl rfl rfl rfl ?_
   clear Hz Az m154; intro g155 Az w156 Hz m156
   refine hK _ _ (m156.to ⟨il, il, il, trivial⟩) ?_; clear hK K
   have m157 := m156.freezeN 25 rfl; clear m156
   refine stepE_only 7 rfl (by kernel_rfl) rfl (fun K hK => ?_)
   refine e_call Hz Tryd.func33 rfl rfl rfl rfl (pnums_x [bl, sz] _ _ _ ((m157.rd (i := 25) rfl).any) (by simp) (b63 (by intro x hx; simp only [List.mem_cons, List.not_mem_nil, or_false] at hx; omega))) ?_
   rintro e w158 ⟨p158, c158, rfl, ho158, hb158⟩
   have m159 := m157.newN 26 hb158 ho158
   clear m157
   clear hb158 ho158
   refine ⟨_, rfl, ?_⟩; clear Hz Az; intro Az Hz
   refine hK _ _ (m159.to ⟨il, il, il, trivial⟩) ?_; clear hK K
   have m161 := m159.freezeN 24 rfl; clear m159
   refine stepE_only 13 rfl (by kernel_rfl) rfl (fun K hK => ?_)
   refine e_call Hz Tryd.func33 rfl rfl rfl rfl (pnums_x [(its.length : Int)] _ _ _ ((m161.rd (i := 24) rfl).any) (by simp) (b63 (by intro x hx; simp only [List.mem_cons, List.not_mem_nil, or_false] at hx; omega))) ?_
   rintro e w162 ⟨p162, c162, rfl, ho162, hb162⟩
   have m163 := m161.newN 27 hb162 ho162
   clear m161
   clear hb162 ho162
   refine ⟨_, rfl, ?_⟩; clear Hz Az; intro Az Hz
   refine hK _ _ (m163.to ⟨il, il, il, trivial⟩) ?_; clear hK K
   have m166 := m163.freezeN 26 rfl; clear m163
   have m167 := m166.freezeN 27 rfl; clear m166
   refine stepE_only 14 rfl (by kernel_rfl) rfl (fun K hK => ?_)
   refine e_litR Hz m167 28 (mm := 1) rfl (.cons rfl rfl (.cons (m167.rd (i := 23) rfl) .nil) <| .cons rfl rfl (.cons (m167.rd (i := 26) rfl) .nil) <| .cons rfl rfl (.cons (m167.rd (i := 22) rfl) .nil) <| .cons rfl rfl (.cons (m167.rd (i := 27) rfl) .nil) <| .nil) U32 fct4 rfl rfl rfl rfl rfl ?_
   clear Hz Az m167; intro g165 Az w168 Hz m168
   refine hK _ _ (m168.to ⟨il, il, il, trivial⟩) ?_; clear hK K
   have m169 := m168.freezeR 28 rfl; clear m168
   refine stepE_only 15 rfl (by kernel_rfl) rfl (fun K hK => ?_)
   refine e_call Hz Tryd.func32 rfl rfl rfl rfl (pjoin_is (ls := [magicB, encs [bl, sz], encs [fr + 1, to], encs [(its.length : Int)]]) (S := (magicB ++ encs [bl, sz, fr + 1, to, (its.length : Int)])) ((m169.rd (i := 28) rfl).any) (by simp) (by simp only [sumLen, List.flatten_cons, List.flatten_nil, List.length_append, List.length_nil]; have q1 := encs_len [bl, sz]; have q2 := encs_len [fr + 1, to]; have q3 := encs_len [(its.length : Int)]; simp only [List.length_cons, List.length_nil, magicB] at *; omega) (by simp [encs])) ?_
   rintro e w170 ⟨p170, c170, rfl, ho170, hb170⟩
   have m171 := m169.newN 29 hb170 ho170
   clear m169
   clear hb170 ho170
   refine ⟨_, rfl, ?_⟩; clear Hz Az; intro Az Hz
   refine hK _ _ (m171.to ⟨il, il, il, trivial⟩) ?_; clear hK K
   have m173 := m171.freezeN 29 rfl; clear m171
   refine stepE_end 16 rfl (by kernel_rfl) rfl (by rfl) (fun K hK => ?_)
   refine e_call Hz Tryd.func31 rfl rfl rfl rfl (pseal_x _ _ _ (hT.below m173.below h01) (Nat.le_trans h01 m173.below.size) ((m173.rd (i := 29) rfl).any) hHB hHL) ?_
   rintro e w174 ⟨p174, c174, rfl, ho174, hb174⟩
   have m175 := m173.newN 30 hb174 ho174
   clear m173
   clear hb174 ho174
   refine ⟨_, rfl, ?_⟩; clear Hz Az; intro Az Hz
   refine hK _ _ ?_; clear hK
   refine goB hP93 [17] 1 131071 262143 Hz (.assign rfl <| .nil) ?_
   clear Hz Az; intro Az Hz
   refine wpAnyE_done (by kernel_rfl) ?_ _
   show K4 _ _
   exact hC4 _ _ ⟨_, _, _, Hz.only [1, 5], m175.ren [(8, 20), (9, 30)] (by decide)⟩
  ·
   refine e_litN Hz m103 24 (k := .i64) rfl rfl U52 fct26 rfl rfl rfl rfl ?_
   clear Hz Az m103; intro g178 Az w179 Hz m179
   refine hK _ _ (fun _ => (m179.to ⟨il, il, il, trivial⟩)) ?_; clear hK K
   refine d_three 1 7 12 rfl rfl rfl (by kernel_rfl) rfl rfl rfl (fun K hK => ?_) (fun K hK => ?_) (fun K hK => ?_)
   ·
    refine e_cvN Hz m179 23 rfl rfl U22 U5 rfl ?_
    clear Hz Az m179; intro  Az w180 Hz m180
    refine hK _ _ (fun _ => (m180.to ⟨il, il, il, trivial⟩)) ?_; clear hK K
    refine d_two 7 12 rfl rfl (by kernel_rfl) rfl rfl (fun K hK => ?_) (fun K hK => ?_)
    ·
     have m181 := m180.freezeN 24 rfl; clear m180
     refine e_call Hz Tryd.func33 rfl rfl rfl rfl (pnums_x [bl, sz] _ _ _ ((m181.rd (i := 24) rfl).any) (by simp) (b63 (by intro x hx; simp only [List.mem_cons, List.not_mem_nil, or_false] at hx; omega))) ?_
     rintro e w182 ⟨p182, c182, rfl, ho182, hb182⟩
     have m183 := m181.newN 25 hb182 ho182
     clear m181
     clear hb182 ho182
     refine ⟨_, rfl, ?_⟩; clear Hz Az; intro Az Hz
     refine hK _ _ (fun _ => (m183.to ⟨il, il, il, trivial⟩)) ?_; clear hK K
     refine stepE_only 12 rfl (by kernel_rfl) rfl (fun K hK => ?_)
     refine e_litN Hz m183 26 (k := .i64) rfl rfl U52 fct26 rfl rfl rfl rfl ?_
     clear Hz Az m183; intro g185 Az w186 Hz m186
     refine hK _ _ (m186.to ⟨il, il, il, trivial⟩) ?_; clear hK K
     have m187 := m186.freezeN 26 rfl; clear m186
     refine stepE_only 13 rfl (by kernel_rfl) rfl (fun K hK => ?_)
     refine e_call Hz Tryd.func33 rfl rfl rfl rfl (pnums_x [(its.length : Int)] _ _ _ ((m187.rd (i := 26) rfl).any) (by simp) (b63 (by intro x hx; simp only [List.mem_cons, List.not_mem_nil, or_false] at hx; omega))) ?_
     rintro e w188 ⟨p188, c188, rfl, ho188, hb188⟩
     have m189 := m187.newN 27 hb188 ho188
     clear m187
     clear hb188 ho188
     refine ⟨_, rfl, ?_⟩; clear Hz Az; intro Az Hz
     refine hK _ _ (m189.to ⟨il, il, il, trivial⟩) ?_; clear hK K
     have m192 := m189.freezeN 25 rfl; clear m189
     have m193 := m192.freezeN 27 rfl; clear m192
     refine stepE_only 14 rfl (by kernel_rfl) rfl (fun K hK => ?_)
     refine e_litR Hz m193 28 (mm := 1) rfl (.cons rfl rfl (.cons (m193.rd (i := 23) rfl) .nil) <| .cons rfl rfl (.cons (m193.rd (i := 25) rfl) .nil) <| .cons rfl rfl (.cons (m193.rd (i := 22) rfl) .nil) <| .cons rfl rfl (.cons (m193.rd (i := 27) rfl) .nil) <| .nil) U32 fct4 rfl rfl rfl rfl rfl ?_
     clear Hz Az m193; intro g191 Az w194 Hz m194
     refine hK _ _ (m194.to ⟨il, il, il, trivial⟩) ?_; clear hK K
     have m195 := m194.freezeR 28 rfl; clear m194
     refine stepE_only 15 rfl (by kernel_rfl) rfl (fun K hK => ?_)
     refine e_call Hz Tryd.func32 rfl rfl rfl rfl (pjoin_is (ls := [magicB, encs [bl, sz], encs [fr + 1, to], encs [(its.length : Int)]]) (S := (magicB ++ encs [bl, sz, fr + 1, to, (its.length : Int)])) ((m195.rd (i := 28) rfl).any) (by simp) (by simp only [sumLen, List.flatten_cons, List.flatten_nil, List.length_append, List.length_nil]; have q1 := encs_len [bl, sz]; have q2 := encs_len [fr + 1, to]; have q3 := encs_len [(its.length : Int)]; simp only [List.length_cons, List.length_nil, magicB] at *; omega) (by simp [encs])) ?_
     rintro e w196 ⟨p196, c196, rfl, ho196, hb196⟩
     have m197 := m195.newN 29 hb196 ho196
     clear m195
     clear hb196 ho196
     refine ⟨_, rfl, ?_⟩; clear Hz Az; intro Az Hz
     refine hK _ _ (m197.to ⟨il, il, il, trivial⟩) ?_; clear hK K
     have m199 := m197.freezeN 29 rfl; clear m197
     refine stepE_end 16 rfl (by kernel_rfl) rfl (by rfl) (fun K hK => ?_)
     refine e_call Hz Tryd.func31 rfl rfl rfl rfl (pseal_x _ _ _ (hT.below m199.below h01) (Nat.le_trans h01 m199.below.size) ((m199.rd (i := 29) rfl).any) hHB hHL) ?_
     rintro e w200 ⟨p200, c200, rfl, ho200, hb200⟩
     have m201 := m199.newN 30 hb200 ho200
     clear m199
     clear hb200 ho200
     refine ⟨_, rfl, ?_⟩; clear Hz Az; intro Az Hz
     refine hK _ _ ?_; clear hK
     refine goB hP93 [17] 1 131071 262143 Hz (.assign rfl <| .nil) ?_
     clear Hz Az; intro Az Hz
     refine wpAnyE_done (by kernel_rfl) ?_ _
     show K4 _ _
     exact hC4 _ _ ⟨_, _, _, Hz.only [1, 5], m201.ren [(8, 20), (9, 30)] (by decide)⟩
    refine e_litN Hz m180 25 (k := .i64) rfl rfl U52 fct26 rfl rfl rfl rfl ?_
    clear Hz Az m180; intro g204 Az w205 Hz m205
    refine hK _ _ (fun _ => (m205.to ⟨il, il, il, trivial⟩)) ?_; clear hK K
    have m206 := m205.freezeN 24 rfl; clear m205
    refine stepE_only 7 rfl (by kernel_rfl) rfl (fun K hK => ?_)
    refine e_call Hz Tryd.func33 rfl rfl rfl rfl (pnums_x [bl, sz] _ _ _ ((m206.rd (i := 24) rfl).any) (by simp) (b63 (by intro x hx; simp only [List.mem_cons, List.not_mem_nil, or_false] at hx; omega))) ?_
    rintro e w207 ⟨p207, c207, rfl, ho207, hb207⟩
    have m208 := m206.newN 26 hb207 ho207
    clear m206
    clear hb207 ho207
    refine ⟨_, rfl, ?_⟩; clear Hz Az; intro Az Hz
    refine hK _ _ (m208.to ⟨il, il, il, trivial⟩) ?_; clear hK K
    have m210 := m208.freezeN 25 rfl; clear m208
    refine stepE_only 13 rfl (by kernel_rfl) rfl (fun K hK => ?_)
    refine e_call Hz Tryd.func33 rfl rfl rfl rfl (pnums_x [(its.length : Int)] _ _ _ ((m210.rd (i := 25) rfl).any) (by simp) (b63 (by intro x hx; simp only [List.mem_cons, List.not_mem_nil, or_false] at hx; omega))) ?_
    rintro e w211 ⟨p211, c211, rfl, ho211, hb211⟩
    have m212 := m210.newN 27 hb211 ho211
    clear m210
    clear hb211 ho211
    refine ⟨_, rfl, ?_⟩; clear Hz Az; intro Az Hz
    refine hK _ _ (m212.to ⟨il, il, il, trivial⟩) ?_; clear hK K
    have m215 := m212.freezeN 26 rfl; clear m212
    have m216 := m215.freezeN 27 rfl; clear m215
    refine stepE_only 14 rfl (by kernel_rfl) rfl (fun K hK => ?_)
    refine e_litR Hz m216 28 (mm := 1) rfl (.cons rfl rfl (.cons (m216.rd (i := 23) rfl) .nil) <| .cons rfl rfl (.cons (m216.rd (i := 26) rfl) .nil) <| .cons rfl rfl (.cons (m216.rd (i := 22) rfl) .nil) <| .cons rfl rfl (.cons (m216.rd (i := 27) rfl) .nil) <| .nil) U32 fct4 rfl rfl rfl rfl rfl ?_
    clear Hz Az m216; intro g214 Az w217 Hz m217
    refine hK _ _ (m217.to ⟨il, il, il, trivial⟩) ?_; clear hK K
    have m218 := m217.freezeR 28 rfl; clear m217
    refine stepE_only 15 rfl (by kernel_rfl) rfl (fun K hK => ?_)
    refine e_call Hz Tryd.func32 rfl rfl rfl rfl (pjoin_is (ls := [magicB, encs [bl, sz], encs [fr + 1, to], encs [(its.length : Int)]]) (S := (magicB ++ encs [bl, sz, fr + 1, to, (its.length : Int)])) ((m218.rd (i := 28) rfl).any) (by simp) (by simp only [sumLen, List.flatten_cons, List.flatten_nil, List.length_append, List.length_nil]; have q1 := encs_len [bl, sz]; have q2 := encs_len [fr + 1, to]; have q3 := encs_len [(its.length : Int)]; simp only [List.length_cons, List.length_nil, magicB] at *; omega) (by simp [encs])) ?_
    rintro e w219 ⟨p219, c219, rfl, ho219, hb219⟩
    have m220 := m218.newN 29 hb219 ho219
    clear m218
    clear hb219 ho219
    refine ⟨_, rfl, ?_⟩; clear Hz Az; intro Az Hz
    refine hK _ _ (m220.to ⟨il, il, il, trivial⟩) ?_; clear hK K
    have m222 := m220.freezeN 29 rfl; clear m220
    refine stepE_end 16 rfl (by kernel_rfl) rfl (by rfl) (fun K hK => ?_)
    refine e_call Hz Tryd.func31 rfl rfl rfl rfl (pseal_x _ _ _ (hT.below m222.below h01) (Nat.le_trans h01 m222.below.size) ((m222.rd (i := 29) rfl).any) hHB hHL) ?_
    rintro e w223 ⟨p223, c223, rfl, ho223, hb223⟩
    have m224 := m222.newN 30 hb223 ho223
    clear m222
    clear hb223 ho223
    refine ⟨_, rfl, ?_⟩; clear Hz Az; intro Az Hz
    refine hK _ _ ?_; clear hK
    refine goB hP93 [17] 1 131071 262143 Hz (.assign rfl <| .nil) ?_
    clear Hz Az; intro Az Hz
    refine wpAnyE_done (by kernel_rfl) ?_ _
    show K4 _ _
    exact hC4 _ _ ⟨_, _, _, Hz.only [1, 5], m224.ren [(8, 20), (9, 30)] (by decide)⟩
   ·
    have m227 := m179.freezeN 24 rfl; clear m179
    refine e_call Hz Tryd.func33 rfl rfl rfl rfl (pnums_x [bl, sz] _ _ _ ((m227.rd (i := 24) rfl).any) (by simp) (b63 (by intro x hx; simp only [List.mem_cons, List.not_mem_nil, or_false] at hx; omega))) ?_
    rintro e w228 ⟨p228, c228, rfl, ho228, hb228⟩
    have m229 := m227.newN 25 hb228 ho228
    clear m227
    clear hb228 ho228
    refine ⟨_, rfl, ?_⟩; clear Hz Az; intro Az Hz
    refine hK _ _ (fun _ => (m229.to ⟨il, il, il, trivial⟩)) ?_; clear hK K
    refine d_two 1 12 rfl rfl (by kernel_rfl) rfl rfl (fun K hK => ?_) (fun K hK => ?_)
    ·
     refine e_cvN Hz m229 23 rfl rfl U22 U5 rfl ?_
     clear Hz Az m229; intro  Az w231 Hz m231
     refine hK _ _ (fun _ => (m231.to ⟨il, il, il, trivial⟩)) ?_; clear hK K
     refine stepE_only 12 rfl (by kernel_rfl) rfl (fun K hK => ?_)
     refine e_litN Hz m231 26 (k := .i64) rfl rfl U52 fct26 rfl rfl rfl rfl ?_
     clear Hz Az m231; intro g232 Az w233 Hz m233
     refine hK _ _ (m233.to ⟨il, il, il, trivial⟩) ?_; clear hK K
     have m234 := m233.freezeN 26 rfl; clear m233
     refine stepE_only 13 rfl (by kernel_rfl) rfl (fun K hK => ?_)
     refine e_call Hz Tryd.func33 rfl rfl rfl rfl (pnums_x [(its.length : Int)] _ _ _ ((m234.rd (i := 26) rfl).any) (by simp) (b63 (by intro x hx; simp only [List.mem_cons, List.not_mem_nil, or_false] at hx; omega))) ?_
     rintro e w235 ⟨p235, c235, rfl, ho235, hb235⟩
     have m236 := m234.newN 27 hb235 ho235
     clear m234
     clear hb235 ho235
     refine ⟨_, rfl, ?_⟩; clear Hz Az; intro Az Hz
     refine hK _ _ (m236.to ⟨il, il, il, trivial⟩) ?_; clear hK K
     have m239 := m236.freezeN 25 rfl; clear m236
     have m240 := m239.freezeN 27 rfl; clear m239
     refine stepE_only 14 rfl (by kernel_rfl) rfl (fun K hK => ?_)
     refine e_litR Hz m240 28 (mm := 1) rfl (.cons rfl rfl (.cons (m240.rd (i := 23) rfl) .nil) <| .cons rfl rfl (.cons (m240.rd (i := 25) rfl) .nil) <| .cons rfl rfl (.cons (m240.rd (i := 22) rfl) .nil) <| .cons rfl rfl (.cons (m240.rd (i := 27) rfl) .nil) <| .nil) U32 fct4 rfl rfl rfl rfl rfl ?_
     clear Hz Az m240; intro g238 Az w241 Hz m241
     refine hK _ _ (m241.to ⟨il, il, il, trivial⟩) ?_; clear hK K
     have m242 := m241.freezeR 28 rfl; clear m241
     refine stepE_only 15 rfl (by kernel_rfl) rfl (fun K hK => ?_)
     refine e_call Hz Tryd.func32 rfl rfl rfl rfl (pjoin_is (ls := [magicB, encs [bl, sz], encs [fr + 1, to], encs [(its.length : Int)]]) (S := (magicB ++ encs [bl, sz, fr + 1, to, (its.length : Int)])) ((m242.rd (i := 28) rfl).any) (by simp) (by simp only [sumLen, List.flatten_cons, List.flatten_nil, List.length_append, List.length_nil]; have q1 := encs_len [bl, sz]; have q2 := encs_len [fr + 1, to]; have q3 := encs_len [(its.length : Int)]; simp only [List.length_cons, List.length_nil, magicB] at *; omega) (by simp [encs])) ?_
     rintro e w243 ⟨p243, c243, rfl, ho243, hb243⟩
     have m244 := m242.newN 29 hb243 ho243
     clear m242
     clear hb243 ho243
     refine ⟨_, rfl, ?_⟩; clear Hz Az; intro Az Hz
     refine hK _ _ (m244.to ⟨il, il, il, trivial⟩) ?_; clear hK K
     have m246 := m244.freezeN 29 rfl; clear m244
     refine stepE_end 16 rfl (by kernel_rfl) rfl (by rfl) (fun K hK => ?_)
     refine e_call Hz Tryd.func31 rfl rfl rfl rfl (pseal_x _ _ _ (hT.below m246.below h01) (Nat.le_trans h01 m246.below.size) ((m246.rd (i := 29) rfl).any) hHB hHL) ?_
     rintro e w247 ⟨p247, c247, rfl, ho247, hb247⟩
     have m248 := m246.newN 30 hb247 ho247
     clear m246
     clear hb247 ho247
     refine ⟨_, rfl, ?_⟩; clear Hz Az; intro Az Hz
     refine hK _ _ ?_; clear hK
     refine goB hP93 [17] 1 131071 262143 Hz (.assign rfl <| .nil) ?_
     clear Hz Az; intro Az Hz
     refine wpAnyE_done (by kernel_rfl) ?_ _
     show K4 _ _
     exact hC4 _ _ ⟨_, _, _, Hz.only [1, 5], m248.ren [(8, 20), (9, 30)] (by decide)⟩
    refine e_litN Hz m229 26 (k := .i64) rfl rfl U52 fct26 rfl rfl rfl rfl ?_
    clear Hz Az m229; intro g251 Az w252 Hz m252
    refine hK _ _ (fun _ => (m252.to ⟨il, il, il, trivial⟩)) ?_; clear hK K
    refine d_two 1 13 rfl rfl (by kernel_rfl) rfl rfl (fun K hK => ?_) (fun K hK => ?_)
    ·
     refine e_cvN Hz m252 23 rfl rfl U22 U5 rfl ?_
     clear Hz Az m252; intro  Az w253 Hz m253
     refine hK _ _ (fun _ => (m253.to ⟨il, il, il, trivial⟩)) ?_; clear hK K
     have m254 := m253.freezeN 26 rfl; clear m253
     refine stepE_only 13 rfl (by kernel_rfl) rfl (fun K hK => ?_)
     refine e_call Hz Tryd.func33 rfl rfl rfl rfl (pnums_x [(its.length : Int)] _ _ _ ((m254.rd (i := 26) rfl).any) (by simp) (b63 (by intro x hx; simp only [List.mem_cons, List.not_mem_nil, or_false] at hx; omega))) ?_
     rintro e w255 ⟨p255, c255, rfl, ho255, hb255⟩
     have m256 := m254.newN 27 hb255 ho255
     clear m254
     clear hb255 ho255
     refine ⟨_, rfl, ?_⟩; clear Hz Az; intro Az Hz
     refine hK _ _ (m256.to ⟨il, il, il, trivial⟩) ?_; clear hK K
     have m259 := m256.freezeN 25 rfl; clear m256
     have m260 := m259.freezeN 27 rfl; clear m259
     refine stepE_only 14 rfl (by kernel_rfl) rfl (fun K hK => ?_)
     refine e_litR Hz m260 28 (mm := 1) rfl (.cons rfl rfl (.cons (m260.rd (i := 23) rfl) .nil) <| .cons rfl rfl (.cons (m260.rd (i := 25) rfl) .nil) <| .cons rfl rfl (.cons (m260.rd (i := 22) rfl) .nil) <| .cons rfl rfl (.cons (m260.rd (i := 27) rfl) .nil) <| .nil) U32 fct4 rfl rfl rfl rfl rfl ?_
     clear Hz Az m260; intro g258 Az w261 Hz m261
     refine hK _ _ (m261.to ⟨il, il, il, trivial⟩) ?_; clear hK K
     have m262 := m261.freezeR 28 rfl; clear m261
     refine stepE_only 15 rfl (by kernel_rfl) rfl (fun K hK => ?_)
     refine e_call Hz Tryd.func32 rfl rfl rfl rfl (pjoin_is (ls := [magicB, encs [bl, sz], encs [fr + 1, to], encs [(its.length : Int)]]) (S := (magicB ++ encs [bl, sz, fr + 1, to, (its.length : Int)])) ((m262.rd (i := 28) rfl).any) (by simp) (by simp only [sumLen, List.flatten_cons, List.flatten_nil, List.length_append, List.length_nil]; have q1 := encs_len [bl, sz]; have q2 := encs_len [fr + 1, to]; have q3 := encs_len [(its.length : Int)]; simp only [List.length_cons, List.length_nil, magicB] at *; omega) (by simp [encs])) ?_
     rintro e w263 ⟨p263, c263, rfl, ho263, hb263⟩
     have m264 := m262.newN 29 hb263 ho263
     clear m262
     clear hb263 ho263
     refine ⟨_, rfl, ?_⟩; clear Hz Az; intro Az Hz
     refine hK _ _ (m264.to ⟨il, il, il, trivial⟩) ?_; clear hK K
     have m266 := m264.freezeN 29 rfl; clear m264
     refine stepE_end 16 rfl (by kernel_rfl) rfl (by rfl) (fun K hK => ?_)
     refine e_call Hz Tryd.func31 rfl rfl rfl rfl (pseal_x _ _ _ (hT.below m266.below h01) (Nat.le_trans h01 m266.below.size) ((m266.rd (i := 29) rfl).any) hHB hHL) ?_
     rintro e w267 ⟨p267, c267, rfl, ho267, hb267⟩
     have m268 := m266.newN 30 hb267 ho267
     clear m266
     clear hb267 ho267
     refine ⟨_, rfl, ?_⟩; clear Hz Az; intro Az Hz
     refine hK _ _ ?_; clear hK
     refine goB hP93 [17] 1 131071 262143 Hz (.assign rfl <| .nil) ?_
     clear Hz Az; intro Az Hz
     refine wpAnyE_done (by kernel_rfl) ?_ _
     show K4 _ _
     exact hC4 _ _ ⟨_, _, _, Hz.only [1, 5], m268.ren [(8, 20), (9, 30)] (by decide)⟩
    have m271 := m252.freezeN 26 rfl; clear m252
    refine e_call Hz Tryd.func33 rfl rfl rfl rfl (pnums_x [(its.length : Int)] _ _ _ ((m271.rd (i := 26) rfl).any) (by simp) (b63 (by intro x hx; simp only [List.mem_cons, List.not_mem_nil, or_false] at hx; omega))) ?_
    rintro e w272 ⟨p272, c272, rfl, ho272, hb272⟩
    have m273 := m271.newN 27 hb272 ho272
    clear m271
    clear hb272 ho272
    refine ⟨_, rfl, ?_⟩; clear Hz Az; intro Az Hz
    refine hK _ _ (fun _ => (m273.to ⟨il, il, il, trivial⟩)) ?_; clear hK K
    refine stepE_only 1 rfl (by kernel_rfl) rfl (fun K hK => ?_)
    refine e_cvN Hz m273 23 rfl rfl U22 U5 rfl ?_
    clear Hz Az m273; intro  Az w275 Hz m275
    refine hK _ _ (m275.to ⟨il, il, il, trivial⟩) ?_; clear hK K
    have m277 := m275.freezeN 25 rfl; clear m275
    have m278 := m277.freezeN 27 rfl; clear m277
    refine stepE_only 14 rfl (by kernel_rfl) rfl (fun K hK => ?_)
    refine e_litR Hz m278 28 (mm := 1) rfl (.cons rfl rfl (.cons (m278.rd (i := 23) rfl) .nil) <| .cons rfl rfl (.cons (m278.rd (i := 25) rfl) .nil) <| .cons rfl rfl (.cons (m278.rd (i := 22) rfl) .nil) <| .cons rfl rfl (.cons (m278.rd (i := 27) rfl) .nil) <| .nil) U32 fct4 rfl rfl rfl rfl rfl ?_
    clear Hz Az m278; intro g276 Az w279 Hz m279
    refine hK _ _ (m279.to ⟨il, il, il, trivial⟩) ?_; clear hK K
    have m280 := m279.freezeR 28 rfl; clear m279
    refine stepE_only 15 rfl (by kernel_rfl) rfl (fun K hK => ?_)
    refine e_call Hz Tryd.func32 rfl rfl rfl rfl (pjoin_is (ls := [magicB, encs [bl, sz], encs [fr + 1, to], encs [(its.length : Int)]]) (S := (magicB ++ encs [bl, sz, fr + 1, to, (its.length : Int)])) ((m280.rd (i := 28) rfl).any) (by simp) (by simp only [sumLen, List.flatten_cons, List.flatten_nil, List.length_append, List.length_nil]; have q1 := encs_len [bl, sz]; have q2 := encs_len [fr + 1, to]; have q3 := encs_len [(its.length : Int)]; simp only [List.length_cons, List.length_nil, magicB] at *; omega) (by simp [encs])) ?_
    rintro e w281 ⟨p281, c281, rfl, ho281, hb281⟩
    have m282 := m280.newN 29 hb281 ho281
    clear m280
    clear hb281 ho281
    refine ⟨_, rfl, ?_⟩; clear Hz Az; intro Az Hz
    refine hK _ _ (m282.to ⟨il, il, il, trivial⟩) ?_; clear hK K
    have m284 := m282.freezeN 29 rfl; clear m282
    refine stepE_end 16 rfl (by kernel_rfl) rfl (by rfl) (fun K hK => ?_)
    refine e_call Hz Tryd.func31 rfl rfl rfl rfl (pseal_x _ _ _ (hT.below m284.below h01) (Nat.le_trans h01 m284.below.size) ((m284.rd (i := 29) rfl).any) hHB hHL) ?_
    rintro e w285 ⟨p285, c285, rfl, ho285, hb285⟩
    have m286 := m284.newN 30 hb285 ho285
    clear m284
    clear hb285 ho285
    refine ⟨_, rfl, ?_⟩; clear Hz Az; intro Az Hz
    refine hK _ _ ?_; clear hK
    refine goB hP93 [17] 1 131071 262143 Hz (.assign rfl <| .nil) ?_
    clear Hz Az; intro Az Hz
    refine wpAnyE_done (by kernel_rfl) ?_ _
    show K4 _ _
    exact hC4 _ _ ⟨_, _, _, Hz.only [1, 5], m286.ren [(8, 20), (9, 30)] (by decide)⟩
   refine e_litN Hz m179 25 (k := .i64) rfl rfl U52 fct26 rfl rfl rfl rfl ?_
   clear Hz Az m179; intro g289 Az w290 Hz m290
   refine hK _ _ (fun _ => (m290.to ⟨il, il, il, trivial⟩)) ?_; clear hK K
   refine d_two 1 7 rfl rfl (by kernel_rfl) rfl rfl (fun K hK => ?_) (fun K hK => ?_)
   ·
    refine e_cvN Hz m290 23 rfl rfl U22 U5 rfl ?_
    clear Hz Az m290; intro  Az w291 Hz m291
    refine hK _ _ (fun _ => (m291.to ⟨il, il, il, trivial⟩)) ?_; clear hK K
    have m292 := m291.freezeN 24 rfl; clear m291
    refine stepE_only 7 rfl (by kernel_rfl) rfl (fun K hK => ?_)
    refine e_call Hz Tryd.func33 rfl rfl rfl rfl (pnums_x [bl, sz] _ _ _ ((m292.rd (i := 24) rfl).any) (by simp) (b63 (by intro x hx; simp only [List.mem_cons, List.not_mem_nil, or_false] at hx; omega))) ?_
    rintro e w293 ⟨p293, c293, rfl, ho293, hb293⟩
    have m294 := m292.newN 26 hb293 ho293
    clear m292
    clear hb293 ho293
    refine ⟨_, rfl, ?_⟩; clear Hz Az; intro Az Hz
    refine hK _ _ (m294.to ⟨il, il, il, trivial⟩) ?_; clear hK K
    have m296 := m294.freezeN 25 rfl; clear m294
    refine stepE_only 13 rfl (by kernel_rfl) rfl (fun K hK => ?_)
    refine e_call Hz Tryd.func33 rfl rfl rfl rfl (pnums_x [(its.length : Int)] _ _ _ ((m296.rd (i := 25) rfl).any) (by simp) (b63 (by intro x hx; simp only [List.mem_cons, List.not_mem_nil, or_false] at hx; omega))) ?_
    rintro e w297 ⟨p297, c297, rfl, ho297, hb297⟩
    have m298 := m296.newN 27 hb297 ho297
    clear m296
    clear hb297 ho297
    refine ⟨_, rfl, ?_⟩; clear Hz Az; intro Az Hz
    refine hK _ _ (m298.to ⟨il, il, il, trivial⟩) ?_; clear hK K
    have m301 := m298.freezeN 26 rfl; clear m298
    have m302 := m301.freezeN 27 rfl; clear m301
    refine stepE_only 14 rfl (by kernel_rfl) rfl (fun K hK => ?_)
    refine e_litR Hz m302 28 (mm := 1) rfl (.cons rfl rfl (.cons (m302.rd (i := 23) rfl) .nil) <| .cons rfl rfl (.cons (m302.rd (i := 26) rfl) .nil) <| .cons rfl rfl (.cons (m302.rd (i := 22) rfl) .nil) <| .cons rfl rfl (.cons (m302.rd (i := 27) rfl) .nil) <| .nil) U32 fct4 rfl rfl rfl rfl rfl ?_
    clear Hz Az m302; intro g300 Az w303 Hz m303
    refine hK _ _ (m303.to ⟨il, il, il, trivial⟩) ?_; clear hK K
    have m304 := m303.freezeR 28 rfl; clear m303
    refine stepE_only 15 rfl (by kernel_rfl) rfl (fun K hK => ?_)
    refine e_call Hz Tryd.func32 rfl rfl rfl rfl (pjoin_is (ls := [magicB, encs [bl, sz], encs [fr + 1, to], encs [(its.length : Int)]]) (S := (magicB ++ encs [bl, sz, fr + 1, to, (its.length : Int)])) ((m304.rd (i := 28) rfl).any) (by simp) (by simp only [sumLen, List.flatten_cons, List.flatten_nil, List.length_append, List.length_nil]; have q1 := encs_len [bl, sz]; have q2 := encs_len [fr + 1, to]; have q3 := encs_len [(its.length : Int)]; simp only [List.length_cons, List.length_nil, magicB] at *; omega) (by simp [encs])) ?_
    rintro e w305 ⟨p305, c305, rfl, ho305, hb305⟩
    have m306 := m304.newN 29 hb305 ho305
    clear m304
    clear hb305 ho305
    refine ⟨_, rfl, ?_⟩; clear Hz Az; intro Az Hz
    refine hK _ _ (m306.to ⟨il, il, il, trivial⟩) ?_; clear hK K
    have m308 := m306.freezeN 29 rfl; clear m306
    refine stepE_end 16 rfl (by kernel_rfl) rfl (by rfl) (fun K hK => ?_)
    refine e_call Hz Tryd.func31 rfl rfl rfl rfl (pseal_x _ _ _ (hT.below m308.below h01) (Nat.le_trans h01 m308.below.size) ((m308.rd (i := 29) rfl).any) hHB hHL) ?_
    rintro e w309 ⟨p309, c309, rfl, ho309, hb309⟩
    have m310 := m308.newN 30 hb309 ho309
    clear m308
    clear hb309 ho309
    refine ⟨_, rfl, ?_⟩; clear Hz Az; intro Az Hz
    refine hK _ _ ?_; clear hK
    refine goB hP93 [17] 1 131071 262143 Hz (.assign rfl <| .nil) ?_
    clear Hz Az; intro Az Hz
    refine wpAnyE_done (by kernel_rfl) ?_ _
    show K4 _ _
    exact hC4 _ _ ⟨_, _, _, Hz.only [1, 5], m310.ren [(8, 20), (9, 30)] (by decide)⟩
   have m313 := m290.freezeN 24 rfl; clear m290
   refine e_call Hz Tryd.func33 rfl rfl rfl rfl (pnums_x [bl, sz] _ _ _ ((m313.rd (i := 24) rfl).any) (by simp) (b63 (by intro x hx; simp only [List.mem_cons, List.not_mem_nil, or_false] at hx; omega))) ?_
   rintro e w314 ⟨p314, c314, rfl, ho314, hb314⟩
   have m315 := m313.newN 26 hb314 ho314
   clear m313
   clear hb314 ho314
   refine ⟨_, rfl, ?_⟩; clear Hz Az; intro Az Hz
   refine hK _ _ (fun _ => (m315.to ⟨il, il, il, trivial⟩)) ?_; clear hK K
   refine d_two 1 13 rfl rfl (by kernel_rfl) rfl rfl (fun K hK => ?_) (fun K hK => ?_)
   ·
    refine e_cvN Hz m315 23 rfl rfl U22 U5 rfl ?_
    clear Hz Az m315; intro  Az w317 Hz m317
    refine hK _ _ (fun _ => (m317.to ⟨il, il, il, trivial⟩)) ?_; clear hK K
    have m318 := m317.freezeN 25 rfl; clear m317
    refine stepE_only 13 rfl (by kernel_rfl) rfl (fun K hK => ?_)
    refine e_call Hz Tryd.func33 rfl rfl rfl rfl (pnums_x [(its.length : Int)] _ _ _ ((m318.rd (i := 25) rfl).any) (by simp) (b63 (by intro x hx; simp only [List.mem_cons, List.not_mem_nil, or_false] at hx; omega))) ?_
    rintro e w319 ⟨p319, c319, rfl, ho319, hb319⟩
    have m320 := m318.newN 27 hb319 ho319
    clear m318
    clear hb319 ho319
    refine ⟨_, rfl, ?_⟩; clear Hz Az; intro Az Hz
    refine hK _ _ (m320.to ⟨il, il, il, trivial⟩) ?_; clear hK K
    have m323 := m320.freezeN 26 rfl; clear m320
    have m324 := m323.freezeN 27 rfl; clear m323
    refine stepE_only 14 rfl (by kernel_rfl) rfl (fun K hK => ?_)
    refine e_litR Hz m324 28 (mm := 1) rfl (.cons rfl rfl (.cons (m324.rd (i := 23) rfl) .nil) <| .cons rfl rfl (.cons (m324.rd (i := 26) rfl) .nil) <| .cons rfl rfl (.cons (m324.rd (i := 22) rfl) .nil) <| .cons rfl rfl (.cons (m324.rd (i := 27) rfl) .nil) <| .nil) U32 fct4 rfl rfl rfl rfl rfl ?_
    clear Hz Az m324; intro g322 Az w325 Hz m325
    refine hK _ _ (m325.to ⟨il, il, il, trivial⟩) ?_; clear hK K
    have m326 := m325.freezeR 28 rfl; clear m325
    refine stepE_only 15 rfl (by kernel_rfl) rfl (fun K hK => ?_)
    refine e_call Hz Tryd.func32 rfl rfl rfl rfl (pjoin_is (ls := [magicB, encs [bl, sz], encs [fr + 1, to], encs [(its.length : Int)]]) (S := (magicB ++ encs [bl, sz, fr + 1, to, (its.length : Int)])) ((m326.rd (i := 28) rfl).any) (by simp) (by simp only [sumLen, List.flatten_cons, List.flatten_nil, List.length_append, List.length_nil]; have q1 := encs_len [bl, sz]; have q2 := encs_len [fr + 1, to]; have q3 := encs_len [(its.length : Int)]; simp only [List.length_cons, List.length_nil, magicB] at *; omega) (by simp [encs])) ?_
    rintro e w327 ⟨p327, c327, rfl, ho327, hb327⟩
    have m328 := m326.newN 29 hb327 ho327
    clear m326
    clear hb327 ho327
    refine ⟨_, rfl, ?_⟩; clear Hz Az; intro Az Hz
    refine hK _ _ (m328.to ⟨il, il, il, trivial⟩) ?_; clear hK K
    have m330 := m328.freezeN 29 rfl; clear m328
    refine stepE_end 16 rfl (by kernel_rfl) rfl (by rfl) (fun K hK => ?_)
    refine e_call Hz Tryd.func31 rfl rfl rfl rfl (pseal_x _ _ _ (hT.below m330.below h01) (Nat.le_trans h01 m330.below.size) ((m330.rd (i := 29) rfl).any) hHB hHL) ?_
    rintro e w331 ⟨p331, c331, rfl, ho331, hb331⟩
    have m332 := m330.newN 30 hb331 ho331
    clear m330
    clear hb331 ho331
    refine ⟨_, rfl, ?_⟩; clear Hz Az; intro Az Hz
    refine hK _ _ ?_; clear hK
    refine goB hP93 [17] 1 131071 262143 Hz (.assign rfl <| .nil) ?_
    clear Hz Az; intro Az Hz
    refine wpAnyE_done (by kernel_rfl) ?_ _
    show K4 _ _
    exact hC4 _ _ ⟨_, _, _, Hz.only [1, 5], m332.ren [(8, 20), (9, 30)] (by decide)⟩
   have m335 := m315.freezeN 25 rfl; clear m315
   refine e_call Hz Tryd.func33 rfl rfl rfl rfl (pnums_x [(its.length : Int)] _ _ _ ((m335.rd (i := 25) rfl).any) (by simp) (b63 (by intro x hx; simp only [List.mem_cons, List.not_mem_nil, or_false] at hx; omega))) ?_
   rintro e w336 ⟨p336, c336, rfl, ho336, hb336⟩
   have m337 := m335.newN 27 hb336 ho336
   clear m335
   clear hb336 ho336
   refine ⟨_, rfl, ?_⟩; clear Hz Az; intro Az Hz
   refine hK _ _ (fun _ => (m337.to ⟨il, il, il, trivial⟩)) ?_; clear hK K
   refine stepE_only 1 rfl (by kernel_rfl) rfl (fun K hK => ?_)
   refine e_cvN Hz m337 23 rfl rfl U22 U5 rfl ?_
   clear Hz Az m337; intro  Az w339 Hz m339
   refine hK _ _ (m339.to ⟨il, il, il, trivial⟩) ?_; clear hK K
   have m341 := m339.freezeN 26 rfl; clear m339
   have m342 := m341.freezeN 27 rfl; clear m341
   refine stepE_only 14 rfl (by kernel_rfl) rfl (fun K hK => ?_)
   refine e_litR Hz m342 28 (mm := 1) rfl (.cons rfl rfl (.cons (m342.rd (i := 23) rfl) .nil) <| .cons rfl rfl (.cons (m342.rd (i := 26) rfl) .nil) <| .cons rfl rfl (.cons (m342.rd (i := 22) rfl) .nil) <| .cons rfl rfl (.cons (m342.rd (i := 27) rfl) .nil) <| .nil) U32 fct4 rfl rfl rfl rfl rfl ?_
   clear Hz Az m342; intro g340 Az w343 Hz m343
   refine hK _ _ (m343.to ⟨il, il, il, trivial⟩) ?_; clear hK K
   have m344 := m343.freezeR 28 rfl; clear m343
   refine stepE_only 15 rfl (by kernel_rfl) rfl (fun K hK => ?_)
   refine e_call Hz Tryd.func32 rfl rfl rfl rfl (pjoin_is (ls := [magicB, encs [bl, sz], encs [fr + 1, to], encs [(its.length : Int)]]) (S := (magicB ++ encs [bl, sz, fr + 1, to, (its.length : Int)])) ((m344.rd (i := 28) rfl).any) (by simp) (by simp only [sumLen, List.flatten_cons, List.flatten_nil, List.length_append, List.length_nil]; have q1 := encs_len [bl, sz]; have q2 := encs_len [fr + 1, to]; have q3 := encs_len [(its.length : Int)]; simp only [List.length_cons, List.length_nil, magicB] at *; omega) (by simp [encs])) ?_
   rintro e w345 ⟨p345, c345, rfl, ho345, hb345⟩
   have m346 := m344.newN 29 hb345 ho345
   clear m344
   clear hb345 ho345
   refine ⟨_, rfl, ?_⟩; clear Hz Az; intro Az Hz
   refine hK _ _ (m346.to ⟨il, il, il, trivial⟩) ?_; clear hK K
   have m348 := m346.freezeN 29 rfl; clear m346
   refine stepE_end 16 rfl (by kernel_rfl) rfl (by rfl) (fun K hK => ?_)
   refine e_call Hz Tryd.func31 rfl rfl rfl rfl (pseal_x _ _ _ (hT.below m348.below h01) (Nat.le_trans h01 m348.below.size) ((m348.rd (i := 29) rfl).any) hHB hHL) ?_
   rintro e w349 ⟨p349, c349, rfl, ho349, hb349⟩
   have m350 := m348.newN 30 hb349 ho349
   clear m348
   clear hb349 ho349
   refine ⟨_, rfl, ?_⟩; clear Hz Az; intro Az Hz
   refine hK _ _ ?_; clear hK
   refine goB hP93 [17] 1 131071 262143 Hz (.assign rfl <| .nil) ?_
   clear Hz Az; intro Az Hz
   refine wpAnyE_done (by kernel_rfl) ?_ _
   show K4 _ _
   exact hC4 _ _ ⟨_, _, _, Hz.only [1, 5], m350.ren [(8, 20), (9, 30)] (by decide)⟩
  refine e_litN Hz m103 24 (k := .i64) rfl rfl U52 fct26 rfl rfl rfl rfl ?_
  clear Hz Az m103; intro g353 Az w354 Hz m354
  refine hK _ _ (fun _ => (m354.to ⟨il, il, il, trivial⟩)) ?_; clear hK K
  refine d_two 1 6 rfl rfl (by kernel_rfl) rfl rfl (fun K hK => ?_) (fun K hK => ?_)
  ·
   refine e_cvN Hz m354 23 rfl rfl U22 U5 rfl ?_
   clear Hz Az m354; intro  Az w355 Hz m355
   refine hK _ _ (fun _ => (m355.to ⟨il, il, il, trivial⟩)) ?_; clear hK K
   refine stepE_only 6 rfl (by kernel_rfl) rfl (fun K hK => ?_)
   refine e_litN Hz m355 25 (k := .i64) rfl rfl U52 fct26 rfl rfl rfl rfl ?_
   clear Hz Az m355; intro g356 Az w357 Hz m357
   refine hK _ _ (m357.to ⟨il, il, il, trivial⟩) ?_; clear hK K
   have m358 := m357.freezeN 25 rfl; clear m357
   refine stepE_only 7 rfl (by kernel_rfl) rfl (fun K hK => ?_)
   refine e_call Hz Tryd.func33 rfl rfl rfl rfl (pnums_x [bl, sz] _ _ _ ((m358.rd (i := 25) rfl).any) (by simp) (b63 (by intro x hx; simp only [List.mem_cons, List.not_mem_nil, or_false] at hx; omega))) ?_
   rintro e w359 ⟨p359, c359, rfl, ho359, hb359⟩
   have m360 := m358.newN 26 hb359 ho359
   clear m358
   clear hb359 ho359
   refine ⟨_, rfl, ?_⟩; clear Hz Az; intro Az Hz
   refine hK _ _ (m360.to ⟨il, il, il, trivial⟩) ?_; clear hK K
   have m362 := m360.freezeN 24 rfl; clear m360
   refine stepE_only 13 rfl (by kernel_rfl) rfl (fun K hK => ?_)
   refine e_call Hz Tryd.func33 rfl rfl rfl rfl (pnums_x [(its.length : Int)] _ _ _ ((m362.rd (i := 24) rfl).any) (by simp) (b63 (by intro x hx; simp only [List.mem_cons, List.not_mem_nil, or_false] at hx; omega))) ?_
   rintro e w363 ⟨p363, c363, rfl, ho363, hb363⟩
   have m364 := m362.newN 27 hb363 ho363
   clear m362
   clear hb363 ho363
   refine ⟨_, rfl, ?_⟩; clear Hz Az; intro Az Hz
   refine hK _ _ (m364.to ⟨il, il, il, trivial⟩) ?_; clear hK K
   have m367 := m364.freezeN 26 rfl; clear m364
   have m368 := m367.freezeN 27 rfl; clear m367
   refine stepE_only 14 rfl (by kernel_rfl) rfl (fun K hK => ?_)
   refine e_litR Hz m368 28 (mm := 1) rfl (.cons rfl rfl (.cons (m368.rd (i := 23) rfl) .nil) <| .cons rfl rfl (.cons (m368.rd (i := 26) rfl) .nil) <| .cons rfl rfl (.cons (m368.rd (i := 22) rfl) .nil) <| .cons rfl rfl (.cons (m368.rd (i := 27) rfl) .nil) <| .nil) U32 fct4 rfl rfl rfl rfl rfl ?_
   clear Hz Az m368; intro g366 Az w369 Hz m369
   refine hK _ _ (m369.to ⟨il, il, il, trivial⟩) ?_; clear hK K
   have m370 := m369.freezeR 28 rfl; clear m369
   refine stepE_only 15 rfl (by kernel_rfl) rfl (fun K hK => ?_)
   refine e_call Hz Tryd.func32 rfl rfl rfl rfl (pjoin_is (ls := [magicB, encs [bl, sz], encs [fr + 1, to], encs [(its.length : Int)]]) (S := (magicB ++ encs [bl, sz, fr + 1, to, (its.length : Int)])) ((m370.rd (i := 28) rfl).any) (by simp) (by simp only [sumLen, List.flatten_cons, List.flatten_nil, List.length_append, List.length_nil]; have q1 := encs_len [bl, sz]; have q2 := encs_len [fr + 1, to]; have q3 := encs_len [(its.length : Int)]; simp only [List.length_cons, List.length_nil, magicB] at *; omega) (by simp [encs])) ?_
   rintro e w371 ⟨p371, c371, rfl, ho371, hb371⟩
   have m372 := m370.newN 29 hb371 ho371
   clear m370
   clear hb371 ho371
   refine ⟨_, rfl, ?_⟩; clear Hz Az; intro Az Hz
   refine hK _ _ (m372.to ⟨il, il, il, trivial⟩) ?_; clear hK K
   have m374 := m372.freezeN 29 rfl; clear m372
   refine stepE_end 16 rfl (by kernel_rfl) rfl (by rfl) (fun K hK => ?_)
   refine e_call Hz Tryd.func31 rfl rfl rfl rfl (pseal_x _ _ _ (hT.below m374.below h01) (Nat.le_trans h01 m374.below.size) ((m374.rd (i := 29) rfl).any) hHB hHL) ?_
   rintro e w375 ⟨p375, c375, rfl, ho375, hb375⟩
   have m376 := m374.newN 30 hb375 ho375
   clear m374
   clear hb375 ho375
   refine ⟨_, rfl, ?_⟩; clear Hz Az; intro Az Hz
   refine hK _ _ ?_; clear hK
   refine goB hP93 [17] 1 131071 262143 Hz (.assign rfl <| .nil) ?_
   clear Hz Az; intro Az Hz
   refine wpAnyE_done (by kernel_rfl) ?_ _
   show K4 _ _
   exact hC4 _ _ ⟨_, _, _, Hz.only [1, 5], m376.ren [(8, 20), (9, 30)] (by decide)⟩
  refine e_litN Hz m354 25 (k := .i64) rfl rfl U52 fct26 rfl rfl rfl rfl ?_
  clear Hz Az m354; intro g379 Az w380 Hz m380
  refine hK _ _ (fun _ => (m380.to ⟨il, il, il, trivial⟩)) ?_; clear hK K
  refine d_two 1 7 rfl rfl (by kernel_rfl) rfl rfl (fun K hK => ?_) (fun K hK => ?_)
  ·
   refine e_cvN Hz m380 23 rfl rfl U22 U5 rfl ?_
   clear Hz Az m380; intro  Az w381 Hz m381
   refine hK _ _ (fun _ => (m381.to ⟨il, il, il, trivial⟩)) ?_; clear hK K
   have m382 := m381.freezeN 25 rfl; clear m381
   refine stepE_only 7 rfl (by kernel_rfl) rfl (fun K hK => ?_)
   refine e_call Hz Tryd.func33 rfl rfl rfl rfl (pnums_x [bl, sz] _ _ _ ((m382.rd (i := 25) rfl).any) (by simp) (b63 (by intro x hx; simp only [List.mem_cons, List.not_mem_nil, or_false] at hx; omega))) ?_
   rintro e w383 ⟨p383, c383, rfl, ho383, hb383⟩
   have m384 := m382.newN 26 hb383 ho383
   clear m382
   clear hb383 ho383
   refine ⟨_, rfl, ?_⟩; clear Hz Az; intro Az Hz
   refine hK _ _ (m384.to ⟨il, il, il, trivial⟩) ?_; clear hK K
   have m386 := m384.freezeN 24 rfl; clear m384
   refine stepE_only 13 rfl (by kernel_rfl) rfl (fun K hK => ?_)
   refine e_call Hz Tryd.func33 rfl rfl rfl rfl (pnums_x [(its.length : Int)] _ _ _ ((m386.rd (i := 24) rfl).any) (by simp) (b63 (by intro x hx; simp only [List.mem_cons, List.not_mem_nil, or_false] at hx; omega))) ?_
   rintro e w387 ⟨p387, c387, rfl, ho387, hb387⟩
   have m388 := m386.newN 27 hb387 ho387
   clear m386
   clear hb387 ho387
   refine ⟨_, rfl, ?_⟩; clear Hz Az; intro Az Hz
   refine hK _ _ (m388.to ⟨il, il, il, trivial⟩) ?_; clear hK K
   have m391 := m388.freezeN 26 rfl; clear m388
   have m392 := m391.freezeN 27 rfl; clear m391
   refine stepE_only 14 rfl (by kernel_rfl) rfl (fun K hK => ?_)
   refine e_litR Hz m392 28 (mm := 1) rfl (.cons rfl rfl (.cons (m392.rd (i := 23) rfl) .nil) <| .cons rfl rfl (.cons (m392.rd (i := 26) rfl) .nil) <| .cons rfl rfl (.cons (m392.rd (i := 22) rfl) .nil) <| .cons rfl rfl (.cons (m392.rd (i := 27) rfl) .nil) <| .nil) U32 fct4 rfl rfl rfl rfl rfl ?_
   clear Hz Az m392; intro g390 Az w393 Hz m393
   refine hK _ _ (m393.to ⟨il, il, il, trivial⟩) ?_; clear hK K
   have m394 := m393.freezeR 28 rfl; clear m393
   refine stepE_only 15 rfl (by kernel_rfl) rfl (fun K hK => ?_)
   refine e_call Hz Tryd.func32 rfl rfl rfl rfl (pjoin_is (ls := [magicB, encs [bl, sz], encs [fr + 1, to], encs [(its.length : Int)]]) (S := (magicB ++ encs [bl, sz, fr + 1, to, (its.length : Int)])) ((m394.rd (i := 28) rfl).any) (by simp) (by simp only [sumLen, List.flatten_cons, List.flatten_nil, List.length_append, List.length_nil]; have q1 := encs_len [bl, sz]; have q2 := encs_len [fr + 1, to]; have q3 := encs_len [(its.length : Int)]; simp only [List.length_cons, List.length_nil, magicB] at *; omega) (by simp [encs])) ?_
   rintro e w395 ⟨p395, c395, rfl, ho395, hb395⟩
   have m396 := m394.newN 29 hb395 ho395
   clear m394
   clear hb395 ho395
   refine ⟨_, rfl, ?_⟩; clear Hz Az; intro Az Hz
   refine hK _ _ (m396.to ⟨il, il, il, trivial⟩) ?_; clear hK K
   have m398 := m396.freezeN 29 rfl; clear m396
   refine stepE_end 16 rfl (by kernel_rfl) rfl (by rfl) (fun K hK => ?_)
   refine e_call Hz Tryd.func31 rfl rfl rfl rfl (pseal_x _ _ _ (hT.below m398.below h01) (Nat.le_trans h01 m398.below.size) ((m398.rd (i := 29) rfl).any) hHB hHL) ?_
   rintro e w399 ⟨p399, c399, rfl, ho399, hb399⟩
   have m400 := m398.newN 30 hb399 ho399
   clear m398
   clear hb399 ho399
   refine ⟨_, rfl, ?_⟩; clear Hz Az; intro Az Hz
   refine hK _ _ ?_; clear hK
   refine goB hP93 [17] 1 131071 262143 Hz (.assign rfl <| .nil) ?_
   clear Hz Az; intro Az Hz
   refine wpAnyE_done (by kernel_rfl) ?_ _
   show K4 _ _
   exact hC4 _ _ ⟨_, _, _, Hz.only [1, 5], m400.ren [(8, 20), (9, 30)] (by decide)⟩
  have m403 := m380.freezeN 25 rfl; clear m380
  refine e_call Hz Tryd.func33 rfl rfl rfl rfl (pnums_x [bl, sz] _ _ _ ((m403.rd (i := 25) rfl).any) (by simp) (b63 (by intro x hx; simp only [List.mem_cons, List.not_mem_nil, or_false] at hx; omega))) ?_
  rintro e w404 ⟨p404, c404, rfl, ho404, hb404⟩
  have m405 := m403.newN 26 hb404 ho404
  clear m403
  clear hb404 ho404
  refine ⟨_, rfl, ?_⟩; clear Hz Az; intro Az Hz
  refine hK _ _ (fun _ => (m405.to ⟨il, il, il, trivial⟩)) ?_; clear hK K
  refine d_two 1 13 rfl rfl (by kernel_rfl) rfl rfl (fun K hK => ?_) (fun K hK => ?_)
  ·
   refine e_cvN Hz m405 23 rfl rfl U22 U5 rfl ?_
   clear Hz Az m405; intro  Az w407 Hz m407
   refine hK _ _ (fun _ => (m407.to ⟨il, il, il, trivial⟩)) ?_; clear hK K
   have m408 := m407.freezeN 24 rfl; clear m407
   refine stepE_only 13 rfl (by kernel_rfl) rfl (fun K hK => ?_)
   refine e_call Hz Tryd.func33 rfl rfl rfl rfl (pnums_x [(its.length : Int)] _ _ _ ((m408.rd (i := 24) rfl).any) (by simp) (b63 (by intro x hx; simp only [List.mem_cons, List.not_mem_nil, or_false] at hx; omega))) ?_
   rintro e w409 ⟨p409, c409, rfl, ho409, hb409⟩
   have m410 := m408.newN 27 hb409 ho409
   clear m408
   clear hb409 ho409
   refine ⟨_, rfl, ?_⟩; clear Hz Az; intro Az Hz
   refine hK _ _ (m410.to ⟨il, il, il, trivial⟩) ?_; clear hK K
   have m413 := m410.freezeN 26 rfl; clear m410
   have m414 := m413.freezeN 27 rfl; clear m413
   refine stepE_only 14 rfl (by kernel_rfl) rfl (fun K hK => ?_)
   refine e_litR Hz m414 28 (mm := 1) rfl (.cons rfl rfl (.cons (m414.rd (i := 23) rfl) .nil) <| .cons rfl rfl (.cons (m414.rd (i := 26) rfl) .nil) <| .cons rfl rfl (.cons (m414.rd (i := 22) rfl) .nil) <| .cons rfl rfl (.cons (m414.rd (i := 27) rfl) .nil) <| .nil) U32 fct4 rfl rfl rfl rfl rfl ?_
   clear Hz Az m414; intro g412 Az w415 Hz m415
   refine hK _ _ (m415.to ⟨il, il, il, trivial⟩) ?_; clear hK K
   have m416 := m415.freezeR 28 rfl; clear m415
   refine stepE_only 15 rfl (by kernel_rfl) rfl (fun K hK => ?_)
   refine e_call Hz Tryd.func32 rfl rfl rfl rfl (pjoin_is (ls := [magicB, encs [bl, sz], encs [fr + 1, to], encs [(its.length : Int)]]) (S := (magicB ++ encs [bl, sz, fr + 1, to, (its.length : Int)])) ((m416.rd (i := 28) rfl).any) (by simp) (by simp only [sumLen, List.flatten_cons, List.flatten_nil, List.length_append, List.length_nil]; have q1 := encs_len [bl, sz]; have q2 := encs_len [fr + 1, to]; have q3 := encs_len [(its.length : Int)]; simp only [List.length_cons, List.length_nil, magicB] at *; omega) (by simp [encs])) ?_
   rintro e w417 ⟨p417, c417, rfl, ho417, hb417⟩
   have m418 := m416.newN 29 hb417 ho417
   clear m416
   clear hb417 ho417
   refine ⟨_, rfl, ?_⟩; clear Hz Az; intro Az Hz
   refine hK _ _ (m418.to ⟨il, il, il, trivial⟩) ?_; clear hK K
   have m420 := m418.freezeN 29 rfl; clear m418
   refine stepE_end 16 rfl (by kernel_rfl) rfl (by rfl) (fun K hK => ?_)
   refine e_call Hz Tryd.func31 rfl rfl rfl rfl (pseal_x _ _ _ (hT.below m420.below h01) (Nat.le_trans h01 m420.below.size) ((m420.rd (i := 29) rfl).any) hHB hHL) ?_
   rintro e w421 ⟨p421, c421, rfl, ho421, hb421⟩
   have m422 := m420.newN 30 hb421 ho421
   clear m420
   clear hb421 ho421
   refine ⟨_, rfl, ?_⟩; clear Hz Az; intro Az Hz
   refine hK _ _ ?_; clear hK
   refine goB hP93 [17] 1 131071 262143 Hz (.assign rfl <| .nil) ?_
   clear Hz Az; intro Az Hz
   refine wpAnyE_done (by kernel_rfl) ?_ _
   show K4 _ _
   exact hC4 _ _ ⟨_, _, _, Hz.only [1, 5], m422.ren [(8, 20), (9, 30)] (by decide)⟩
  have m425 := m405.freezeN 24 rfl; clear m405
  refine e_call Hz Tryd.func33 rfl rfl rfl rfl (pnums_x [(its.length : Int)] _ _ _ ((m425.rd (i := 24) rfl).any) (by simp) (b63 (by intro x hx; simp only [List.mem_cons, List.not_mem_nil, or_false] at hx; omega))) ?_
  rintro e w426 ⟨p426, c426, rfl, ho426, hb426⟩
  have m427 := m425.newN 27 hb426 ho426
  clear m425
  clear hb426 ho426
  refine ⟨_, rfl, ?_⟩; clear Hz Az; intro Az Hz
  refine hK _ _ (fun _ => (m427.to ⟨il, il, il, trivial⟩)) ?_; clear hK K
  refine stepE_only 1 rfl (by kernel_rfl) rfl (fun K hK => ?_)
  refine e_cvN Hz m427 23 rfl rfl U22 U5 rfl ?_
  clear Hz Az m427; intro  Az w429 Hz m429
  refine hK _ _ (m429.to ⟨il, il, il, trivial⟩) ?_; clear hK K
  have m431 := m429.freezeN 26 rfl; clear m429
  have m432 := m431.freezeN 27 rfl; clear m431
  refine stepE_only 14 rfl (by kernel_rfl) rfl (fun K hK => ?_)
  refine e_litR Hz m432 28 (mm := 1) rfl (.cons rfl rfl (.cons (m432.rd (i := 23) rfl) .nil) <| .cons rfl rfl (.cons (m432.rd (i := 26) rfl) .nil) <| .cons rfl rfl (.cons (m432.rd (i := 22) rfl) .nil) <| .cons rfl rfl (.cons (m432.rd (i := 27) rfl) .nil) <| .nil) U32 fct4 rfl rfl rfl rfl rfl ?_
  clear Hz Az m432; intro g430 Az w433 Hz m433
  refine hK _ _ (m433.to ⟨il, il, il, trivial⟩) ?_; clear hK K
  have m434 := m433.freezeR 28 rfl; clear m433
  refine stepE_only 15 rfl (by kernel_rfl) rfl (fun K hK => ?_)
  refine e_call Hz Tryd.func32 rfl rfl rfl rfl (pjoin_is (ls := [magicB, encs [bl, sz], encs [fr + 1, to], encs [(its.length : Int)]]) (S := (magicB ++ encs [bl, sz, fr + 1, to, (its.length : Int)])) ((m434.rd (i := 28) rfl).any) (by simp) (by simp only [sumLen, List.flatten_cons, List.flatten_nil, List.length_append, List.length_nil]; have q1 := encs_len [bl, sz]; have q2 := encs_len [fr + 1, to]; have q3 := encs_len [(its.length : Int)]; simp only [List.length_cons, List.length_nil, magicB] at *; omega) (by simp [encs])) ?_
  rintro e w435 ⟨p435, c435, rfl, ho435, hb435⟩
  have m436 := m434.newN 29 hb435 ho435
  clear m434
  clear hb435 ho435
  refine ⟨_, rfl, ?_⟩; clear Hz Az; intro Az Hz
  refine hK _ _ (m436.to ⟨il, il, il, trivial⟩) ?_; clear hK K
  have m438 := m436.freezeN 29 rfl; clear m436
  refine stepE_end 16 rfl (by kernel_rfl) rfl (by rfl) (fun K hK => ?_)
  refine e_call Hz Tryd.func31 rfl rfl rfl rfl (pseal_x _ _ _ (hT.below m438.below h01) (Nat.le_trans h01 m438.below.size) ((m438.rd (i := 29) rfl).any) hHB hHL) ?_
  rintro e w439 ⟨p439, c439, rfl, ho439, hb439⟩
  have m440 := m438.newN 30 hb439 ho439
  clear m438
  clear hb439 ho439
  refine ⟨_, rfl, ?_⟩; clear Hz Az; intro Az Hz
  refine hK _ _ ?_; clear hK
  refine goB hP93 [17] 1 131071 262143 Hz (.assign rfl <| .nil) ?_
  clear Hz Az; intro Az Hz
  refine wpAnyE_done (by kernel_rfl) ?_ _
  show K4 _ _
  exact hC4 _ _ ⟨_, _, _, Hz.only [1, 5], m440.ren [(8, 20), (9, 30)] (by decide)⟩
 ·
  refine e_litN Hz m93 23 (k := .i64) rfl rfl U52 fct26 rfl rfl rfl rfl ?_
  clear Hz Az m93; intro g443 Az w444 Hz m444
  refine hK _ _ (fun _ => (m444.to ⟨il, il, il, trivial⟩)) ?_; clear hK K
  refine d_three 0 7 12 rfl rfl rfl (by kernel_rfl) rfl rfl rfl (fun K hK => ?_) (fun K hK => ?_) (fun K hK => ?_)
  ·
   refine e_litN Hz m444 24 (k := .u8) rfl rfl U22 fct0 rfl rfl rfl rfl ?_
   clear Hz Az m444; intro g445 Az w446 Hz m446
   refine hK _ _ (fun _ => (m446.to ⟨il, il, il, trivial⟩)) ?_; clear hK K
   refine d_three 1 7 12 rfl rfl rfl (by kernel_rfl) rfl rfl rfl (fun K hK => ?_) (fun K hK => ?_) (fun K hK => ?_)
   ·
    refine e_cvN Hz m446 24 rfl rfl U22 U5 rfl ?_
    clear Hz Az m446; intro  Az w447 Hz m447
    refine hK _ _ (fun _ => (m447.to ⟨il, il, il, trivial⟩)) ?_; clear hK K
    refine d_two 7 12 rfl rfl (by kernel_rfl) rfl rfl (fun K hK => ?_) (fun K hK => ?_)
    ·
     have m448 := m447.freezeN 23 rfl; clear m447
     refine e_call Hz Tryd.func33 rfl rfl rfl rfl (pnums_x [bl, sz] _ _ _ ((m448.rd (i := 23) rfl).any) (by simp) (b63 (by intro x hx; simp only [List.mem_cons, List.not_mem_nil, or_false] at hx; omega))) ?_
     rintro e w449 ⟨p449, c449, rfl, ho449, hb449⟩
     have m450 := m448.newN 25 hb449 ho449
     clear m448
     clear hb449 ho449
     refine ⟨_, rfl, ?_⟩; clear Hz Az; intro Az Hz
     refine hK _ _ (fun _ => (m450.to ⟨il, il, il, trivial⟩)) ?_; clear hK K
     refine stepE_only 12 rfl (by kernel_rfl) rfl (fun K hK => ?_)
     refine e_litN Hz m450 26 (k := .i64) rfl rfl U52 fct26 rfl rfl rfl rfl ?_
     clear Hz Az m450; intro g452 Az w453 Hz m453
     refine hK _ _ (m453.to ⟨il, il, il, trivial⟩) ?_; clear hK K
     have m454 := m453.freezeN 26 rfl; clear m453
     refine stepE_only 13 rfl (by kernel_rfl) rfl (fun K hK => ?_)
     refine e_call Hz Tryd.func33 rfl rfl rfl rfl (pnums_x [(its.length : Int)] _ _ _ ((m454.rd (i := 26) rfl).any) (by simp) (b63 (by intro x hx; simp only [List.mem_cons, List.not_mem_nil, or_false] at hx; omega))) ?_
     rintro e w455 ⟨p455, c455, rfl, ho455, hb455⟩
     have m456 := m454.newN 27 hb455 ho455
     clear m454
     clear hb455 ho455
     refine ⟨_, rfl, ?_⟩; clear Hz Az; intro Az Hz
     refine hK _ _ (m456.to ⟨il, il, il, trivial⟩) ?_; clear hK K
     have m459 := m456.freezeN 25 rfl; clear m456
     have m460 := m459.freezeN 27 rfl; clear m459
     refine stepE_only 14 rfl (by kernel_rfl) rfl (fun K hK => ?_)
     refine e_litR Hz m460 28 (mm := 1) rfl (.cons rfl rfl (.cons (m460.rd (i := 24) rfl) .nil) <| .cons rfl rfl (.cons (m460.rd (i := 25) rfl) .nil) <| .cons rfl rfl (.cons (m460.rd (i := 22) rfl) .nil) <| .cons rfl rfl (.cons (m460.rd (i := 27) rfl) .nil) <| .nil) U32 fct4 rfl rfl rfl rfl rfl ?_
     clear Hz Az m460; intro g458 Az w461 Hz m461
     refine hK _ _ (m461.to ⟨il, il, il, trivial⟩) ?_; clear hK K
     have m462 := m461.freezeR 28 rfl; clear m461
     refine stepE_only 15 rfl (by kernel_rfl) rfl (fun K hK => ?_)
     refine e_call Hz Tryd.func32 rfl rfl rfl rfl (pjoin_is (ls := [magicB, encs [bl, sz], encs [fr + 1, to], encs [(its.length : Int)]]) (S := (magicB ++ encs [bl, sz, fr + 1, to, (its.length : Int)])) ((m462.rd (i := 28) rfl).any) (by simp) (by simp only [sumLen, List.flatten_cons, List.flatten_nil, List.length_append, List.length_nil]; have q1 := encs_len [bl, sz]; have q2 := encs_len [fr + 1, to]; have q3 := encs_len [(its.length : Int)]; simp only [List.length_cons, List.length_nil, magicB] at *; omega) (by simp [encs])) ?_
     rintro e w463 ⟨p463, c463, rfl, ho463, hb463⟩
     have m464 := m462.newN 29 hb463 ho463
     clear m462
     clear hb463 ho463
     refine ⟨_, rfl, ?_⟩; clear Hz Az; intro Az Hz
     refine hK _ _ (m464.to ⟨il, il, il, trivial⟩) ?_; clear hK K
     have m466 := m464.freezeN 29 rfl; clear m464
     refine stepE_end 16 rfl (by kernel_rfl) rfl (by rfl) (fun K hK => ?_)
     refine e_call Hz Tryd.func31 rfl rfl rfl rfl (pseal_x _ _ _ (hT.below m466.below h01) (Nat.le_trans h01 m466.below.size) ((m466.rd (i := 29) rfl).any) hHB hHL) ?_
     rintro e w467 ⟨p467, c467, rfl, ho467, hb467⟩
     have m468 := m466.newN 30 hb467 ho467
     clear m466
     clear hb467 ho467
     refine ⟨_, rfl, ?_⟩; clear Hz Az; intro Az Hz
     refine hK _ _ ?_; clear hK
     refine goB hP93 [17] 1 131071 262143 Hz (.assign rfl <| .nil) ?_
     clear Hz Az; intro Az Hz
     refine wpAnyE_done (by kernel_rfl) ?_ _
     show K4 _ _
     exact hC4 _ _ ⟨_, _, _, Hz.only [1, 5], m468.ren [(8, 20), (9, 30)] (by decide)⟩
    refine e_litN Hz m447 25 (k := .i64) rfl rfl U52 fct26 rfl rfl rfl rfl ?_
    clear Hz Az m447; intro g471 Az w472 Hz m472
    refine hK _ _ (fun _ => (m472.to ⟨il, il, il, trivial⟩)) ?_; clear hK K
    have m473 := m472.freezeN 23 rfl; clear m472
    refine stepE_only 7 rfl (by kernel_rfl) rfl (fun K hK => ?_)
    refine e_call Hz Tryd.func33 rfl rfl rfl rfl (pnums_x [bl, sz] _ _ _ ((m473.rd (i := 23) rfl).any) (by simp) (b63 (by intro x hx; simp only [List.mem_cons, List.not_mem_nil, or_false] at hx; omega))) ?_
    rintro e w474 ⟨p474, c474, rfl, ho474, hb474⟩
    have m475 := m473.newN 26 hb474 ho474
    clear m473
    clear hb474 ho474
    refine ⟨_, rfl, ?_⟩; clear Hz Az; intro Az Hz
    refine hK _ _ (m475.to ⟨il, il, il, trivial⟩) ?_; clear hK K
    have m477 := m475.freezeN 25 rfl; clear m475
    refine stepE_only 13 rfl (by kernel_rfl) rfl (fun K hK => ?_)
    refine e_call Hz Tryd.func33 rfl rfl rfl rfl (pnums_x [(its.length : Int)] _ _ _ ((m477.rd (i := 25) rfl).any) (by simp) (b63 (by intro x hx; simp only [List.mem_cons, List.not_mem_nil, or_false] at hx; omega))) ?_
    rintro e w478 ⟨p478, c478, rfl, ho478, hb478⟩
    have m479 := m477.newN 27 hb478 ho478
    clear m477
    clear hb478 ho478
    refine ⟨_, rfl, ?_⟩; clear Hz Az; intro Az Hz
    refine hK _ _ (m479.to ⟨il, il, il, trivial⟩) ?_; clear hK K
    have m482 := m479.freezeN 26 rfl; clear m479
    have m483 := m482.freezeN 27 rfl; clear m482
    refine stepE_only 14 rfl (by kernel_rfl) rfl (fun K hK => ?_)
    refine e_litR Hz m483 28 (mm := 1) rfl (.cons rfl rfl (.cons (m483.rd (i := 24) rfl) .nil) <| .cons rfl rfl (.cons (m483.rd (i := 26) rfl) .nil) <| .cons rfl rfl (.cons (m483.rd (i := 22) rfl) .nil) <| .cons rfl rfl (.cons (m483.rd (i := 27) rfl) .nil) <| .nil) U32 fct4 rfl rfl rfl rfl rfl ?_
    clear Hz Az m483; intro g481 Az w484 Hz m484
    refine hK _ _ (m484.to ⟨il, il, il, trivial⟩) ?_; clear hK K
    have m485 := m484.freezeR 28 rfl; clear m484
    refine stepE_only 15 rfl (by kernel_rfl) rfl (fun K hK => ?_)
    refine e_call Hz Tryd.func32 rfl rfl rfl rfl (pjoin_is (ls := [magicB, encs [bl, sz], encs [fr + 1, to], encs [(its.length : Int)]]) (S := (magicB ++ encs [bl, sz, fr + 1, to, (its.length : Int)])) ((m485.rd (i := 28) rfl).any) (by simp) (by simp only [sumLen, List.flatten_cons, List.flatten_nil, List.length_append, List.length_nil]; have q1 := encs_len [bl, sz]; have q2 := encs_len [fr + 1, to]; have q3 := encs_len [(its.length : Int)]; simp only [List.length_cons, List.length_nil, magicB] at *; omega) (by simp [encs])) ?_
    rintro e w486 ⟨p486, c486, rfl, ho486, hb486⟩
    have m487 := m485.newN 29 hb486 ho486
    clear m485
    clear hb486 ho486
    refine ⟨_, rfl, ?_⟩; clear Hz Az; intro Az Hz
    refine hK _ _ (m487.to ⟨il, il, il, trivial⟩) ?_; clear hK K
    have m489 := m487.freezeN 29 rfl; clear m487
    refine stepE_end 16 rfl (by kernel_rfl) rfl (by rfl) (fun K hK => ?_)
    refine e_call Hz Tryd.func31 rfl rfl rfl rfl (pseal_x _ _ _ (hT.below m489.below h01) (Nat.le_trans h01 m489.below.size) ((m489.rd (i := 29) rfl).any) hHB hHL) ?_
    rintro e w490 ⟨p490, c490, rfl, ho490, hb490⟩
    have m491 := m489.newN 30 hb490 ho490
    clear m489
    clear hb490 ho490
    refine ⟨_, rfl, ?_⟩; clear Hz Az; intro Az Hz
    refine hK _ _ ?_; clear hK
    refine goB hP93 [17] 1 131071 262143 Hz (.assign rfl <| .nil) ?_
    clear Hz Az; intro Az Hz
    refine wpAnyE_done (by kernel_rfl) ?_ _
    show K4 _ _
    exact hC4 _ _ ⟨_, _, _, Hz.only [1, 5], m491.ren [(8, 20), (9, 30)] (by decide)⟩
   ·
    have m494 := m446.freezeN 23 rfl; clear m446
    refine e_call Hz Tryd.func33 rfl rfl rfl rfl (pnums_x [bl, sz] _ _ _ ((m494.rd (i := 23) rfl).any) (by simp) (b63 (by intro x hx; simp only [List.mem_cons, List.not_mem_nil, or_false] at hx; omega))) ?_
    rintro e w495 ⟨p495, c495, rfl, ho495, hb495⟩
    have m496 := m494.newN 25 hb495 ho495
    clear m494
    clear hb495 ho495
    refine ⟨_, rfl, ?_⟩; clear Hz Az; intro Az Hz
    refine hK _ _ (fun _ => (m496.to ⟨il, il, il, trivial⟩)) ?_; clear hK K
    refine d_two 1 12 rfl rfl (by kernel_rfl) rfl rfl (fun K hK => ?_) (fun K hK => ?_)
    ·
     refine e_cvN Hz m496 24 rfl rfl U22 U5 rfl ?_
     clear Hz Az m496; intro  Az w498 Hz m498
     refine hK _ _ (fun _ => (m498.to ⟨il, il, il, trivial⟩)) ?_; clear hK K
     refine stepE_only 12 rfl (by kernel_rfl) rfl (fun K hK => ?_)
     refine e_litN Hz m498 26 (k := .i64) rfl rfl U52 fct26 rfl rfl rfl rfl ?_
     clear Hz Az m498; intro g499 Az w500 Hz m500
     refine hK _ _ (m500.to ⟨il, il, il, trivial⟩) ?_; clear hK K
     have m501 := m500.freezeN 26 rfl; clear m500
     refine stepE_only 13 rfl (by kernel_rfl) rfl (fun K hK => ?_)
     refine e_call Hz Tryd.func33 rfl rfl rfl rfl (pnums_x [(its.length : Int)] _ _ _ ((m501.rd (i := 26) rfl).any) (by simp) (b63 (by intro x hx; simp only [List.mem_cons, List.not_mem_nil, or_false] at hx; omega))) ?_
     rintro e w502 ⟨p502, c502, rfl, ho502, hb502⟩
     have m503 := m501.newN 27 hb502 ho502
     clear m501
     clear hb502 ho502
     refine ⟨_, rfl, ?_⟩; clear Hz Az; intro Az Hz
     refine hK _ _ (m503.to ⟨il, il, il, trivial⟩) ?_; clear hK K
     have m506 := m503.freezeN 25 rfl; clear m503
     have m507 := m506.freezeN 27 rfl; clear m506
     refine stepE_only 14 rfl (by kernel_rfl) rfl (fun K hK => ?_)
     refine e_litR Hz m507 28 (mm := 1) rfl (.cons rfl rfl (.cons (m507.rd (i := 24) rfl) .nil) <| .cons rfl rfl (.cons (m507.rd (i := 25) rfl) .nil) <| .cons rfl rfl (.cons (m507.rd (i := 22) rfl) .nil) <| .cons rfl rfl (.cons (m507.rd (i := 27) rfl) .nil) <| .nil) U32 fct4 rfl rfl rfl rfl rfl ?_
     clear Hz Az m507; intro g505 Az w508 Hz m508
     refine hK _ _ (m508.to ⟨il, il, il, trivial⟩) ?_; clear hK K
     have m509 := m508.freezeR 28 rfl; clear m508
     refine stepE_only 15 rfl (by kernel_rfl) rfl (fun K hK => ?_)
     refine e_call Hz Tryd.func32 rfl rfl rfl rfl (pjoin_is (ls := [magicB, encs [bl, sz], encs [fr + 1, to], encs [(its.length : Int)]]) (S := (magicB ++ encs [bl, sz, fr + 1, to, (its.length : Int)])) ((m509.rd (i := 28) rfl).any) (by simp) (by simp only [sumLen, List.flatten_cons, List.flatten_nil, List.length_append, List.length_nil]; have q1 := encs_len [bl, sz]; have q2 := encs_len [fr + 1, to]; have q3 := encs_len [(its.length : Int)]; simp only [List.length_cons, List.length_nil, magicB] at *; omega) (by simp [encs])) ?_
     rintro e w510 ⟨p510, c510, rfl, ho510, hb510⟩
     have m511 := m509.newN 29 hb510 ho510
     clear m509
     clear hb510 ho510
     refine ⟨_, rfl, ?_⟩; clear Hz Az; intro Az Hz
     refine hK _ _ (m511.to ⟨il, il, il, trivial⟩) ?_; clear hK K
     have m513 := m511.freezeN 29 rfl; clear m511
     refine stepE_end 16 rfl (by kernel_rfl) rfl (by rfl) (fun K hK => ?_)
     refine e_call Hz Tryd.func31 rfl rfl rfl rfl (pseal_x _ _ _ (hT.below m513.below h01) (Nat.le_trans h01 m513.below.size) ((m513.rd (i := 29) rfl).any) hHB hHL) ?_
     rintro e w514 ⟨p514, c514, rfl, ho514, hb514⟩
     have m515 := m513.newN 30 hb514 ho514
     clear m513
     clear hb514 ho514
     refine ⟨_, rfl, ?_⟩; clear Hz Az; intro Az Hz
     refine hK _ _ ?_; clear hK
     refine goB hP93 [17] 1 131071 262143 Hz (.assign rfl <| .nil) ?_
     clear Hz Az; intro Az Hz
     refine wpAnyE_done (by kernel_rfl) ?_ _
     show K4 _ _
     exact hC4 _ _ ⟨_, _, _, Hz.only [1, 5], m515.ren [(8, 20), (9, 30)] (by decide)⟩
    refine e_litN Hz m496 26 (k := .i64) rfl rfl U52 fct26 rfl rfl rfl rfl ?_
    clear Hz Az m496; intro g518 Az w519 Hz m519
    refine hK _ _ (fun _ => (m519.to ⟨il, il, il, trivial⟩)) ?_; clear hK K
    refine d_two 1 13 rfl rfl (by kernel_rfl) rfl rfl (fun K hK => ?_) (fun K hK => ?_)
    ·
     refine e_cvN Hz m519 24 rfl rfl U22 U5 rfl ?_
     clear Hz Az m519; intro  Az w520 Hz m520
     refine hK _ _ (fun _ => (m520.to ⟨il, il, il, trivial⟩)) ?_; clear hK K
     have m521 := m520.freezeN 26 rfl; clear m520
     refine stepE_only 13 rfl (by kernel_rfl) rfl (fun K hK => ?_)
     refine e_call Hz Tryd.func33 rfl rfl rfl rfl (pnums_x [(its.length : Int)] _ _ _ ((m521.rd (i := 26) rfl).any) (by simp) (b63 (by intro x hx; simp only [List.mem_cons, List.not_mem_nil, or_false] at hx; omega))) ?_
     rintro e w522 ⟨p522, c522, rfl, ho522, hb522⟩
     have m523 := m521.newN 27 hb522 ho522
     clear m521
     clear hb522 ho522
     refine ⟨_, rfl, ?_⟩; clear Hz Az; intro Az Hz
     refine hK _ _ (m523.to ⟨il, il, il, trivial⟩) ?_; clear hK K
     have m526 := m523.freezeN 25 rfl; clear m523
     have m527 := m526.freezeN 27 rfl; clear m526
     refine stepE_only 14 rfl (by kernel_rfl) rfl (fun K hK => ?_)
     refine e_litR Hz m527 28 (mm := 1) rfl (.cons rfl rfl (.cons (m527.rd (i := 24) rfl) .nil) <| .cons rfl rfl (.cons (m527.rd (i := 25) rfl) .nil) <| .cons rfl rfl (.cons (m527.rd (i := 22) rfl) .nil) <| .cons rfl rfl (.cons (m527.rd (i := 27) rfl) .nil) <| .nil) U32 fct4 rfl rfl rfl rfl rfl ?_
     clear Hz Az m527; intro g525 Az w528 Hz m528
     refine hK _ _ (m528.to ⟨il, il, il, trivial⟩) ?_; clear hK K
     have m529 := m528.freezeR 28 rfl; clear m528
     refine stepE_only 15 rfl (by kernel_rfl) rfl (fun K hK => ?_)
     refine e_call Hz Tryd.func32 rfl rfl rfl rfl (pjoin_is (ls := [magicB, encs [bl, sz], encs [fr + 1, to], encs [(its.length : Int)]]) (S := (magicB ++ encs [bl, sz, fr + 1, to, (its.length : Int)])) ((m529.rd (i := 28) rfl).any) (by simp) (by simp only [sumLen, List.flatten_cons, List.flatten_nil, List.length_append, List.length_nil]; have q1 := encs_len [bl, sz]; have q2 := encs_len [fr + 1, to]; have q3 := encs_len [(its.length : Int)]; simp only [List.length_cons, List.length_nil, magicB] at *; omega) (by simp [encs])) ?_
     rintro e w530 ⟨p530, c530, rfl, ho530, hb530⟩
     have m531 := m529.newN 29 hb530 ho530
     clear m529
     clear hb530 ho530
     refine ⟨_, rfl, ?_⟩; clear Hz Az; intro Az Hz
     refine hK _ _ (m531.to ⟨il, il, il, trivial⟩) ?_; clear hK K
     have m533 := m531.freezeN 29 rfl; clear m531
     refine stepE_end 16 rfl (by kernel_rfl) rfl (by rfl) (fun K hK => ?_)
     refine e_call Hz Tryd.func31 rfl rfl rfl rfl (pseal_x _ _ _ (hT.below m533.below h01) (Nat.le_trans h01 m533.below.size) ((m533.rd (i := 29) rfl).any) hHB hHL) ?_
     rintro e w534 ⟨p534, c534, rfl, ho534, hb534⟩
     have m535 := m533.newN 30 hb534 ho534
     clear m533
     clear hb534 ho534
     refine ⟨_, rfl, ?_⟩; clear Hz Az; intro Az Hz
     refine hK _ _ ?_; clear hK
     refine goB hP93 [17] 1 131071 262143 Hz (.assign rfl <| .nil) ?_
     clear Hz Az; intro Az Hz
     refine wpAnyE_done (by kernel_rfl) ?_ _
     show K4 _ _
     exact hC4 _ _ ⟨_, _, _, Hz.only [1, 5], m535.ren [(8, 20), (9, 30)] (by decide)⟩
    have m538 := m519.freezeN 26 rfl; clear m519
    refine e_call Hz Tryd.func33 rfl rfl rfl rfl (pnums_x [(its.length : Int)] _ _ _ ((m538.rd (i := 26) rfl).any) (by simp) (b63 (by intro x hx; simp only [List.mem_cons, List.not_mem_nil, or_false] at hx; omega))) ?_
    rintro e w539 ⟨p539, c539, rfl, ho539, hb539⟩
    have m540 := m538.newN 27 hb539 ho539
    clear m538
    clear hb539 ho539
    refine ⟨_, rfl, ?_⟩; clear Hz Az; intro Az Hz
    refine hK _ _ (fun _ => (m540.to ⟨il, il, il, trivial⟩)) ?_; clear hK K
    refine stepE_only 1 rfl (by kernel_rfl) rfl (fun K hK => ?_)
    refine e_cvN Hz m540 24 rfl rfl U22 U5 rfl ?_
    clear Hz Az m540; intro  Az w542 Hz m542
    refine hK _ _ (m542.to ⟨il, il, il, trivial⟩) ?_; clear hK K
    have m544 := m542.freezeN 25 rfl; clear m542
    have m545 := m544.freezeN 27 rfl; clear m544
    refine stepE_only 14 rfl (by kernel_rfl) rfl (fun K hK => ?_)
    refine e_litR Hz m545 28 (mm := 1) rfl (.cons rfl rfl (.cons (m545.rd (i := 24) rfl) .nil) <| .cons rfl rfl (.cons (m545.rd (i := 25) rfl) .nil) <| .cons rfl rfl (.cons (m545.rd (i := 22) rfl) .nil) <| .cons rfl rfl (.cons (m545.rd (i := 27) rfl) .nil) <| .nil) U32 fct4 rfl rfl rfl rfl rfl ?_
    clear Hz Az m545; intro g543 Az w546 Hz m546
    refine hK _ _ (m546.to ⟨il, il, il, trivial⟩) ?_; clear hK K
    have m547 := m546.freezeR 28 rfl; clear m546
    refine stepE_only 15 rfl (by kernel_rfl) rfl (fun K hK => ?_)
    refine e_call Hz Tryd.func32 rfl rfl rfl rfl (pjoin_is (ls := [magicB, encs [bl, sz], encs [fr + 1, to], encs [(its.length : Int)]]) (S := (magicB ++ encs [bl, sz, fr + 1, to, (its.length : Int)])) ((m547.rd (i := 28) rfl).any) (by simp) (by simp only [sumLen, List.flatten_cons, List.flatten_nil, List.length_append, List.length_nil]; have q1 := encs_len [bl, sz]; have q2 := encs_len [fr + 1, to]; have q3 := encs_len [(its.length : Int)]; simp only [List.length_cons, List.length_nil, magicB] at *; omega) (by simp [encs])) ?_
    rintro e w548 ⟨p548, c548, rfl, ho548, hb548⟩
    have m549 := m547.newN 29 hb548 ho548
    clear m547
    clear hb548 ho548
    refine ⟨_, rfl, ?_⟩; clear Hz Az; intro Az Hz
    refine hK _ _ (m549.to ⟨il, il, il, trivial⟩) ?_; clear hK K
    have m551 := m549.freezeN 29 rfl; clear m549
    refine stepE_end 16 rfl (by kernel_rfl) rfl (by rfl) (fun K hK => ?_)
    refine e_call Hz Tryd.func31 rfl rfl rfl rfl (pseal_x _ _ _ (hT.below m551.below h01) (Nat.le_trans h01 m551.below.size) ((m551.rd (i := 29) rfl).any) hHB hHL) ?_
    rintro e w552 ⟨p552, c552, rfl, ho552, hb552⟩
    have m553 := m551.newN 30 hb552 ho552
    clear m551
    clear hb552 ho552
    refine ⟨_, rfl, ?_⟩; clear Hz Az; intro Az Hz
    refine hK _ _ ?_; clear hK
    refine goB hP93 [17] 1 131071 262143 Hz (.assign rfl <| .nil) ?_
    clear Hz Az; intro Az Hz
    refine wpAnyE_done (by kernel_rfl) ?_ _
    show K4 _ _
    exact hC4 _ _ ⟨_, _, _, Hz.only [1, 5], m553.ren [(8, 20), (9, 30)] (by decide)⟩
   refine e_litN Hz m446 25 (k := .i64) rfl rfl U52 fct26 rfl rfl rfl rfl ?_
   clear Hz Az m446; intro g556 Az w557 Hz m557
   refine hK _ _ (fun _ => (m557.to ⟨il, il, il, trivial⟩)) ?_; clear hK K
   refine d_two 1 7 rfl rfl (by kernel_rfl) rfl rfl (fun K hK => ?_) (fun K hK => ?_)
   ·
    refine e_cvN Hz m557 24 rfl rfl U22 U5 rfl ?_
    clear Hz Az m557; intro  Az w558 Hz m558
    refine hK _ _ (fun _ => (m558.to ⟨il, il, il, trivial⟩)) ?_; clear hK K
    have m559 := m558.freezeN 23 rfl; clear m558
    refine stepE_only 7 rfl (by kernel_rfl) rfl (fun K hK => ?_)
    refine e_call Hz Tryd.func33 rfl rfl rfl rfl (pnums_x [bl, sz] _ _ _ ((m559.rd (i := 23) rfl).any) (by simp) (b63 (by intro x hx; simp only [List.mem_cons, List.not_mem_nil, or_false] at hx; omega))) ?_
    rintro e w560 ⟨p560, c560, rfl, ho560, hb560⟩
    have m561 := m559.newN 26 hb560 ho560
    clear m559
    clear hb560 ho560
    refine ⟨_, rfl, ?_⟩; clear Hz Az; intro Az Hz
    refine hK _ _ (m561.to ⟨il, il, il, trivial⟩) ?_; clear hK K
    have m563 := m561.freezeN 25 rfl; clear m561
    refine stepE_only 13 rfl (by kernel_rfl) rfl (fun K hK => ?_)
    refine e_call Hz Tryd.func33 rfl rfl rfl rfl (pnums_x [(its.length : Int)] _ _ _ ((m563.rd (i := 25) rfl).any) (by simp) (b63 (by intro x hx; simp only [List.mem_cons, List.not_mem_nil, or_false] at hx; omega))) ?_
    rintro e w564 ⟨p564, c564, rfl, ho564, hb564⟩
    have m565 := m563.newN 27 hb564 ho564
    clear m563
    clear hb564 ho564
    refine ⟨_, rfl, ?_⟩; clear Hz Az; intro Az Hz
    refine hK _ _ (m565.to ⟨il, il, il, trivial⟩) ?_; clear hK K
    have m568 := m565.freezeN 26 rfl; clear m565
    have m569 := m568.freezeN 27 rfl; clear m568
    refine stepE_only 14 rfl (by kernel_rfl) rfl (fun K hK => ?_)
    refine e_litR Hz m569 28 (mm := 1) rfl (.cons rfl rfl (.cons (m569.rd (i := 24) rfl) .nil) <| .cons rfl rfl (.cons (m569.rd (i := 26) rfl) .nil) <| .cons rfl rfl (.cons (m569.rd (i := 22) rfl) .nil) <| .cons rfl rfl (.cons (m569.rd (i := 27) rfl) .nil) <| .nil) U32 fct4 rfl rfl rfl rfl rfl ?_
    clear Hz Az m569; intro g567 Az w570 Hz m570
    refine hK _ _ (m570.to ⟨il, il, il, trivial⟩) ?_; clear hK K
    have m571 := m570.freezeR 28 rfl; clear m570
    refine stepE_only 15 rfl (by kernel_rfl) rfl (fun K hK => ?_)
    refine e_call Hz Tryd.func32 rfl rfl rfl rfl (pjoin_is (ls := [magicB, encs [bl, sz], encs [fr + 1, to], encs [(its.length : Int)]]) (S := (magicB ++ encs [bl, sz, fr + 1, to, (its.length : Int)])) ((m571.rd (i := 28) rfl).any) (by simp) (by simp only [sumLen, List.flatten_cons, List.flatten_nil, List.length_append, List.length_nil]; have q1 := encs_len [bl, sz]; have q2 := encs_len [fr + 1, to]; have q3 := encs_len [(its.length : Int)]; simp only [List.length_cons, List.length_nil, magicB] at *; omega) (by simp [encs])) ?_
    rintro e w572 ⟨p572, c572, rfl, ho572, hb572⟩
    have m573 := m571.newN 29 hb572 ho572
    clear m571
    clear hb572 ho572
    refine ⟨_, rfl, ?_⟩; clear Hz Az; intro Az Hz
    refine hK _ _ (m573.to ⟨il, il, il, trivial⟩) ?_; clear hK K
    have m575 := m573.freezeN 29 rfl; clear m573
    refine stepE_end 16 rfl (by kernel_rfl) rfl (by rfl) (fun K hK => ?_)
    refine e_call Hz Tryd.func31 rfl rfl rfl rfl (pseal_x _ _ _ (hT.below m575.below h01) (Nat.le_trans h01 m575.below.size) ((m575.rd (i := 29) rfl).any) hHB hHL) ?_
    rintro e w576 ⟨p576, c576, rfl, ho576, hb576⟩
    have m577 := m575.newN 30 hb576 ho576
    clear m575
    clear hb576 ho576
    refine ⟨_, rfl, ?_⟩; clear Hz Az; intro Az Hz
    refine hK _ _ ?_; clear hK
    refine goB hP93 [17] 1 131071 262143 Hz (.assign rfl <| .nil) ?_
    clear Hz Az; intro Az Hz
    refine wpAnyE_done (by kernel_rfl) ?_ _
    show K4 _ _
    exact hC4 _ _ ⟨_, _, _, Hz.only [1, 5], m577.ren [(8, 20), (9, 30)] (by decide)⟩
   have m580 := m557.freezeN 23 rfl; clear m557
   refine e_call Hz Tryd.func33 rfl rfl rfl rfl (pnums_x [bl, sz] _ _ _ ((m580.rd (i := 23) rfl).any) (by simp) (b63 (by intro x hx; simp only [List.mem_cons, List.not_mem_nil, or_false] at hx; omega))) ?_
   rintro e w581 ⟨p581, c581, rfl, ho581, hb581⟩
   have m582 := m580.newN 26 hb581 ho581
   clear m580
   clear hb581 ho581
   refine ⟨_, rfl, ?_⟩; clear Hz Az; intro Az Hz
   refine hK _ _ (fun _ => (m582.to ⟨il, il, il, trivial⟩)) ?_; clear hK K
   refine d_two 1 13 rfl rfl (by kernel_rfl) rfl rfl (fun K hK => ?_) (fun K hK => ?_)
   ·
    refine e_cvN Hz m582 24 rfl rfl U22 U5 rfl ?_
    clear Hz Az m582; intro  Az w584 Hz m584
    refine hK _ _ (fun _ => (m584.to ⟨il, il, il, trivial⟩)) ?_; clear hK K
    have m585 := m584.freezeN 25 rfl; clear m584
    refine stepE_only 13 rfl (by kernel_rfl) rfl (fun K hK => ?_)
    refine e_call Hz Tryd.func33 rfl rfl rfl rfl (pnums_x [(its.length : Int)] _ _ _ ((m585.rd (i := 25) rfl).any) (by simp) (b63 (by intro x hx; simp only [List.mem_cons, List.not_mem_nil, or_false] at hx; omega))) ?_
    rintro e w586 ⟨p586, c586, rfl, ho586, hb586⟩
    have m587 := m585.newN 27 hb586 ho586
    clear m585
    clear hb586 ho586
    refine ⟨_, rfl, ?_⟩; clear Hz Az; intro Az Hz
    refine hK _ _ (m587.to ⟨il, il, il, trivial⟩) ?_; clear hK K
    have m590 := m587.freezeN 26 rfl; clear m587
    have m591 := m590.freezeN 27 rfl; clear m590
    refine stepE_only 14 rfl (by kernel_rfl) rfl (fun K hK => ?_)
    refine e_litR Hz m591 28 (mm := 1) rfl (.cons rfl rfl (.cons (m591.rd (i := 24) rfl) .nil) <| .cons rfl rfl (.cons (m591.rd (i := 26) rfl) .nil) <| .cons rfl rfl (.cons (m591.rd (i := 22) rfl) .nil) <| .cons rfl rfl (.cons (m591.rd (i := 27) rfl) .nil) <| .nil) U32 fct4 rfl rfl rfl rfl rfl ?_
    clear Hz Az m591; intro g589 Az w592 Hz m592
    refine hK _ _ (m592.to ⟨il, il, il, trivial⟩) ?_; clear hK K
    have m593 := m592.freezeR 28 rfl; clear m592
    refine stepE_only 15 rfl (by kernel_rfl) rfl (fun K hK => ?_)
    refine e_call Hz Tryd.func32 rfl rfl rfl rfl (pjoin_is (ls := [magicB, encs [bl, sz], encs [fr + 1, to], encs [(its.length : Int)]]) (S := (magicB ++ encs [bl, sz, fr + 1, to, (its.length : Int)])) ((m593.rd (i := 28) rfl).any) (by simp) (by simp only [sumLen, List.flatten_cons, List.flatten_nil, List.length_append, List.length_nil]; have q1 := encs_len [bl, sz]; have q2 := encs_len [fr + 1, to]; have q3 := encs_len [(its.length : Int)]; simp only [List.length_cons, List.length_nil, magicB] at *; omega) (by simp [encs])) ?_
    rintro e w594 ⟨p594, c594, rfl, ho594, hb594⟩
    have m595 := m593.newN 29 hb594 ho594
    clear m593
    clear hb594 ho594
    refine ⟨_, rfl, ?_⟩; clear Hz Az; intro Az Hz
    refine hK _ _ (m595.to ⟨il, il, il, trivial⟩) ?_; clear hK K
    have m597 := m595.freezeN 29 rfl; clear m595
    refine stepE_end 16 rfl (by kernel_rfl) rfl (by rfl) (fun K hK => ?_)
    refine e_call Hz Tryd.func31 rfl rfl rfl rfl (pseal_x _ _ _ (hT.below m597.below h01) (Nat.le_trans h01 m597.below.size) ((m597.rd (i := 29) rfl).any) hHB hHL) ?_
    rintro e w598 ⟨p598, c598, rfl, ho598, hb598⟩
    have m599 := m597.newN 30 hb598 ho598
    clear m597
    clear hb598 ho598
    refine ⟨_, rfl, ?_⟩; clear Hz Az; intro Az Hz
    refine hK _ _ ?_; clear hK
    refine goB hP93 [17] 1 131071 262143 Hz (.assign rfl <| .nil) ?_
    clear Hz Az; intro Az Hz
    refine wpAnyE_done (by kernel_rfl) ?_ _
    show K4 _ _
    exact hC4 _ _ ⟨_, _, _, Hz.only [1, 5], m599.ren [(8, 20), (9, 30)] (by decide)⟩
   have m602 := m582.freezeN 25 rfl; clear m582
   refine e_call Hz Tryd.func33 rfl rfl rfl rfl (pnums_x [(its.length : Int)] _ _ _ ((m602.rd (i := 25) rfl).any) (by simp) (b63 (by intro x hx; simp only [List.mem_cons, List.not_mem_nil, or_false] at hx; omega))) ?_
   rintro e w603 ⟨p603, c603, rfl, ho603, hb603⟩
   have m604 := m602.newN 27 hb603 ho603
   clear m602
   clear hb603 ho603
   refine ⟨_, rfl, ?_⟩; clear Hz Az; intro Az Hz
   refine hK _ _ (fun _ => (m604.to ⟨il, il, il, trivial⟩)) ?_; clear hK K
   refine stepE_only 1 rfl (by kernel_rfl) rfl (fun K hK => ?_)
   refine e_cvN Hz m604 24 rfl rfl U22 U5 rfl ?_
   clear Hz Az m604; intro  Az w606 Hz m606
   refine hK _ _ (m606.to ⟨il, il, il, trivial⟩) ?_; clear hK K
   have m608 := m606.freezeN 26 rfl; clear m606
   have m609 := m608.freezeN 27 rfl; clear m608
   refine stepE_only 14 rfl (by kernel_rfl) rfl (fun K hK => ?_)
   refine e_litR Hz m609 28 (mm := 1) rfl (.cons rfl rfl (.cons (m609.rd (i := 24) rfl) .nil) <| .cons rfl rfl (.cons (m609.rd (i := 26) rfl) .nil) <| .cons rfl rfl (.cons (m609.rd (i := 22) rfl) .nil) <| .cons rfl rfl (.cons (m609.rd (i := 27) rfl) .nil) <| .nil) U32 fct4 rfl rfl rfl rfl rfl ?_
   clear Hz Az m609; intro g607 Az w610 Hz m610
   refine hK _ _ (m610.to ⟨il, il, il, trivial⟩) ?_; clear hK K
   have m611 := m610.freezeR 28 rfl; clear m610
   refine stepE_only 15 rfl (by kernel_rfl) rfl (fun K hK => ?_)
   refine e_call Hz Tryd.func32 rfl rfl rfl rfl (pjoin_is (ls := [magicB, encs [bl, sz], encs [fr + 1, to], encs [(its.length : Int)]]) (S := (magicB ++ encs [bl, sz, fr + 1, to, (its.length : Int)])) ((m611.rd (i := 28) rfl).any) (by simp) (by simp only [sumLen, List.flatten_cons, List.flatten_nil, List.length_append, List.length_nil]; have q1 := encs_len [bl, sz]; have q2 := encs_len [fr + 1, to]; have q3 := encs_len [(its.length : Int)]; simp only [List.length_cons, List.length_nil, magicB] at *; omega) (by simp [encs])) ?_
   rintro e w612 ⟨p612, c612, rfl, ho612, hb612⟩
   have m613 := m611.newN 29 hb612 ho612
   clear m611
   clear hb612 ho612
   refine ⟨_, rfl, ?_⟩; clear Hz Az; intro Az Hz
   refine hK _ _ (m613.to ⟨il, il, il, trivial⟩) ?_; clear hK K
   have m615 := m613.freezeN 29 rfl; clear m613
   refine stepE_end 16 rfl (by kernel_rfl) rfl (by rfl) (fun K hK => ?_)
   refine e_call Hz Tryd.func31 rfl rfl rfl rfl (pseal_x _ _ _ (hT.below m615.below h01) (Nat.le_trans h01 m615.below.size) ((m615.rd (i := 29) rfl).any) hHB hHL) ?_
   rintro e w616 ⟨p616, c616, rfl, ho616, hb616⟩
   have m617 := m615.newN 30 hb616 ho616
   clear m615
   clear hb616 ho616
   refine ⟨_, rfl, ?_⟩; clear Hz Az; intro Az Hz
   refine hK _ _ ?_; clear hK
   refine goB hP93 [17] 1 131071 262143 Hz (.assign rfl <| .nil) ?_
   clear Hz Az; intro Az Hz
   refine wpAnyE_done (by kernel_rfl) ?_ _
   show K4 _ _
   exact hC4 _ _ ⟨_, _, _, Hz.only [1, 5], m617.ren [(8, 20), (9, 30)] (by decide)⟩
  ·
   have m620 := m444.freezeN 23 rfl; clear m444
   refine e_call Hz Tryd.func33 rfl rfl rfl rfl (pnums_x [bl, sz] _ _ _ ((m620.rd (i := 23) rfl).any) (by simp) (b63 (by intro x hx; simp only [List.mem_cons, List.not_mem_nil, or_false] at hx; omega))) ?_
   rintro e w621 ⟨p621, c621, rfl, ho621, hb621⟩
   have m622 := m620.newN 24 hb621 ho621
   clear m620
   clear hb621 ho621
   refine ⟨_, rfl, ?_⟩; clear Hz Az; intro Az Hz
   refine hK _ _ (fun _ => (m622.to ⟨il, il, il, trivial⟩)) ?_; clear hK K
   refine d_two 0 12 rfl rfl (by kernel_rfl) rfl rfl (fun K hK => ?_) (fun K hK => ?_)
   ·
    refine e_litN Hz m622 25 (k := .u8) rfl rfl U22 fct0 rfl rfl rfl rfl ?_
    clear Hz Az m622; intro g624 Az w625 Hz m625
    refine hK _ _ (fun _ => (m625.to ⟨il, il, il, trivial⟩)) ?_; clear hK K
    refine d_two 1 12 rfl rfl (by kernel_rfl) rfl rfl (fun K hK => ?_) (fun K hK => ?_)
    ·
     refine e_cvN Hz m625 25 rfl rfl U22 U5 rfl ?_
     clear Hz Az m625; intro  Az w626 Hz m626
     refine hK _ _ (fun _ => (m626.to ⟨il, il, il, trivial⟩)) ?_; clear hK K
     refine stepE_only 12 rfl (by kernel_rfl) rfl (fun K hK => ?_)
     refine e_litN Hz m626 26 (k := .i64) rfl rfl U52 fct26 rfl rfl rfl rfl ?_
     clear Hz Az m626; intro g627 Az w628 Hz m628
     refine hK _ _ (m628.to ⟨il, il, il, trivial⟩) ?_; clear hK K
     have m629 := m628.freezeN 26 rfl; clear m628
     refine stepE_only 13 rfl (by kernel_rfl) rfl (fun K hK => ?_)
     refine e_call Hz Tryd.func33 rfl rfl rfl rfl (pnums_x [(its.length : Int)] _ _ _ ((m629.rd (i := 26) rfl).any) (by simp) (b63 (by intro x hx; simp only [List.mem_cons, List.not_mem_nil, or_false] at hx; omega))) ?_
     rintro e w630 ⟨p630, c630, rfl, ho630, hb630⟩
     have m631 := m629.newN 27 hb630 ho630
     clear m629
     clear hb630 ho630
     refine ⟨_, rfl, ?_⟩; clear Hz Az; intro Az Hz
     refine hK _ _ (m631.to ⟨il, il, il, trivial⟩) ?_; clear hK K
     have m634 := m631.freezeN 24 rfl; clear m631
     have m635 := m634.freezeN 27 rfl; clear m634
     refine stepE_only 14 rfl (by kernel_rfl) rfl (fun K hK => ?_)
     refine e_litR Hz m635 28 (mm := 1) rfl (.cons rfl rfl (.cons (m635.rd (i := 25) rfl) .nil) <| .cons rfl rfl (.cons (m635.rd (i := 24) rfl) .nil) <| .cons rfl rfl (.cons (m635.rd (i := 22) rfl) .nil) <| .cons rfl rfl (.cons (m635.rd (i := 27) rfl) .nil) <| .nil) U32 fct4 rfl rfl rfl rfl rfl ?_
     clear Hz Az m635; intro g633 Az w636 Hz m636
     refine hK _ _ (m636.to ⟨il, il, il, trivial⟩) ?_; clear hK K
     have m637 := m636.freezeR 28 rfl; clear m636
     refine stepE_only 15 rfl (by kernel_rfl) rfl (fun K hK => ?_)
     refine e_call Hz Tryd.func32 rfl rfl rfl rfl (pjoin_is (ls := [magicB, encs [bl, sz], encs [fr + 1, to], encs [(its.length : Int)]]) (S := (magicB ++ encs [bl, sz, fr + 1, to, (its.length : Int)])) ((m637.rd (i := 28) rfl).any) (by simp) (by simp only [sumLen, List.flatten_cons, List.flatten_nil, List.length_append, List.length_nil]; have q1 := encs_len [bl, sz]; have q2 := encs_len [fr + 1, to]; have q3 := encs_len [(its.length : Int)]; simp only [List.length_cons, List.length_nil, magicB] at *; omega) (by simp [encs])) ?_
     rintro e w638 ⟨p638, c638, rfl, ho638, hb638⟩
     have m639 := m637.newN 29 hb638 ho638
     clear m637
     clear hb638 ho638
     refine ⟨_, rfl, ?_⟩; clear Hz Az; intro Az Hz
     refine hK _ _ (m639.to ⟨il, il, il, trivial⟩) ?_; clear hK K
     have m641 := m639.freezeN 29 rfl; clear m639
     refine stepE_end 16 rfl (by kernel_rfl) rfl (by rfl) (fun K hK => ?_)
     refine e_call Hz Tryd.func31 rfl rfl rfl rfl (pseal_x _ _ _ (hT.below m641.below h01) (Nat.le_trans h01 m641.below.size) ((m641.rd (i := 29) rfl).any) hHB hHL) ?_
     rintro e w642 ⟨p642, c642, rfl, ho642, hb642⟩
     have m643 := m641.newN 30 hb642 ho642
     clear m641
     clear hb642 ho642
     refine ⟨_, rfl, ?_⟩; clear Hz Az; intro Az Hz
     refine hK _ _ ?_; clear hK
     refine goB hP93 [17] 1 131071 262143 Hz (.assign rfl <| .nil) ?_
     clear Hz Az; intro Az Hz
     refine wpAnyE_done (by kernel_rfl) ?_ _
     show K4 _ _
     exact hC4 _ _ ⟨_, _, _, Hz.only [1, 5], m643.ren [(8, 20), (9, 30)] (by decide)⟩
    refine e_litN Hz m625 26 (k := .i64) rfl rfl U52 fct26 rfl rfl rfl rfl ?_
    clear Hz Az m625; intro g646 Az w647 Hz m647
    refine hK _ _ (fun _ => (m647.to ⟨il, il, il, trivial⟩)) ?_; clear hK K
    refine d_two 1 13 rfl rfl (by kernel_rfl) rfl rfl (fun K hK => ?_) (fun K hK => ?_)
    ·
     refine e_cvN Hz m647 25 rfl rfl U22 U5 rfl ?_
     clear Hz Az m647; intro  Az w648 Hz m648
     refine hK _ _ (fun _ => (m648.to ⟨il, il, il, trivial⟩)) ?_; clear hK K
     have m649 := m648.freezeN 26 rfl; clear m648
     refine stepE_only 13 rfl (by kernel_rfl) rfl (fun K hK => ?_)
     refine e_call Hz Tryd.func33 rfl rfl rfl rfl (pnums_x [(its.length : Int)] _ _ _ ((m649.rd (i := 26) rfl).any) (by simp) (b63 (by intro x hx; simp only [List.mem_cons, List.not_mem_nil, or_false] at hx; omega))) ?_
     rintro e w650 ⟨p650, c650, rfl, ho650, hb650⟩
     have m651 := m649.newN 27 hb650 ho650
     clear m649
     clear hb650 ho650
     refine ⟨_, rfl, ?_⟩; clear Hz Az; intro Az Hz
     refine hK _ _ (m651.to ⟨il, il, il, trivial⟩) ?_; clear hK K
     have m654 := m651.freezeN 24 rfl; clear m651
     have m655 := m654.freezeN 27 rfl; clear m654
     refine stepE_only 14 rfl (by kernel_rfl) rfl (fun K hK => ?_)
     refine e_litR Hz m655 28 (mm := 1) rfl (.cons rfl rfl (.cons (m655.rd (i := 25) rfl) .nil) <| .cons rfl rfl (.cons (m655.rd (i := 24) rfl) .nil) <| .cons rfl rfl (.cons (m655.rd (i := 22) rfl) .nil) <| .cons rfl rfl (.cons (m655.rd (i := 27) rfl) .nil) <| .nil) U32 fct4 rfl rfl rfl rfl rfl ?_
     clear Hz Az m655; intro g653 Az w656 Hz m656
     refine hK _ _ (m656.to ⟨il, il, il, trivial⟩) ?_; clear hK K
     have m657 := m656.freezeR 28 rfl; clear m656
     refine stepE_only 15 rfl (by kernel_rfl) rfl (fun K hK => ?_)
     refine e_call Hz Tryd.func32 rfl rfl rfl rfl (pjoin_is (ls := [magicB, encs [bl, sz], encs [fr + 1, to], encs [(its.length : Int)]]) (S := (magicB ++ encs [bl, sz, fr + 1, to, (its.length : Int)])) ((m657.rd (i := 28) rfl).any) (by simp) (by simp only [sumLen, List.flatten_cons, List.flatten_nil, List.length_append, List.length_nil]; have q1 := encs_len [bl, sz]; have q2 := encs_len [fr + 1, to]; have q3 := encs_len [(its.length : Int)]; simp only [List.length_cons, List.length_nil, magicB] at *; omega) (by simp [encs])) ?_
     rintro e w658 ⟨p658, c658, rfl, ho658, hb658⟩
     have m659 := m657.newN 29 hb658 ho658
     clear m657
     clear hb658 ho658
     refine ⟨_, rfl, ?_⟩; clear Hz Az; intro Az Hz
     refine hK _ _ (m659.to ⟨il, il, il, trivial⟩) ?_; clear hK K
     have m661 := m659.freezeN 29 rfl; clear m659
     refine stepE_end 16 rfl (by kernel_rfl) rfl (by rfl) (fun K hK => ?_)
     refine e_call Hz Tryd.func31 rfl rfl rfl rfl (pseal_x _ _ _ (hT.below m661.below h01) (Nat.le_trans h01 m661.below.size) ((m661.rd (i := 29) rfl).any) hHB hHL) ?_
     rintro e w662 ⟨p662, c662, rfl, ho662, hb662⟩
     have m663 := m661.newN 30 hb662 ho662
     clear m661
     clear hb662 ho662
     refine ⟨_, rfl, ?_⟩; clear Hz Az; intro Az Hz
     refine hK _ _ ?_; clear hK
     refine goB hP93 [17] 1 131071 262143 Hz (.assign rfl <| .nil) ?_
     clear Hz Az; intro Az Hz
     refine wpAnyE_done (by kernel_rfl) ?_ _
     show K4 _ _
     exact hC4 _ _ ⟨_, _, _, Hz.only [1, 5], m663.ren [(8, 20), (9, 30)] (by decide)⟩
    have m666 := m647.freezeN 26 rfl; clear m647
    refine e_call Hz Tryd.func33 rfl rfl rfl rfl (pnums_x [(its.length : Int)] _ _ _ ((m666.rd (i := 26) rfl).any) (by simp) (b63 (by intro x hx; simp only [List.mem_cons, List.not_mem_nil, or_false] at hx; omega))) ?_
    rintro e w667 ⟨p667, c667, rfl, ho667, hb667⟩
    have m668 := m666.newN 27 hb667 ho667
    clear m666
    clear hb667 ho667
    refine ⟨_, rfl, ?_⟩; clear Hz Az; intro Az Hz
    refine hK _ _ (fun _ => (m668.to ⟨il, il, il, trivial⟩)) ?_; clear hK K
    refine stepE_only 1 rfl (by kernel_rfl) rfl (fun K hK => ?_)
    refine e_cvN Hz m668 25 rfl rfl U22 U5 rfl ?_
    clear Hz Az m668; intro  Az w670 Hz m670
    refine hK _ _ (m670.to ⟨il, il, il, trivial⟩) ?_; clear hK K
    have m672 := m670.freezeN 24 rfl; clear m670
    have m673 := m672.freezeN 27 rfl; clear m672
    refine stepE_only 14 rfl (by kernel_rfl) rfl (fun K hK => ?_)
    refine e_litR Hz m673 28 (mm := 1) rfl (.cons rfl rfl (.cons (m673.rd (i := 25) rfl) .nil) <| .cons rfl rfl (.cons (m673.rd (i := 24) rfl) .nil) <| .cons rfl rfl (.cons (m673.rd (i := 22) rfl) .nil) <| .cons rfl rfl (.cons (m673.rd (i := 27) rfl) .nil) <| .nil) U32 fct4 rfl rfl rfl rfl rfl ?_
    clear Hz Az m673; intro g671 Az w674 Hz m674
    refine hK _ _ (m674.to ⟨il, il, il, trivial⟩) ?_; clear hK K
    have m675 := m674.freezeR 28 rfl; clear m674
    refine stepE_only 15 rfl (by kernel_rfl) rfl (fun K hK => ?_)
    refine e_call Hz Tryd.func32 rfl rfl rfl rfl (pjoin_is (ls := [magicB, encs [bl, sz], encs [fr + 1, to], encs [(its.length : Int)]]) (S := (magicB ++ encs [bl, sz, fr + 1, to, (its.length : Int)])) ((m675.rd (i := 28) rfl).any) (by simp) (by simp only [sumLen, List.flatten_cons, List.flatten_nil, List.length_append, List.length_nil]; have q1 := encs_len [bl, sz]; have q2 := encs_len [fr + 1, to]; have q3 := encs_len [(its.length : Int)]; simp only [List.length_cons, List.length_nil, magicB] at *; omega) (by simp [encs])) ?_
    rintro e w676 ⟨p676, c676, rfl, ho676, hb676⟩
    have m677 := m675.newN 29 hb676 ho676
    clear m675
    clear hb676 ho676
    refine ⟨_, rfl, ?_⟩; clear Hz Az; intro Az Hz
    refine hK _ _ (m677.to ⟨il, il, il, trivial⟩) ?_; clear hK K
    have m679 := m677.freezeN 29 rfl; clear m677
    refine stepE_end 16 rfl (by kernel_rfl) rfl (by rfl) (fun K hK => ?_)
    refine e_call Hz Tryd.func31 rfl rfl rfl rfl (pseal_x _ _ _ (hT.below m679.below h01) (Nat.le_trans h01 m679.below.size) ((m679.rd (i := 29) rfl).any) hHB hHL) ?_
    rintro e w680 ⟨p680, c680, rfl, ho680, hb680⟩
    have m681 := m679.newN 30 hb680 ho680
    clear m679
    clear hb680 ho680
    refine ⟨_, rfl, ?_⟩; clear Hz Az; intro Az Hz
    refine hK _ _ ?_; clear hK
    refine goB hP93 [17] 1 131071 262143 Hz (.assign rfl <| .nil) ?_
    clear Hz Az; intro Az Hz
    refine wpAnyE_done (by kernel_rfl) ?_ _
    show K4 _ _
    exact hC4 _ _ ⟨_, _, _, Hz.only [1, 5], m681.ren [(8, 20), (9, 30)] (by decide)⟩
   refine e_litN Hz m622 25 (k := .i64) rfl rfl U52 fct26 rfl rfl rfl rfl ?_
   clear Hz Az m622; intro g684 Az w685 Hz m685
   refine hK _ _ (fun _ => (m685.to ⟨il, il, il, trivial⟩)) ?_; clear hK K
   refine d_two 0 13 rfl rfl (by kernel_rfl) rfl rfl (fun K hK => ?_) (fun K hK => ?_)
   ·
    refine e_litN Hz m685 26 (k := .u8) rfl rfl U22 fct0 rfl rfl rfl rfl ?_
    clear Hz Az m685; intro g686 Az w687 Hz m687
    refine hK _ _ (fun _ => (m687.to ⟨il, il, il, trivial⟩)) ?_; clear hK K
    refine d_two 1 13 rfl rfl (by kernel_rfl) rfl rfl (fun K hK => ?_) (fun K hK => ?_)
    ·
     refine e_cvN Hz m687 26 rfl rfl U22 U5 rfl ?_
     clear Hz Az m687; intro  Az w688 Hz m688
     refine hK _ _ (fun _ => (m688.to ⟨il, il, il, trivial⟩)) ?_; clear hK K
     have m689 := m688.freezeN 25 rfl; clear m688
     refine stepE_only 13 rfl (by kernel_rfl) rfl (fun K hK => ?_)
     refine e_call Hz Tryd.func33 rfl rfl rfl rfl (pnums_x [(its.length : Int)] _ _ _ ((m689.rd (i := 25) rfl).any) (by simp) (b63 (by intro x hx; simp only [List.mem_cons, List.not_mem_nil, or_false] at hx; omega))) ?_
     rintro e w690 ⟨p690, c690, rfl, ho690, hb690⟩
     have m691 := m689.newN 27 hb690 ho690
     clear m689
     clear hb690 ho690
     refine ⟨_, rfl, ?_⟩; clear Hz Az; intro Az Hz
     refine hK _ _ (m691.to ⟨il, il, il, trivial⟩) ?_; clear hK K
     have m694 := m691.freezeN 24 rfl; clear m691
     have m695 := m694.freezeN 27 rfl; clear m694
     refine stepE_only 14 rfl (by kernel_rfl) rfl (fun K hK => ?_)
     refine e_litR Hz m695 28 (mm := 1) rfl (.cons rfl rfl (.cons (m695.rd (i := 26) rfl) .nil) <| .cons rfl rfl (.cons (m695.rd (i := 24) rfl) .nil) <| .cons rfl rfl (.cons (m695.rd (i := 22) rfl) .nil) <| .cons rfl rfl (.cons (m695.rd (i := 27) rfl) .nil) <| .nil) U32 fct4 rfl rfl rfl rfl rfl ?_
     clear Hz Az m695; intro g693 Az w696 Hz m696
     refine hK _ _ (m696.to ⟨il, il, il, trivial⟩) ?_; clear hK K
     have m697 := m696.freezeR 28 rfl; clear m696
     refine stepE_only 15 rfl (by kernel_rfl) rfl (fun K hK => ?_)
     refine e_call Hz Tryd.func32 rfl rfl rfl rfl (pjoin_is (ls := [magicB, encs [bl, sz], encs [fr + 1, to], encs [(its.length : Int)]]) (S := (magicB ++ encs [bl, sz, fr + 1, to, (its.length : Int)])) ((m697.rd (i := 28) rfl).any) (by simp) (by simp only [sumLen, List.flatten_cons, List.flatten_nil, List.length_append, List.length_nil]; have q1 := encs_len [bl, sz]; have q2 := encs_len [fr + 1, to]; have q3 := encs_len [(its.length : Int)]; simp only [List.length_cons, List.length_nil, magicB] at *; omega) (by simp [encs])) ?_
     rintro e w698 ⟨p698, c698, rfl, ho698, hb698⟩
     have m699 := m697.newN 29 hb698 ho698
     clear m697
     clear hb698 ho698
     refine ⟨_, rfl, ?_⟩; clear Hz Az; intro Az Hz
     refine hK _ _ (m699.to ⟨il, il, il, trivial⟩) ?_; clear hK K
     have m701 := m699.freezeN 29 rfl; clear m699
     refine stepE_end 16 rfl (by kernel_rfl) rfl (by rfl) (fun K hK => ?_)
     refine e_call Hz Tryd.func31 rfl rfl rfl rfl (pseal_x _ _ _ (hT.below m701.below h01) (Nat.le_trans h01 m701.below.size) ((m701.rd (i := 29) rfl).any) hHB hHL) ?_
     rintro e w702 ⟨p702, c702, rfl, ho702, hb702⟩
     have m703 := m701.newN 30 hb702 ho702
     clear m701
     clear hb702 ho702
     refine ⟨_, rfl, ?_⟩; clear Hz Az; intro Az Hz
     refine hK _ _ ?_; clear hK
     refine goB hP93 [17] 1 131071 262143 Hz (.assign rfl <| .nil) ?_
     clear Hz Az; intro Az Hz
     refine wpAnyE_done (by kernel_rfl) ?_ _
     show K4 _ _
     exact hC4 _ _ ⟨_, _, _, Hz.only [1, 5], m703.ren [(8, 20), (9, 30)] (by decide)⟩
    have m706 := m687.freezeN 25 rfl; clear m687
    refine e_call Hz Tryd.func33 rfl rfl rfl rfl (pnums_x [(its.length : Int)] _ _ _ ((m706.rd (i := 25) rfl).any) (by simp) (b63 (by intro x hx; simp only [List.mem_cons, List.not_mem_nil, or_false] at hx; omega))) ?_
    rintro e w707 ⟨p707, c707, rfl, ho707, hb707⟩
    have m708 := m706.newN 27 hb707 ho707
    clear m706
    clear hb707 ho707
    refine ⟨_, rfl, ?_⟩; clear Hz Az; intro Az Hz
    refine hK _ _ (fun _ => (m708.to ⟨il, il, il, trivial⟩)) ?_; clear hK K
    refine stepE_only 1 rfl (by kernel_rfl) rfl (fun K hK => ?_)
    refine e_cvN Hz m708 26 rfl rfl U22 U5 rfl ?_
    clear Hz Az m708; intro  Az w710 Hz m710
    refine hK _ _ (m710.to ⟨il, il, il, trivial⟩) ?_; clear hK K
    have m712 := m710.freezeN 24 rfl; clear m710
    have m713 := m712.freezeN 27 rfl; clear m712
    refine stepE_only 14 rfl (by kernel_rfl) rfl (fun K hK => ?_)
    refine e_litR Hz m713 28 (mm := 1) rfl (.cons rfl rfl (.cons (m713.rd (i := 26) rfl) .nil) <| .cons rfl rfl (.cons (m713.rd (i := 24) rfl) .nil) <| .cons rfl rfl (.cons (m713.rd (i := 22) rfl) .nil) <| .cons rfl rfl (.cons (m713.rd (i := 27) rfl) .nil) <| .nil) U32 fct4 rfl rfl rfl rfl rfl ?_
    clear Hz Az m713; intro g711 Az w714 Hz m714
    refine hK _ _ (m714.to ⟨il, il, il, trivial⟩) ?_; clear hK K
    have m715 := m714.freezeR 28 rfl; clear m714
    refine stepE_only 15 rfl (by kernel_rfl) rfl (fun K hK => ?_)
    refine e_call Hz Tryd.func32 rfl rfl rfl rfl (pjoin_is (ls := [magicB, encs [bl, sz], encs [fr + 1, to], encs [(its.length : Int)]]) (S := (magicB ++ encs [bl, sz, fr + 1, to, (its.length : Int)])) ((m715.rd (i := 28) rfl).any) (by simp) (by simp only [sumLen, List.flatten_cons, List.flatten_nil, List.length_append, List.length_nil]; have q1 := encs_len [bl, sz]; have q2 := encs_len [fr + 1, to]; have q3 := encs_len [(its.length : Int)]; simp only [List.length_cons, List.length_nil, magicB] at *; omega) (by simp [encs])) ?_
    rintro e w716 ⟨p716, c716, rfl, ho716, hb716⟩
    have m717 := m715.newN 29 hb716 ho716
    clear m715
    clear hb716 ho716
    refine ⟨_, rfl, ?_⟩; clear Hz Az; intro Az Hz
    refine hK _ _ (m717.to ⟨il, il, il, trivial⟩) ?_; clear hK K
    have m719 := m717.freezeN 29 rfl; clear m717
    refine stepE_end 16 rfl (by kernel_rfl) rfl (by rfl) (fun K hK => ?_)
    refine e_call Hz Tryd.func31 rfl rfl rfl rfl (pseal_x _ _ _ (hT.below m719.below h01) (Nat.le_trans h01 m719.below.size) ((m719.rd (i := 29) rfl).any) hHB hHL) ?_
    rintro e w720 ⟨p720, c720, rfl, ho720, hb720⟩
    have m721 := m719.newN 30 hb720 ho720
    clear m719
    clear hb720 ho720
    refine ⟨_, rfl, ?_⟩; clear Hz Az; intro Az Hz
    refine hK _ _ ?_; clear hK
    refine goB hP93 [17] 1 131071 262143 Hz (.assign rfl <| .nil) ?_
    clear Hz Az; intro Az Hz
    refine wpAnyE_done (by kernel_rfl) ?_ _
    show K4 _ _
    exact hC4 _ _ ⟨_, _, _, Hz.only [1, 5], m721.ren [(8, 20), (9, 30)] (by decide)⟩
   have m724 := m685.freezeN 25 rfl; clear m685
   refine e_call Hz Tryd.func33 rfl rfl rfl rfl (pnums_x [(its.length : Int)] _ _ _ ((m724.rd (i := 25) rfl).any) (by simp) (b63 (by intro x hx; simp only [List.mem_cons, List.not_mem_nil, or_false] at hx; omega))) ?_
   rintro e w725 ⟨p725, c725, rfl, ho725, hb725⟩
   have m726 := m724.newN 26 hb725 ho725
   clear m724
   clear hb725 ho725
   refine ⟨_, rfl, ?_⟩; clear Hz Az; intro Az Hz
   refine hK _ _ (fun _ => (m726.to ⟨il, il, il, trivial⟩)) ?_; clear hK K
   refine stepE_only 0 rfl (by kernel_rfl) rfl (fun K hK => ?_)
   refine e_litN Hz m726 27 (k := .u8) rfl rfl U22 fct0 rfl rfl rfl rfl ?_
   clear Hz Az m726; intro g728 Az w729 Hz m729
   refine hK _ _ (m729.to ⟨il, il, il, trivial⟩) ?_; clear hK K
   refine stepE_only 1 rfl (by kernel_rfl) rfl (fun K hK => ?_)
   refine e_cvN Hz m729 27 rfl rfl U22 U5 rfl ?_
   clear Hz Az m729; intro  Az w730 Hz m730
   refine hK _ _ (m730.to ⟨il, il, il, trivial⟩) ?_; clear hK K
   have m732 := m730.freezeN 24 rfl; clear m730
   have m733 := m732.freezeN 26 rfl; clear m732
   refine stepE_only 14 rfl (by kernel_rfl) rfl (fun K hK => ?_)
   refine e_litR Hz m733 28 (mm := 1) rfl (.cons rfl rfl (.cons (m733.rd (i := 27) rfl) .nil) <| .cons rfl rfl (.cons (m733.rd (i := 24) rfl) .nil) <| .cons rfl rfl (.cons (m733.rd (i := 22) rfl) .nil) <| .cons rfl rfl (.cons (m733.rd (i := 26) rfl) .nil) <| .nil) U32 fct4 rfl rfl rfl rfl rfl ?_
   clear Hz Az m733; intro g731 Az w734 Hz m734
   refine hK _ _ (m734.to ⟨il, il, il, trivial⟩) ?_; clear hK K
   have m735 := m734.freezeR 28 rfl; clear m734
   refine stepE_only 15 rfl (by kernel_rfl) rfl (fun K hK => ?_)
   refine e_call Hz Tryd.func32 rfl rfl rfl rfl (pjoin_is (ls := [magicB, encs [bl, sz], encs [fr + 1, to], encs [(its.length : Int)]]) (S := (magicB ++ encs [bl, sz, fr + 1, to, (its.length : Int)])) ((m735.rd (i := 28) rfl).any) (by simp) (by simp only [sumLen, List.flatten_cons, List.flatten_nil, List.length_append, List.length_nil]; have q1 := encs_len [bl, sz]; have q2 := encs_len [fr + 1, to]; have q3 := encs_len [(its.length : Int)]; simp only [List.length_cons, List.length_nil, magicB] at *; omega) (by simp [encs])) ?_
   rintro e w736 ⟨p736, c736, rfl, ho736, hb736⟩
   have m737 := m735.newN 29 hb736 ho736
   clear m735
   clear hb736 ho736
   refine ⟨_, rfl, ?_⟩; clear Hz Az; intro Az Hz
   refine hK _ _ (m737.to ⟨il, il, il, trivial⟩) ?_; clear hK K
   have m739 := m737.freezeN 29 rfl; clear m737
   refine stepE_end 16 rfl (by kernel_rfl) rfl (by rfl) (fun K hK => ?_)
   refine e_call Hz Tryd.func31 rfl rfl rfl rfl (pseal_x _ _ _ (hT.below m739.below h01) (Nat.le_trans h01 m739.below.size) ((m739.rd (i := 29) rfl).any) hHB hHL) ?_
   rintro e w740 ⟨p740, c740, rfl, ho740, hb740⟩
   have m741 := m739.newN 30 hb740 ho740
   clear m739
   clear hb740 ho740
   refine ⟨_, rfl, ?_⟩; clear Hz Az; intro Az Hz
   refine hK _ _ ?_; clear hK
   refine goB hP93 [17] 1 131071 262143 Hz (.assign rfl <| .nil) ?_
   clear Hz Az; intro Az Hz
   refine wpAnyE_done (by kernel_rfl) ?_ _
   show K4 _ _
   exact hC4 _ _ ⟨_, _, _, Hz.only [1, 5], m741.ren [(8, 20), (9, 30)] (by decide)⟩
  refine e_litN Hz m444 24 (k := .i64) rfl rfl U52 fct26 rfl rfl rfl rfl ?_
  clear Hz Az m444; intro g744 Az w745 Hz m745
  refine hK _ _ (fun _ => (m745.to ⟨il, il, il, trivial⟩)) ?_; clear hK K
  refine d_two 0 7 rfl rfl (by kernel_rfl) rfl rfl (fun K hK => ?_) (fun K hK => ?_)
  ·
   refine e_litN Hz m745 25 (k := .u8) rfl rfl U22 fct0 rfl rfl rfl rfl ?_
   clear Hz Az m745; intro g746 Az w747 Hz m747
   refine hK _ _ (fun _ => (m747.to ⟨il, il, il, trivial⟩)) ?_; clear hK K
   refine d_two 1 7 rfl rfl (by kernel_rfl) rfl rfl (fun K hK => ?_) (fun K hK => ?_)
   ·
    refine e_cvN Hz m747 25 rfl rfl U22 U5 rfl ?_
    clear Hz Az m747; intro  Az w748 Hz m748
    refine hK _ _ (fun _ => (m748.to ⟨il, il, il, trivial⟩)) ?_; clear hK K
    have m749 := m748.freezeN 23 rfl; clear m748
    refine stepE_only 7 rfl (by kernel_rfl) rfl (fun K hK => ?_)
    refine e_call Hz Tryd.func33 rfl rfl rfl rfl (pnums_x [bl, sz] _ _ _ ((m749.rd (i := 23) rfl).any) (by simp) (b63 (by intro x hx; simp only [List.mem_cons, List.not_mem_nil, or_false] at hx; omega))) ?_
    rintro e w750 ⟨p750, c750, rfl, ho750, hb750⟩
    have m751 := m749.newN 26 hb750 ho750
    clear m749
    clear hb750 ho750
    refine ⟨_, rfl, ?_⟩; clear Hz Az; intro Az Hz
    refine hK _ _ (m751.to ⟨il, il, il, trivial⟩) ?_; clear hK K
    have m753 := m751.freezeN 24 rfl; clear m751
    refine stepE_only 13 rfl (by kernel_rfl) rfl (fun K hK => ?_)
    refine e_call Hz Tryd.func33 rfl rfl rfl rfl (pnums_x [(its.length : Int)] _ _ _ ((m753.rd (i := 24) rfl).any) (by simp) (b63 (by intro x hx; simp only [List.mem_cons, List.not_mem_nil, or_false] at hx; omega))) ?_
    rintro e w754 ⟨p754, c754, rfl, ho754, hb754⟩
    have m755 := m753.newN 27 hb754 ho754
    clear m753
    clear hb754 ho754
    refine ⟨_, rfl, ?_⟩; clear Hz Az; intro Az Hz
    refine hK _ _ (m755.to ⟨il, il, il, trivial⟩) ?_; clear hK K
    have m758 := m755.freezeN 26 rfl; clear m755
    have m759 := m758.freezeN 27 rfl; clear m758
    refine stepE_only 14 rfl (by kernel_rfl) rfl (fun K hK => ?_)
    refine e_litR Hz m759 28 (mm := 1) rfl (.cons rfl rfl (.cons (m759.rd (i := 25) rfl) .nil) <| .cons rfl rfl (.cons (m759.rd (i := 26) rfl) .nil) <| .cons rfl rfl (.cons (m759.rd (i := 22) rfl) .nil) <| .cons rfl rfl (.cons (m759.rd (i := 27) rfl) .nil) <| .nil) U32 fct4 rfl rfl rfl rfl rfl ?_
    clear Hz Az m759; intro g757 Az w760 Hz m760
    refine hK _ _ (m760.to ⟨il, il, il, trivial⟩) ?_; clear hK K
    have m761 := m760.freezeR 28 rfl; clear m760
    refine stepE_only 15 rfl (by kernel_rfl) rfl (fun K hK => ?_)
    refine e_call Hz Tryd.func32 rfl rfl rfl rfl (pjoin_is (ls := [magicB, encs [bl, sz], encs [fr + 1, to], encs [(its.length : Int)]]) (S := (magicB ++ encs [bl, sz, fr + 1, to, (its.length : Int)])) ((m761.rd (i := 28) rfl).any) (by simp) (by simp only [sumLen, List.flatten_cons, List.flatten_nil, List.length_append, List.length_nil]; have q1 := encs_len [bl, sz]; have q2 := encs_len [fr + 1, to]; have q3 := encs_len [(its.length : Int)]; simp only [List.length_cons, List.length_nil, magicB] at *; omega) (by simp [encs])) ?_
    rintro e w762 ⟨p762, c762, rfl, ho762, hb762⟩
    have m763 := m761.newN 29 hb762 ho762
    clear m761
    clear hb762 ho762
    refine ⟨_, rfl, ?_⟩; clear Hz Az; intro Az Hz
    refine hK _ _ (m763.to ⟨il, il, il, trivial⟩) ?_; clear hK K
    have m765 := m763.freezeN 29 rfl; clear m763
    refine stepE_end 16 rfl (by kernel_rfl) rfl (by rfl) (fun K hK => ?_)
    refine e_call Hz Tryd.func31 rfl rfl rfl rfl (pseal_x _ _ _ (hT.below m765.below h01) (Nat.le_trans h01 m765.below.size) ((m765.rd (i := 29) rfl).any) hHB hHL) ?_
    rintro e w766 ⟨p766, c766, rfl, ho766, hb766⟩
    have m767 := m765.newN 30 hb766 ho766
    clear m765
    clear hb766 ho766
    refine ⟨_, rfl, ?_⟩; clear Hz Az; intro Az Hz
    refine hK _ _ ?_; clear hK
    refine goB hP93 [17] 1 131071 262143 Hz (.assign rfl <| .nil) ?_
    clear Hz Az; intro Az Hz
    refine wpAnyE_done (by kernel_rfl) ?_ _
    show K4 _ _
    exact hC4 _ _ ⟨_, _, _, Hz.only [1, 5], m767.ren [(8, 20), (9, 30)] (by decide)⟩
   have m770 := m747.freezeN 23 rfl; clear m747
   refine e_call Hz Tryd.func33 rfl rfl rfl rfl (pnums_x [bl, sz] _ _ _ ((m770.rd (i := 23) rfl).any) (by simp) (b63 (by intro x hx; simp only [List.mem_cons, List.not_mem_nil, or_false] at hx; omega))) ?_
   rintro e w771 ⟨p771, c771, rfl, ho771, hb771⟩
   have m772 := m770.newN 26 hb771 ho771
   clear m770
   clear hb771 ho771
   refine ⟨_, rfl, ?_⟩; clear Hz Az; intro Az Hz
   refine hK _ _ (fun _ => (m772.to ⟨il, il, il, trivial⟩)) ?_; clear hK K
   refine d_two 1 13 rfl rfl (by kernel_rfl) rfl rfl (fun K hK => ?_) (fun K hK => ?_)
   ·
    refine e_cvN Hz m772 25 rfl rfl U22 U5 rfl ?_
    clear Hz Az m772; intro  Az w774 Hz m774
    refine hK _ _ (fun _ => (m774.to ⟨il, il, il, trivial⟩)) ?_; clear hK K
    have m775 := m774.freezeN 24 rfl; clear m774
    refine stepE_only 13 rfl (by kernel_rfl) rfl (fun K hK => ?_)
    refine e_call Hz Tryd.func33 rfl rfl rfl rfl (pnums_x [(its.length : Int)] _ _ _ ((m775.rd (i := 24) rfl).any) (by simp) (b63 (by intro x hx; simp only [List.mem_cons, List.not_mem_nil, or_false] at hx; omega))) ?_
    rintro e w776 ⟨p776, c776, rfl, ho776, hb776⟩
    have m777 := m775.newN 27 hb776 ho776
    clear m775
    clear hb776 ho776
    refine ⟨_, rfl, ?_⟩; clear Hz Az; intro Az Hz
    refine hK _ _ (m777.to ⟨il, il, il, trivial⟩) ?_; clear hK K
    have m780 := m777.freezeN 26 rfl; clear m777
    have m781 := m780.freezeN 27 rfl; clear m780
    refine stepE_only 14 rfl (by kernel_rfl) rfl (fun K hK => ?_)
    refine e_litR Hz m781 28 (mm := 1) rfl (.cons rfl rfl (.cons (m781.rd (i := 25) rfl) .nil) <| .cons rfl rfl (.cons (m781.rd (i := 26) rfl) .nil) <| .cons rfl rfl (.cons (m781.rd (i := 22) rfl) .nil) <| .cons rfl rfl (.cons (m781.rd (i := 27) rfl) .nil) <| .nil) U32 fct4 rfl rfl rfl rfl rfl ?_
    clear Hz Az m781; intro g779 Az w782 Hz m782
    refine hK _ _ (m782.to ⟨il, il, il, trivial⟩) ?_; clear hK K
    have m783 := m782.freezeR 28 rfl; clear m782
    refine stepE_only 15 rfl (by kernel_rfl) rfl (fun K hK => ?_)
    refine e_call Hz Tryd.func32 rfl rfl rfl rfl (pjoin_is (ls := [magicB, encs [bl, sz], encs [fr + 1, to], encs [(its.length : Int)]]) (S := (magicB ++ encs [bl, sz, fr + 1, to, (its.length : Int)])) ((m783.rd (i := 28) rfl).any) (by simp) (by simp only [sumLen, List.flatten_cons, List.flatten_nil, List.length_append, List.length_nil]; have q1 := encs_len [bl, sz]; have q2 := encs_len [fr + 1, to]; have q3 := encs_len [(its.length : Int)]; simp only [List.length_cons, List.length_nil, magicB] at *; omega) (by simp [encs])) ?_
    rintro e w784 ⟨p784, c784, rfl, ho784, hb784⟩
    have m785 := m783.newN 29 hb784 ho784
    clear m783
    clear hb784 ho784
    refine ⟨_, rfl, ?_⟩; clear Hz Az; intro Az Hz
    refine hK _ _ (m785.to ⟨il, il, il, trivial⟩) ?_; clear hK K
    have m787 := m785.freezeN 29 rfl; clear m785
    refine stepE_end 16 rfl (by kernel_rfl) rfl (by rfl) (fun K hK => ?_)
    refine e_call Hz Tryd.func31 rfl rfl rfl rfl (pseal_x _ _ _ (hT.below m787.below h01) (Nat.le_trans h01 m787.below.size) ((m787.rd (i := 29) rfl).any) hHB hHL) ?_
    rintro e w788 ⟨p788, c788, rfl, ho788, hb788⟩
    have m789 := m787.newN 30 hb788 ho788
    clear m787
    clear hb788 ho788
    refine ⟨_, rfl, ?_⟩; clear Hz Az; intro Az Hz
    refine hK _ _ ?_; clear hK
    refine goB hP93 [17] 1 131071 262143 Hz (.assign rfl <| .nil) ?_
    clear Hz Az; intro Az Hz
    refine wpAnyE_done (by kernel_rfl) ?_ _
    show K4 _ _
    exact hC4 _ _ ⟨_, _, _, Hz.only [1, 5], m789.ren [(8, 20), (9, 30)] (by decide)⟩
   have m792 := m772.freezeN 24 rfl; clear m772
   refine e_call Hz Tryd.func33 rfl rfl rfl rfl (pnums_x [(its.length : Int)] _ _ _ ((m792.rd (i := 24) rfl).any) (by simp) (b63 (by intro x hx; simp only [List.mem_cons, List.not_mem_nil, or_false] at hx; omega))) ?_
   rintro e w793 ⟨p793, c793, rfl, ho793, hb793⟩
   have m794 := m792.newN 27 hb793 ho793
   clear m792
   clear hb793 ho793
   refine ⟨_, rfl, ?_⟩; clear Hz Az; intro Az Hz
   refine hK _ _ (fun _ => (m794.to ⟨il, il, il, trivial⟩)) ?_; clear hK K
   refine stepE_only 1 rfl (by kernel_rfl) rfl (fun K hK => ?_)
   refine e_cvN Hz m794 25 rfl rfl U22 U5 rfl ?_
   clear Hz Az m794; intro  Az w796 Hz m796
   refine hK _ _ (m796.to ⟨il, il, il, trivial⟩) ?_; clear hK K
   have m798 := m796.freezeN 26 rfl; clear m796
   have m799 := m798.freezeN 27 rfl; clear m798
   refine stepE_only 14 rfl (by kernel_rfl) rfl (fun K hK => ?_)
   refine e_litR Hz m799 28 (mm := 1) rfl (.cons rfl rfl (.cons (m799.rd (i := 25) rfl) .nil) <| .cons rfl rfl (.cons (m799.rd (i := 26) rfl) .nil) <| .cons rfl rfl (.cons (m799.rd (i := 22) rfl) .nil) <| .cons rfl rfl (.cons (m799.rd (i := 27) rfl) .nil) <| .nil) U32 fct4 rfl rfl rfl rfl rfl ?_
   clear Hz Az m799; intro g797 Az w800 Hz m800
   refine hK _ _ (m800.to ⟨il, il, il, trivial⟩) ?_; clear hK K
   have m801 := m800.freezeR 28 rfl; clear m800
   refine stepE_only 15 rfl (by kernel_rfl) rfl (fun K hK => ?_)
   refine e_call Hz Tryd.func32 rfl rfl rfl rfl (pjoin_is (ls := [magicB, encs [bl, sz], encs [fr + 1, to], encs [(its.length : Int)]]) (S := (magicB ++ encs [bl, sz, fr + 1, to, (its.length : Int)])) ((m801.rd (i := 28) rfl).any) (by simp) (by simp only [sumLen, List.flatten_cons, List.flatten_nil, List.length_append, List.length_nil]; have q1 := encs_len [bl, sz]; have q2 := encs_len [fr + 1, to]; have q3 := encs_len [(its.length : Int)]; simp only [List.length_cons, List.length_nil, magicB] at *; omega) (by simp [encs])) ?_
   rintro e w802 ⟨p802, c802, rfl, ho802, hb802⟩
   have m803 := m801.newN 29 hb802 ho802
   clear m801
   clear hb802 ho802
   refine ⟨_, rfl, ?_⟩; clear Hz Az; intro Az Hz
   refine hK _ _ (m803.to ⟨il, il, il, trivial⟩) ?_; clear hK K
   have m805 := m803.freezeN 29 rfl; clear m803
   refine stepE_end 16 rfl (by kernel_rfl) rfl (by rfl) (fun K hK => ?_)
   refine e_call Hz Tryd.func31 rfl rfl rfl rfl (pseal_x _ _ _ (hT.below m805.below h01) (Nat.le_trans h01 m805.below.size) ((m805.rd (i := 29) rfl).any) hHB hHL) ?_
   rintro e w806 ⟨p806, c806, rfl, ho806, hb806⟩
   have m807 := m805.newN 30 hb806 ho806
   clear m805
   clear hb806 ho806
   refine ⟨_, rfl, ?_⟩; clear Hz Az; intro Az Hz
   refine hK _ _ ?_; clear hK
   refine goB hP93 [17] 1 131071 262143 Hz (.assign rfl <| .nil) ?_
   clear Hz Az; intro Az Hz
   refine wpAnyE_done (by kernel_rfl) ?_ _
   show K4 _ _
   exact hC4 _ _ ⟨_, _, _, Hz.only [1, 5], m807.ren [(8, 20), (9, 30)] (by decide)⟩
  have m810 := m745.freezeN 23 rfl; clear m745
  refine e_call Hz Tryd.func33 rfl rfl rfl rfl (pnums_x [bl, sz] _ _ _ ((m810.rd (i := 23) rfl).any) (by simp) (b63 (by intro x hx; simp only [List.mem_cons, List.not_mem_nil, or_false] at hx; omega))) ?_
  rintro e w811 ⟨p811, c811, rfl, ho811, hb811⟩
  have m812 := m810.newN 25 hb811 ho811
  clear m810
  clear hb811 ho811
  refine ⟨_, rfl, ?_⟩; clear Hz Az; intro Az Hz
  refine hK _ _ (fun _ => (m812.to ⟨il, il, il, trivial⟩)) ?_; clear hK K
  refine d_two 0 13 rfl rfl (by kernel_rfl) rfl rfl (fun K hK => ?_) (fun K hK => ?_)
  ·
   refine e_litN Hz m812 26 (k := .u8) rfl rfl U22 fct0 rfl rfl rfl rfl ?_
   clear Hz Az m812; intro g814 Az w815 Hz m815
   refine hK _ _ (fun _ => (m815.to ⟨il, il, il, trivial⟩)) ?_; clear hK K
   refine d_two 1 13 rfl rfl (by kernel_rfl) rfl rfl (fun K hK => ?_) (fun K hK => ?_)
   ·
    refine e_cvN Hz m815 26 rfl rfl U22 U5 rfl ?_
    clear Hz Az m815; intro  Az w816 Hz m816
    refine hK _ _ (fun _ => (m816.to ⟨il, il, il, trivial⟩)) ?_; clear hK K
    have m817 := m816.freezeN 24 rfl; clear m816
    refine stepE_only 13 rfl (by kernel_rfl) rfl (fun K hK => ?_)
    refine e_call Hz Tryd.func33 rfl rfl rfl rfl (pnums_x [(its.length : Int)] _ _ _ ((m817.rd (i := 24) rfl).any) (by simp) (b63 (by intro x hx; simp only [List.mem_cons, List.not_mem_nil, or_false] at hx; omega))) ?_
    rintro e w818 ⟨p818, c818, rfl, ho818, hb818⟩
    have m819 := m817.newN 27 hb818 ho818
    clear m817
    clear hb818 ho818
    refine ⟨_, rfl, ?_⟩; clear Hz Az; intro Az Hz
    refine hK _ _ (m819.to ⟨il, il, il, trivial⟩) ?_; clear hK K
    have m822 := m819.freezeN 25 rfl; clear m819
    have m823 := m822.freezeN 27 rfl; clear m822
    refine stepE_only 14 rfl (by kernel_rfl) rfl (fun K hK => ?_)
    refine e_litR Hz m823 28 (mm := 1) rfl (.cons rfl rfl (.cons (m823.rd (i := 26) rfl) .nil) <| .cons rfl rfl (.cons (m823.rd (i := 25) rfl) .nil) <| .cons rfl rfl (.cons (m823.rd (i := 22) rfl) .nil) <| .cons rfl rfl (.cons (m823.rd (i := 27) rfl) .nil) <| .nil) U32 fct4 rfl rfl rfl rfl rfl ?_
    clear Hz Az m823; intro g821 Az w824 Hz m824
    refine hK _ _ (m824.to ⟨il, il, il, trivial⟩) ?_; clear hK K
    have m825 := m824.freezeR 28 rfl; clear m824
    refine stepE_only 15 rfl (by kernel_rfl) rfl (fun K hK => ?_)
    refine e_call Hz Tryd.func32 rfl rfl rfl rfl (pjoin_is (ls := [magicB, encs [bl, sz], encs [fr + 1, to], encs [(its.length : Int)]]) (S := (magicB ++ encs [bl, sz, fr + 1, to, (its.length : Int)])) ((m825.rd (i := 28) rfl).any) (by simp) (by simp only [sumLen, List.flatten_cons, List.flatten_nil, List.length_append, List.length_nil]; have q1 := encs_len [bl, sz]; have q2 := encs_len [fr + 1, to]; have q3 := encs_len [(its.length : Int)]; simp only [List.length_cons, List.length_nil, magicB] at *; omega) (by simp [encs])) ?_
    rintro e w826 ⟨p826, c826, rfl, ho826, hb826⟩
    have m827 := m825.newN 29 hb826 ho826
    clear m825
    clear hb826 ho826
    refine ⟨_, rfl, ?_⟩; clear Hz Az; intro Az Hz
    refine hK _ _ (m827.to ⟨il, il, il, trivial⟩) ?_; clear hK K
    have m829 := m827.freezeN 29 rfl; clear m827
    refine stepE_end 16 rfl (by kernel_rfl) rfl (by rfl) (fun K hK => ?_)
    refine e_call Hz Tryd.func31 rfl rfl rfl rfl (pseal_x _ _ _ (hT.below m829.below h01) (Nat.le_trans h01 m829.below.size) ((m829.rd (i := 29) rfl).any) hHB hHL) ?_
    rintro e w830 ⟨p830, c830, rfl, ho830, hb830⟩
    have m831 := m829.newN 30 hb830 ho830
    clear m829
    clear hb830 ho830
    refine ⟨_, rfl, ?_⟩; clear Hz Az; intro Az Hz
    refine hK _ _ ?_; clear hK
    refine goB hP93 [17] 1 131071 262143 Hz (.assign rfl <| .nil) ?_
    clear Hz Az; intro Az Hz
    refine wpAnyE_done (by kernel_rfl) ?_ _
    show K4 _ _
    exact hC4 _ _ ⟨_, _, _, Hz.only [1, 5], m831.ren [(8, 20), (9, 30)] (by decide)⟩
   have m834 := m815.freezeN 24 rfl; clear m815
   refine e_call Hz Tryd.func33 rfl rfl rfl rfl (pnums_x [(its.length : Int)] _ _ _ ((m834.rd (i := 24) rfl).any) (by simp) (b63 (by intro x hx; simp only [List.mem_cons, List.not_mem_nil, or_false] at hx; omega))) ?_
   rintro e w835 ⟨p835, c835, rfl, ho835, hb835⟩
   have m836 := m834.newN 27 hb835 ho835
   clear m834
   clear hb835 ho835
   refine ⟨_, rfl, ?_⟩; clear Hz Az; intro Az Hz
   refine hK _ _ (fun _ => (m836.to ⟨il, il, il, trivial⟩)) ?_; clear hK K
   refine stepE_only 1 rfl (by kernel_rfl) rfl (fun K hK => ?_)
   refine e_cvN Hz m836 26 rfl rfl U22 U5 rfl ?_
   clear Hz Az m836; intro  Az w838 Hz m838
   refine hK _ _ (m838.to ⟨il, il, il, trivial⟩) ?_; clear hK K
   have m840 := m838.freezeN 25 rfl; clear m838
   have m841 := m840.freezeN 27 rfl; clear m840
   refine stepE_only 14 rfl (by kernel_rfl) rfl (fun K hK => ?_)
   refine e_litR Hz m841 28 (mm := 1) rfl (.cons rfl rfl (.cons (m841.rd (i := 26) rfl) .nil) <| .cons rfl rfl (.cons (m841.rd (i := 25) rfl) .nil) <| .cons rfl rfl (.cons (m841.rd (i := 22) rfl) .nil) <| .cons rfl rfl (.cons (m841.rd (i := 27) rfl) .nil) <| .nil) U32 fct4 rfl rfl rfl rfl rfl ?_
   clear Hz Az m841; intro g839 Az w842 Hz m842
   refine hK _ _ (m842.to ⟨il, il, il, trivial⟩) ?_; clear hK K
   have m843 := m842.freezeR 28 rfl; clear m842
   refine stepE_only 15 rfl (by kernel_rfl) rfl (fun K hK => ?_)
   refine e_call Hz Tryd.func32 rfl rfl rfl rfl (pjoin_is (ls := [magicB, encs [bl, sz], encs [fr + 1, to], encs [(its.length : Int)]]) (S := (magicB ++ encs [bl, sz, fr + 1, to, (its.length : Int)])) ((m843.rd (i := 28) rfl).any) (by simp) (by simp only [sumLen, List.flatten_cons, List.flatten_nil, List.length_append, List.length_nil]; have q1 := encs_len [bl, sz]; have q2 := encs_len [fr + 1, to]; have q3 := encs_len [(its.length : Int)]; simp only [List.length_cons, List.length_nil, magicB] at *; omega) (by simp [encs])) ?_
   rintro e w844 ⟨p844, c844, rfl, ho844, hb844⟩
   have m845 := m843.newN 29 hb844 ho844
   clear m843
   clear hb844 ho844
   refine ⟨_, rfl, ?_⟩; clear Hz Az; intro Az Hz
   refine hK _ _ (m845.to ⟨il, il, il, trivial⟩) ?_; clear hK K
   have m847 := m845.freezeN 29 rfl; clear m845
   refine stepE_end 16 rfl (by kernel_rfl) rfl (by rfl) (fun K hK => ?_)
   refine e_call Hz Tryd.func31 rfl rfl rfl rfl (pseal_x _ _ _ (hT.below m847.below h01) (Nat.le_trans h01 m847.below.size) ((m847.rd (i := 29) rfl).any) hHB hHL) ?_
   rintro e w848 ⟨p848, c848, rfl, ho848, hb848⟩
   have m849 := m847.newN 30 hb848 ho848
   clear m847
   clear hb848 ho848
   refine ⟨_, rfl, ?_⟩; clear Hz Az; intro Az Hz
   refine hK _ _ ?_; clear hK
   refine goB hP93 [17] 1 131071 262143 Hz (.assign rfl <| .nil) ?_
   clear Hz Az; intro Az Hz
   refine wpAnyE_done (by kernel_rfl) ?_ _
   show K4 _ _
   exact hC4 _ _ ⟨_, _, _, Hz.only [1, 5], m849.ren [(8, 20), (9, 30)] (by decide)⟩
  have m852 := m812.freezeN 24 rfl; clear m812
  refine e_call Hz Tryd.func33 rfl rfl rfl rfl (pnums_x [(its.length : Int)] _ _ _ ((m852.rd (i := 24) rfl).any) (by simp) (b63 (by intro x hx; simp only [List.mem_cons, List.not_mem_nil, or_false] at hx; omega))) ?_
  rintro e w853 ⟨p853, c853, rfl, ho853, hb853⟩
  have m854 := m852.newN 26 hb853 ho853
  clear m852
  clear hb853 ho853
  refine ⟨_, rfl, ?_⟩; clear Hz Az; intro Az Hz
  refine hK _ _ (fun _ => (m854.to ⟨il, il, il, trivial⟩)) ?_; clear hK K
  refine stepE_only 0 rfl (by kernel_rfl) rfl (fun K hK => ?_)
  refine e_litN Hz m854 27 (k := .u8) rfl rfl U22 fct0 rfl rfl rfl rfl ?_
  clear Hz Az m854; intro g856 Az w857 Hz m857
  refine hK _ _ (m857.to ⟨il, il, il, trivial⟩) ?_; clear hK K
  refine stepE_only 1 rfl (by kernel_rfl) rfl (fun K hK => ?_)
  refine e_cvN Hz m857 27 rfl rfl U22 U5 rfl ?_
  clear Hz Az m857; intro  Az w858 Hz m858
  refine hK _ _ (m858.to ⟨il, il, il, trivial⟩) ?_; clear hK K
  have m860 := m858.freezeN 25 rfl; clear m858
  have m861 := m860.freezeN 26 rfl; clear m860
  refine stepE_only 14 rfl (by kernel_rfl) rfl (fun K hK => ?_)
  refine e_litR Hz m861 28 (mm := 1) rfl (.cons rfl rfl (.cons (m861.rd (i := 27) rfl) .nil) <| .cons rfl rfl (.cons (m861.rd (i := 25) rfl) .nil) <| .cons rfl rfl (.cons (m861.rd (i := 22) rfl) .nil) <| .cons rfl rfl (.cons (m861.rd (i := 26) rfl) .nil) <| .nil) U32 fct4 rfl rfl rfl rfl rfl ?_
  clear Hz Az m861; intro g859 Az w862 Hz m862
  refine hK _ _ (m862.to ⟨il, il, il, trivial⟩) ?_; clear hK K
  have m863 := m862.freezeR 28 rfl; clear m862
  refine stepE_only 15 rfl (by kernel_rfl) rfl (fun K hK => ?_)
  refine e_call Hz Tryd.func32 rfl rfl rfl rfl (pjoin_is (ls := [magicB, encs [bl, sz], encs [fr + 1, to], encs [(its.length : Int)]]) (S := (magicB ++ encs [bl, sz, fr + 1, to, (its.length : Int)])) ((m863.rd (i := 28) rfl).any) (by simp) (by simp only [sumLen, List.flatten_cons, List.flatten_nil, List.length_append, List.length_nil]; have q1 := encs_len [bl, sz]; have q2 := encs_len [fr + 1, to]; have q3 := encs_len [(its.length : Int)]; simp only [List.length_cons, List.length_nil, magicB] at *; omega) (by simp [encs])) ?_
  rintro e w864 ⟨p864, c864, rfl, ho864, hb864⟩
  have m865 := m863.newN 29 hb864 ho864
  clear m863
  clear hb864 ho864
  refine ⟨_, rfl, ?_⟩; clear Hz Az; intro Az Hz
  refine hK _ _ (m865.to ⟨il, il, il, trivial⟩) ?_; clear hK K
  have m867 := m865.freezeN 29 rfl; clear m865
  refine stepE_end 16 rfl (by kernel_rfl) rfl (by rfl) (fun K hK => ?_)
  refine e_call Hz Tryd.func31 rfl rfl rfl rfl (pseal_x _ _ _ (hT.below m867.below h01) (Nat.le_trans h01 m867.below.size) ((m867.rd (i := 29) rfl).any) hHB hHL) ?_
  rintro e w868 ⟨p868, c868, rfl, ho868, hb868⟩
  have m869 := m867.newN 30 hb868 ho868
  clear m867
  clear hb868 ho868
  refine ⟨_, rfl, ?_⟩; clear Hz Az; intro Az Hz
  refine hK _ _ ?_; clear hK
  refine goB hP93 [17] 1 131071 262143 Hz (.assign rfl <| .nil) ?_
  clear Hz Az; intro Az Hz
  refine wpAnyE_done (by kernel_rfl) ?_ _
  show K4 _ _
  exact hC4 _ _ ⟨_, _, _, Hz.only [1, 5], m869.ren [(8, 20), (9, 30)] (by decide)⟩
 refine e_litN Hz m93 23 (k := .i64) rfl rfl U52 fct26 rfl rfl rfl rfl ?_
 clear Hz Az m93; intro g872 Az w873 Hz m873
 refine hK _ _ (fun _ => (m873.to ⟨il, il, il, trivial⟩)) ?_; clear hK K
 refine d_two 0 6 rfl rfl (by kernel_rfl) rfl rfl (fun K hK => ?_) (fun K hK => ?_)
 ·
  refine e_litN Hz m873 24 (k := .u8) rfl rfl U22 fct0 rfl rfl rfl rfl ?_
  clear Hz Az m873; intro g874 Az w875 Hz m875
  refine hK _ _ (fun _ => (m875.to ⟨il, il, il, trivial⟩)) ?_; clear hK K
  refine d_two 1 6 rfl rfl (by kernel_rfl) rfl rfl (fun K hK => ?_) (fun K hK => ?_)
  ·
   refine e_cvN Hz m875 24 rfl rfl U22 U5 rfl ?_
   clear Hz Az m875; intro  Az w876 Hz m876
   refine hK _ _ (fun _ => (m876.to ⟨il, il, il, trivial⟩)) ?_; clear hK K
   refine stepE_only 6 rfl (by kernel_rfl) rfl (fun K hK => ?_)
   refine e_litN Hz m876 25 (k := .i64) rfl rfl U52 fct26 rfl rfl rfl rfl ?_
   clear Hz Az m876; intro g877 Az w878 Hz m878
   refine hK _ _ (m878.to ⟨il, il, il, trivial⟩) ?_; clear hK K
   have m879 := m878.freezeN 25 rfl; clear m878
   refine stepE_only 7 rfl (by kernel_rfl) rfl (fun K hK => ?_)
   refine e_call Hz Tryd.func33 rfl rfl rfl rfl (pnums_x [bl, sz] _ _ _ ((m879.rd (i := 25) rfl).any) (by simp) (b63 (by intro x hx; simp only [List.mem_cons, List.not_mem_nil, or_false] at hx; omega))) ?_
   rintro e w880 ⟨p880, c880, rfl, ho880, hb880⟩
   have m881 := m879.newN 26 hb880 ho880
   clear m879
   clear hb880 ho880
   refine ⟨_, rfl, ?_⟩; clear Hz Az; intro Az Hz
   refine hK _ _ (m881.to ⟨il, il, il, trivial⟩) ?_; clear hK K
   have m883 := m881.freezeN 23 rfl; clear m881
   refine stepE_only 13 rfl (by kernel_rfl) rfl (fun K hK => ?_)
   refine e_call Hz Tryd.func33 rfl rfl rfl rfl (pnums_x [(its.length : Int)] _ _ _ ((m883.rd (i := 23) rfl).any) (by simp) (b63 (by intro x hx; simp only [List.mem_cons, List.not_mem_nil, or_false] at hx; omega))) ?_
   rintro e w884 ⟨p884, c884, rfl, ho884, hb884⟩
   have m885 := m883.newN 27 hb884 ho884
   clear m883
   clear hb884 ho884
   refine ⟨_, rfl, ?_⟩; clear Hz Az; intro Az Hz
   refine hK _ _ (m885.to ⟨il, il, il, trivial⟩) ?_; clear hK K
   have m888 := m885.freezeN 26 rfl; clear m885
   have m889 := m888.freezeN 27 rfl; clear m888
   refine stepE_only 14 rfl (by kernel_rfl) rfl (fun K hK => ?_)
   refine e_litR Hz m889 28 (mm := 1) rfl (.cons rfl rfl (.cons (m889.rd (i := 24) rfl) .nil) <| .cons rfl rfl (.cons (m889.rd (i := 26) rfl) .nil) <| .cons rfl rfl (.cons (m889.rd (i := 22) rfl) .nil) <| .cons rfl rfl (.cons (m889.rd (i := 27) rfl) .nil) <| .nil) U32 fct4 rfl rfl rfl rfl rfl ?_
   clear Hz Az m889; intro g887 Az w890 Hz m890
   refine hK _ _ (m890.to ⟨il, il, il, trivial⟩) ?_; clear hK K
   have m891 := m890.freezeR 28 rfl; clear m890
   refine stepE_only 15 rfl (by kernel_rfl) rfl (fun K hK => ?_)
   refine e_call Hz Tryd.func32 rfl rfl rfl rfl (pjoin_is (ls := [magicB, encs [bl, sz], encs [fr + 1, to], encs [(its.length : Int)]]) (S := (magicB ++ encs [bl, sz, fr + 1, to, (its.length : Int)])) ((m891.rd (i := 28) rfl).any) (by simp) (by simp only [sumLen, List.flatten_cons, List.flatten_nil, List.length_append, List.length_nil]; have q1 := encs_len [bl, sz]; have q2 := encs_len [fr + 1, to]; have q3 := encs_len [(its.length : Int)]; simp only [List.length_cons, List.length_nil, magicB] at *; omega) (by simp [encs])) ?_
   rintro e w892 ⟨p892, c892, rfl, ho892, hb892⟩
   have m893 := m891.newN 29 hb892 ho892
   clear m891
   clear hb892 ho892
   refine ⟨_, rfl, ?_⟩; clear Hz Az; intro Az Hz
   refine hK _ _ (m893.to ⟨il, il, il, trivial⟩) ?_; clear hK K
   have m895 := m893.freezeN 29 rfl; clear m893
   refine stepE_end 16 rfl (by kernel_rfl) rfl (by rfl) (fun K hK => ?_)
   refine e_call Hz Tryd.func31 rfl rfl rfl rfl (pseal_x _ _ _ (hT.below m895.below h01) (Nat.le_trans h01 m895.below.size) ((m895.rd (i := 29) rfl).any) hHB hHL) ?_
   rintro e w896 ⟨p896, c896, rfl, ho896, hb896⟩
   have m897 := m895.newN 30 hb896 ho896
   clear m895
   clear hb896 ho896
   refine ⟨_, rfl, ?_⟩; clear Hz Az; intro Az Hz
   refine hK _ _ ?_; clear hK
   refine goB hP93 [17] 1 131071 262143 Hz (.assign rfl <| .nil) ?_
   clear Hz Az; intro Az Hz
   refine wpAnyE_done (by kernel_rfl) ?_ _
   show K4 _ _
   exact hC4 _ _ ⟨_, _, _, Hz.only [1, 5], m897.ren [(8, 20), (9, 30)] (by decide)⟩
  refine e_litN Hz m875 25 (k := .i64) rfl rfl U52 fct26 rfl rfl rfl rfl ?_
  clear Hz Az m875; intro g900 Az w901 Hz m901
  refine hK _ _ (fun _ => (m901.to ⟨il, il, il, trivial⟩)) ?_; clear hK K
  refine d_two 1 7 rfl rfl (by kernel_rfl) rfl rfl (fun K hK => ?_) (fun K hK => ?_)
  ·
   refine e_cvN Hz m901 24 rfl rfl U22 U5 rfl ?_
   clear Hz Az m901; intro  Az w902 Hz m902
   refine hK _ _ (fun _ => (m902.to ⟨il, il, il, trivial⟩)) ?_; clear hK K
   have m903 := m902.freezeN 25 rfl; clear m902
   refine stepE_only 7 rfl (by kernel_rfl) rfl (fun K hK => ?_)
   refine e_call Hz Tryd.func33 rfl rfl rfl rfl (pnums_x [bl, sz] _ _ _ ((m903.rd (i := 25) rfl).any) (by simp) (b63 (by intro x hx; simp only [List.mem_cons, List.not_mem_nil, or_false] at hx; omega))) ?_
   rintro e w904 ⟨p904, c904, rfl, ho904, hb904⟩
   have m905 := m903.newN 26 hb904 ho904
   clear m903
   clear hb904 ho904
   refine ⟨_, rfl, ?_⟩; clear Hz Az; intro Az Hz
   refine hK _ _ (m905.to ⟨il, il, il, trivial⟩) ?_; clear hK K
   have m907 := m905.freezeN 23 rfl; clear m905
   refine stepE_only 13 rfl (by kernel_rfl) rfl (fun K hK => ?_)
   refine e_call Hz Tryd.func33 rfl rfl rfl rfl (pnums_x [(its.length : Int)] _ _ _ ((m907.rd (i := 23) rfl).any) (by simp) (b63 (by intro x hx; simp only [List.mem_cons, List.not_mem_nil, or_false] at hx; omega))) ?_
   rintro e w908 ⟨p908, c908, rfl, ho908, hb908⟩
   have m909 := m907.newN 27 hb908 ho908
   clear m907
   clear hb908 ho908
   refine ⟨_, rfl, ?_⟩; clear Hz Az; intro Az Hz
   refine hK _ _ (m909.to ⟨il, il, il, trivial⟩) ?_; clear hK K
   have m912 := m909.freezeN 26 rfl; clear m909
   have m913 := m912.freezeN 27 rfl; clear m912
   refine stepE_only 14 rfl (by kernel_rfl) rfl (fun K hK => ?_)
   refine e_litR Hz m913 28 (mm := 1) rfl (.cons rfl rfl (.cons (m913.rd (i := 24) rfl) .nil) <| .cons rfl rfl (.cons (m913.rd (i := 26) rfl) .nil) <| .cons rfl rfl (.cons (m913.rd (i := 22) rfl) .nil) <| .cons rfl rfl (.cons (m913.rd (i := 27) rfl) .nil) <| .nil) U32 fct4 rfl rfl rfl rfl rfl ?_
   clear Hz Az m913; intro g911 Az w914 Hz m914
   refine hK _ _ (m914.to ⟨il, il, il, trivial⟩) ?_; clear hK K
   have m915 := m914.freezeR 28 rfl; clear m914
   refine stepE_only 15 rfl (by kernel_rfl) rfl (fun K hK => ?_)
   refine e_call Hz Tryd.func32 rfl rfl rfl rfl (pjoin_is (ls := [magicB, encs [bl, sz], encs [fr + 1, to], encs [(its.length : Int)]]) (S := (magicB ++ encs [bl, sz, fr + 1, to, (its.length : Int)])) ((m915.rd (i := 28) rfl).any) (by simp) (by simp only [sumLen, List.flatten_cons, List.flatten_nil, List.length_append, List.length_nil]; have q1 := encs_len [bl, sz]; have q2 := encs_len [fr + 1, to]; have q3 := encs_len [(its.length : Int)]; simp only [List.length_cons, List.length_nil, magicB] at *; omega) (by simp [encs])) ?_
   rintro e w916 ⟨p916, c916, rfl, ho916, hb916⟩
   have m917 := m915.newN 29 hb916 ho916
   clear m915
   clear hb916 ho916
   refine ⟨_, rfl, ?_⟩; clear Hz Az; intro Az Hz
   refine hK _ _ (m917.to ⟨il, il, il, trivial⟩) ?_; clear hK K
   have m919 := m917.freezeN 29 rfl; clear m917
   refine stepE_end 16 rfl (by kernel_rfl) rfl (by rfl) (fun K hK => ?_)
   refine e_call Hz Tryd.func31 rfl rfl rfl rfl (pseal_x _ _ _ (hT.below m919.below h01) (Nat.le_trans h01 m919.below.size) ((m919.rd (i := 29) rfl).any) hHB hHL) ?_
   rintro e w920 ⟨p920, c920, rfl, ho920, hb920⟩
   have m921 := m919.newN 30 hb920 ho920
   clear m919
   clear hb920 ho920
   refine ⟨_, rfl, ?_⟩; clear Hz Az; intro Az Hz
   refine hK _ _ ?_; clear hK
   refine goB hP93 [17] 1 131071 262143 Hz (.assign rfl <| .nil) ?_
   clear Hz Az; intro Az Hz
   refine wpAnyE_done (by kernel_rfl) ?_ _
   show K4 _ _
   exact hC4 _ _ ⟨_, _, _, Hz.only [1, 5], m921.ren [(8, 20), (9, 30)] (by decide)⟩
  have m924 := m901.freezeN 25 rfl; clear m901
  refine e_call Hz Tryd.func33 rfl rfl rfl rfl (pnums_x [bl, sz] _ _ _ ((m924.rd (i := 25) rfl).any) (by simp) (b63 (by intro x hx; simp only [List.mem_cons, List.not_mem_nil, or_false] at hx; omega))) ?_
  rintro e w925 ⟨p925, c925, rfl, ho925, hb925⟩
  have m926 := m924.newN 26 hb925 ho925
  clear m924
  clear hb925 ho925
  refine ⟨_, rfl, ?_⟩; clear Hz Az; intro Az Hz
  refine hK _ _ (fun _ => (m926.to ⟨il, il, il, trivial⟩)) ?_; clear hK K
  refine d_two 1 13 rfl rfl (by kernel_rfl) rfl rfl (fun K hK => ?_) (fun K hK => ?_)
  ·
   refine e_cvN Hz m926 24 rfl rfl U22 U5 rfl ?_
   clear Hz Az m926; intro  Az w928 Hz m928
   refine hK _ _ (fun _ => (m928.to ⟨il, il, il, trivial⟩)) ?_; clear hK K
   have m929 := m928.freezeN 23 rfl; clear m928
   refine stepE_only 13 rfl (by kernel_rfl) rfl (fun K hK => ?_)
   refine e_call Hz Tryd.func33 rfl rfl rfl rfl (pnums_x [(its.length : Int)] _ _ _ ((m929.rd (i := 23) rfl).any) (by simp) (b63 (by intro x hx; simp only [List.mem_cons, List.not_mem_nil, or_false] at hx; omega))) ?_
   rintro e w930 ⟨p930, c930, rfl, ho930, hb930⟩
   have m931 := m929.newN 27 hb930 ho930
   clear m929
   clear hb930 ho930
   refine ⟨_, rfl, ?_⟩; clear Hz Az; intro Az Hz
   refine hK _ _ (m931.to ⟨il, il, il, trivial⟩) ?_; clear hK K
   have m934 := m931.freezeN 26 rfl; clear m931
   have m935 := m934.freezeN 27 rfl; clear m934
   refine stepE_only 14 rfl (by kernel_rfl) rfl (fun K hK => ?_)
   refine e_litR Hz m935 28 (mm := 1) rfl (.cons rfl rfl (.cons (m935.rd (i := 24) rfl) .nil) <| .cons rfl rfl (.cons (m935.rd (i := 26) rfl) .nil) <| .cons rfl rfl (.cons (m935.rd (i := 22) rfl) .nil) <| .cons rfl rfl (.cons (m935.rd (i := 27) rfl) .nil) <| .nil) U32 fct4 rfl rfl rfl rfl rfl ?_
   clear Hz Az m935; intro g933 Az w936 Hz m936
   refine hK _ _ (m936.to ⟨il, il, il, trivial⟩) ?_; clear hK K
   have m937 := m936.freezeR 28 rfl; clear m936
   refine stepE_only 15 rfl (by kernel_rfl) rfl (fun K hK => ?_)
   refine e_call Hz Tryd.func32 rfl rfl rfl rfl (pjoin_is (ls := [magicB, encs [bl, sz], encs [fr + 1, to], encs [(its.length : Int)]]) (S := (magicB ++ encs [bl, sz, fr + 1, to, (its.length : Int)])) ((m937.rd (i := 28) rfl).any) (by simp) (by simp only [sumLen, List.flatten_cons, List.flatten_nil, List.length_append, List.length_nil]; have q1 := encs_len [bl, sz]; have q2 := encs_len [fr + 1, to]; have q3 := encs_len [(its.length : Int)]; simp only [List.length_cons, List.length_nil, magicB] at *; omega) (by simp [encs])) ?_
   rintro e w938 ⟨p938, c938, rfl, ho938, hb938⟩
   have m939 := m937.newN 29 hb938 ho938
   clear m937
   clear hb938 ho938
   refine ⟨_, rfl, ?_⟩; clear Hz Az; intro Az Hz
   refine hK _ _ (m939.to ⟨il, il, il, trivial⟩) ?_; clear hK K
   have m941 := m939.freezeN 29 rfl; clear m939
   refine stepE_end 16 rfl (by kernel_rfl) rfl (by rfl) (fun K hK => ?_)
   refine e_call Hz Tryd.func31 rfl rfl rfl rfl (pseal_x _ _ _ (hT.below m941.below h01) (Nat.le_trans h01 m941.below.size) ((m941.rd (i := 29) rfl).any) hHB hHL) ?_
   rintro e w942 ⟨p942, c942, rfl, ho942, hb942⟩
   have m943 := m941.newN 30 hb942 ho942
   clear m941
   clear hb942 ho942
   refine ⟨_, rfl, ?_⟩; clear Hz Az; intro Az Hz
   refine hK _ _ ?_; clear hK
   refine goB hP93 [17] 1 131071 262143 Hz (.assign rfl <| .nil) ?_
   clear Hz Az; intro Az Hz
   refine wpAnyE_done (by kernel_rfl) ?_ _
   show K4 _ _
   exact hC4 _ _ ⟨_, _, _, Hz.only [1, 5], m943.ren [(8, 20), (9, 30)] (by decide)⟩
  have m946 := m926.freezeN 23 rfl; clear m926
  refine e_call Hz Tryd.func33 rfl rfl rfl rfl (pnums_x [(its.length : Int)] _ _ _ ((m946.rd (i := 23) rfl).any) (by simp) (b63 (by intro x hx; simp only [List.mem_cons, List.not_mem_nil, or_false] at hx; omega))) ?_
  rintro e w947 ⟨p947, c947, rfl, ho947, hb947⟩
  have m948 := m946.newN 27 hb947 ho947
  clear m946
  clear hb947 ho947
  refine ⟨_, rfl, ?_⟩; clear Hz Az; intro Az Hz
  refine hK _ _ (fun _ => (m948.to ⟨il, il, il, trivial⟩)) ?_; clear hK K
  refine stepE_only 1 rfl (by kernel_rfl) rfl (fun K hK => ?_)
  refine e_cvN Hz m948 24 rfl rfl U22 U5 rfl ?_
  clear Hz Az m948; intro  Az w950 Hz m950
  refine hK _ _ (m950.to ⟨il, il, il, trivial⟩) ?_; clear hK K
  have m952 := m950.freezeN 26 rfl; clear m950
  have m953 := m952.freezeN 27 rfl; clear m952
  refine stepE_only 14 rfl (by kernel_rfl) rfl (fun K hK => ?_)
  refine e_litR Hz m953 28 (mm := 1) rfl (.cons rfl rfl (.cons (m953.rd (i := 24) rfl) .nil) <| .cons rfl rfl (.cons (m953.rd (i := 26) rfl) .nil) <| .cons rfl rfl (.cons (m953.rd (i := 22) rfl) .nil) <| .cons rfl rfl (.cons (m953.rd (i := 27) rfl) .nil) <| .nil) U32 fct4 rfl rfl rfl rfl rfl ?_
  clear Hz Az m953; intro g951 Az w954 Hz m954
  refine hK _ _ (m954.to ⟨il, il, il, trivial⟩) ?_; clear hK K
  have m955 := m954.freezeR 28 rfl; clear m954
  refine stepE_only 15 rfl (by kernel_rfl) rfl (fun K hK => ?_)
  refine e_call Hz Tryd.func32 rfl rfl rfl rfl (pjoin_is (ls := [magicB, encs [bl, sz], encs [fr + 1, to], encs [(its.length : Int)]]) (S := (magicB ++ encs [bl, sz, fr + 1, to, (its.length : Int)])) ((m955.rd (i := 28) rfl).any) (by simp) (by simp only [sumLen, List.flatten_cons, List.flatten_nil, List.length_append, List.length_nil]; have q1 := encs_len [bl, sz]; have q2 := encs_len [fr + 1, to]; have q3 := encs_len [(its.length : Int)]; simp only [List.length_cons, List.length_nil, magicB] at *; omega) (by simp [encs])) ?_
  rintro e w956 ⟨p956, c956, rfl, ho956, hb956⟩
  have m957 := m955.newN 29 hb956 ho956
  clear m955
  clear hb956 ho956
  refine ⟨_, rfl, ?_⟩; clear Hz Az; intro Az Hz
  refine hK _ _ (m957.to ⟨il, il, il, trivial⟩) ?_; clear hK K
  have m959 := m957.freezeN 29 rfl; clear m957
  refine stepE_end 16 rfl (by kernel_rfl) rfl (by rfl) (fun K hK => ?_)
  refine e_call Hz Tryd.func31 rfl rfl rfl rfl (pseal_x _ _ _ (hT.below m959.below h01) (Nat.le_trans h01 m959.below.size) ((m959.rd (i := 29) rfl).any) hHB hHL) ?_
  rintro e w960 ⟨p960, c960, rfl, ho960, hb960⟩
  have m961 := m959.newN 30 hb960 ho960
  clear m959
  clear hb960 ho960
  refine ⟨_, rfl, ?_⟩; clear Hz Az; intro Az Hz
  refine hK _ _ ?_; clear hK
  refine goB hP93 [17] 1 131071 262143 Hz (.assign rfl <| .nil) ?_
  clear Hz Az; intro Az Hz
  refine wpAnyE_done (by kernel_rfl) ?_ _
  show K4 _ _
  exact hC4 _ _ ⟨_, _, _, Hz.only [1, 5], m961.ren [(8, 20), (9, 30)] (by decide)⟩
 refine e_litN Hz m873 24 (k := .i64) rfl rfl U52 fct26 rfl rfl rfl rfl ?_
 clear Hz Az m873; intro g964 Az w965 Hz m965
 refine hK _ _ (fun _ => (m965.to ⟨il, il, il, trivial⟩)) ?_; clear hK K
 refine d_two 0 7 rfl rfl (by kernel_rfl) rfl rfl (fun K hK => ?_) (fun K hK => ?_)
 ·
  refine e_litN Hz m965 25 (k := .u8) rfl rfl U22 fct0 rfl rfl rfl rfl ?_
  clear Hz Az m965; intro g966 Az w967 Hz m967
  refine hK _ _ (fun _ => (m967.to ⟨il, il, il, trivial⟩)) ?_; clear hK K
  refine d_two 1 7 rfl rfl (by kernel_rfl) rfl rfl (fun K hK => ?_) (fun K hK => ?_)
  ·
   refine e_cvN Hz m967 25 rfl rfl U22 U5 rfl ?_
   clear Hz Az m967; intro  Az w968 Hz m968
   refine hK _ _ (fun _ => (m968.to ⟨il, il, il, trivial⟩)) ?_; clear hK K
   have m969 := m968.freezeN 24 rfl; clear m968
   refine stepE_only 7 rfl (by kernel_rfl) rfl (fun K hK => ?_)
   refine e_call Hz Tryd.func33 rfl rfl rfl rfl (pnums_x [bl, sz] _ _ _ ((m969.rd (i := 24) rfl).any) (by simp) (b63 (by intro x hx; simp only [List.mem_cons, List.not_mem_nil, or_false] at hx; omega))) ?_
   rintro e w970 ⟨p970, c970, rfl, ho970, hb970⟩
   have m971 := m969.newN 26 hb970 ho970
   clear m969
   clear hb970 ho970
   refine ⟨_, rfl, ?_⟩; clear Hz Az; intro Az Hz
   refine hK _ _ (m971.to ⟨il, il, il, trivial⟩) ?_; clear hK K
   have m973 := m971.freezeN 23 rfl; clear m971
   refine stepE_only 13 rfl (by kernel_rfl) rfl (fun K hK => ?_)
   refine e_call Hz Tryd.func33 rfl rfl rfl rfl (pnums_x [(its.length : Int)] _ _ _ ((m973.rd (i := 23) rfl).any) (by simp) (b63 (by intro x hx; simp only [List.mem_cons, List.not_mem_nil, or_false] at hx; omega))) ?_
   rintro e w974 ⟨p974, c974, rfl, ho974, hb974⟩
   have m975 := m973.newN 27 hb974 ho974
   clear m973
   clear hb974 ho974
   refine ⟨_, rfl, ?_⟩; clear Hz Az; intro Az Hz
   refine hK _ _ (m975.to ⟨il, il, il, trivial⟩) ?_; clear hK K
   have m978 := m975.freezeN 26 rfl; clear m975
   have m979 := m978.freezeN 27 rfl; clear m978
   refine stepE_only 14 rfl (by kernel_rfl) rfl (fun K hK => ?_)
   refine e_litR Hz m979 28 (mm := 1) rfl (.cons rfl rfl (.cons (m979.rd (i := 25) rfl) .nil) <| .cons rfl rfl (.cons (m979.rd (i := 26) rfl) .nil) <| .cons rfl rfl (.cons (m979.rd (i := 22) rfl) .nil) <| .cons rfl rfl (.cons (m979.rd (i := 27) rfl) .nil) <| .nil) U32 fct4 rfl rfl rfl rfl rfl ?_
   clear Hz Az m979; intro g977 Az w980 Hz m980
   refine hK _ _ (m980.to ⟨il, il, il, trivial⟩) ?_; clear hK K
   have m981 := m980.freezeR 28 rfl; clear m980
   refine stepE_only 15 rfl (by kernel_rfl) rfl (fun K hK => ?_)
   refine e_call Hz Tryd.func32 rfl rfl rfl rfl (pjoin_is (ls := [magicB, encs [bl, sz], encs [fr + 1, to], encs [(its.length : Int)]]) (S := (magicB ++ encs [bl, sz, fr + 1, to, (its.length : Int)])) ((m981.rd (i := 28) rfl).any) (by simp) (by simp only [sumLen, List.flatten_cons, List.flatten_nil, List.length_append, List.length_nil]; have q1 := encs_len [bl, sz]; have q2 := encs_len [fr + 1, to]; have q3 := encs_len [(its.length : Int)]; simp only [List.length_cons, List.length_nil, magicB] at *; omega) (by simp [encs])) ?_
   rintro e w982 ⟨p982, c982, rfl, ho982, hb982⟩
   have m983 := m981.newN 29 hb982 ho982
   clear m981
   clear hb982 ho982
   refine ⟨_, rfl, ?_⟩; clear Hz Az; intro Az Hz
   refine hK _ _ (m983.to ⟨il, il, il, trivial⟩) ?_; clear hK K
   have m985 := m983.freezeN 29 rfl; clear m983
   refine stepE_end 16 rfl (by kernel_rfl) rfl (by rfl) (fun K hK => ?_)
   refine e_call Hz Tryd.func31 rfl rfl rfl rfl (pseal_x _ _ _ (hT.below m985.below h01) (Nat.le_trans h01 m985.below.size) ((m985.rd (i := 29) rfl).any) hHB hHL) ?_
   rintro e w986 ⟨p986, c986, rfl, ho986, hb986⟩
   have m987 := m985.newN 30 hb986 ho986
   clear m985
   clear hb986 ho986
   refine ⟨_, rfl, ?_⟩; clear Hz Az; intro Az Hz
   refine hK _ _ ?_; clear hK
   refine goB hP93 [17] 1 131071 262143 Hz (.assign rfl <| .nil) ?_
   clear Hz Az; intro Az Hz
   refine wpAnyE_done (by kernel_rfl) ?_ _
   show K4 _ _
   exact hC4 _ _ ⟨_, _, _, Hz.only [1, 5], m987.ren [(8, 20), (9, 30)] (by decide)⟩
  have m990 := m967.freezeN 24 rfl; clear m967
  refine e_call Hz Tryd.func33 rfl rfl rfl rfl (pnums_x [bl, sz] _ _ _ ((m990.rd (i := 24) rfl).any) (by simp) (b63 (by intro x hx; simp only [List.mem_cons, List.not_mem_nil, or_false] at hx; omega))) ?_
  rintro e w991 ⟨p991, c991, rfl, ho991, hb991⟩
  have m992 := m990.newN 26 hb991 ho991
  clear m990
  clear hb991 ho991
  refine ⟨_, rfl, ?_⟩; clear Hz Az; intro Az Hz
  refine hK _ _ (fun _ => (m992.to ⟨il, il, il, trivial⟩)) ?_; clear hK K
  refine d_two 1 13 rfl rfl (by kernel_rfl) rfl rfl (fun K hK => ?_) (fun K hK => ?_)
  ·
   refine e_cvN Hz m992 25 rfl rfl U22 U5 rfl ?_
   clear Hz Az m992; intro  Az w994 Hz m994
   refine hK _ _ (fun _ => (m994.to ⟨il, il, il, trivial⟩)) ?_; clear hK K
   have m995 := m994.freezeN 23 rfl; clear m994
   refine stepE_only 13 rfl (by kernel_rfl) rfl (fun K hK => ?_)
   refine e_call Hz Tryd.func33 rfl rfl rfl rfl (pnums_x [(its.length : Int)] _ _ _ ((m995.rd (i := 23) rfl).any) (by simp) (b63 (by intro x hx; simp only [List.mem_cons, List.not_mem_nil, or_false] at hx; omega))) ?_
   rintro e w996 ⟨p996, c996, rfl, ho996, hb996⟩
   have m997 := m995.newN 27 hb996 ho996
   clear m995
   clear hb996 ho996
   refine ⟨_, rfl, ?_⟩; clear Hz Az; intro Az Hz
   refine hK _ _ (m997.to ⟨il, il, il, trivial⟩) ?_; clear hK K
   have m1000 := m997.freezeN 26 rfl; clear m997
   have m1001 := m1000.freezeN 27 rfl; clear m1000
   refine stepE_only 14 rfl (by kernel_rfl) rfl (fun K hK => ?_)
   refine e_litR Hz m1001 28 (mm := 1) rfl (.cons rfl rfl (.cons (m1001.rd (i := 25) rfl) .nil) <| .cons rfl rfl (.cons (m1001.rd (i := 26) rfl) .nil) <| .cons rfl rfl (.cons (m1001.rd (i := 22) rfl) .nil) <| .cons rfl rfl (.cons (m1001.rd (i := 27) rfl) .nil) <| .nil) U32 fct4 rfl rfl rfl rfl rfl ?_
   clear Hz Az m1001; intro g999 Az w1002 Hz m1002
   refine hK _ _ (m1002.to ⟨il, il, il, trivial⟩) ?_; clear hK K
   have m1003 := m1002.freezeR 28 rfl; clear m1002
   refine stepE_only 15 rfl (by kernel_rfl) rfl (fun K hK => ?_)
   refine e_call Hz Tryd.func32 rfl rfl rfl rfl (pjoin_is (ls := [magicB, encs [bl, sz], encs [fr + 1, to], encs [(its.length : Int)]]) (S := (magicB ++ encs [bl, sz, fr + 1, to, (its.length : Int)])) ((m1003.rd (i := 28) rfl).any) (by simp) (by simp only [sumLen, List.flatten_cons, List.flatten_nil, List.length_append, List.length_nil]; have q1 := encs_len [bl, sz]; have q2 := encs_len [fr + 1, to]; have q3 := encs_len [(its.length : Int)]; simp only [List.length_cons, List.length_nil, magicB] at *; omega) (by simp [encs])) ?_
   rintro e w1004 ⟨p1004, c1004, rfl, ho1004, hb1004⟩
   have m1005 := m1003.newN 29 hb1004 ho1004
   clear m1003
   clear hb1004 ho1004
   refine ⟨_, rfl, ?_⟩; clear Hz Az; intro Az Hz
   refine hK _ _ (m1005.to ⟨il, il, il, trivial⟩) ?_; clear hK K
   have m1007 := m1005.freezeN 29 rfl; clear m1005
   refine stepE_end 16 rfl (by kernel_rfl) rfl (by rfl) (fun K hK => ?_)
   refine e_call Hz Tryd.func31 rfl rfl rfl rfl (pseal_x _ _ _ (hT.below m1007.below h01) (Nat.le_trans h01 m1007.below.size) ((m1007.rd (i := 29) rfl).any) hHB hHL) ?_
   rintro e w1008 ⟨p1008, c1008, rfl, ho1008, hb1008⟩
   have m1009 := m1007.newN 30 hb1008 ho1008
   clear m1007
   clear hb1008 ho1008
   refine ⟨_, rfl, ?_⟩; clear Hz Az; intro Az Hz
   refine hK _ _ ?_; clear hK
   refine goB hP93 [17] 1 131071 262143 Hz (.assign rfl <| .nil) ?_
   clear Hz Az; intro Az Hz
   refine wpAnyE_done (by kernel_rfl) ?_ _
   show K4 _ _
   exact hC4 _ _ ⟨_, _, _, Hz.only [1, 5], m1009.ren [(8, 20), (9, 30)] (by decide)⟩
  have m1012 := m992.freezeN 23 rfl; clear m992
  refine e_call Hz Tryd.func33 rfl rfl rfl rfl (pnums_x [(its.length : Int)] _ _ _ ((m1012.rd (i := 23) rfl).any) (by simp) (b63 (by intro x hx; simp only [List.mem_cons, List.not_mem_nil, or_false] at hx; omega))) ?_
  rintro e w1013 ⟨p1013, c1013, rfl, ho1013, hb1013⟩
  have m1014 := m1012.newN 27 hb1013 ho1013
  clear m1012
  clear hb1013 ho1013
  refine ⟨_, rfl, ?_⟩; clear Hz Az; intro Az Hz
  refine hK _ _ (fun _ => (m1014.to ⟨il, il, il, trivial⟩)) ?_; clear hK K
  refine stepE_only 1 rfl (by kernel_rfl) rfl (fun K hK => ?_)
  refine e_cvN Hz m1014 25 rfl rfl U22 U5 rfl ?_
  clear Hz Az m1014; intro  Az w1016 Hz m1016
  refine hK _ _ (m1016.to ⟨il, il, il, trivial⟩) ?_; clear hK K
  have m1018 := m1016.freezeN 26 rfl; clear m1016
  have m1019 := m1018.freezeN 27 rfl; clear m1018
  refine stepE_only 14 rfl (by kernel_rfl) rfl (fun K hK => ?_)
  refine e_litR Hz m1019 28 (mm := 1) rfl (.cons rfl rfl (.cons (m1019.rd (i := 25) rfl) .nil) <| .cons rfl rfl (.cons (m1019.rd (i := 26) rfl) .nil) <| .cons rfl rfl (.cons (m1019.rd (i := 22) rfl) .nil) <| .cons rfl rfl (.cons (m1019.rd (i := 27) rfl) .nil) <| .nil) U32 fct4 rfl rfl rfl rfl rfl ?_
  clear Hz Az m1019; intro g1017 Az w1020 Hz m1020
  refine hK _ _ (m1020.to ⟨il, il, il, trivial⟩) ?_; clear hK K
  have m1021 := m1020.freezeR 28 rfl; clear m1020
  refine stepE_only 15 rfl (by kernel_rfl) rfl (fun K hK => ?_)
  refine e_call Hz Tryd.func32 rfl rfl rfl rfl (pjoin_is (ls := [magicB, encs [bl, sz], encs [fr + 1, to], encs [(its.length : Int)]]) (S := (magicB ++ encs [bl, sz, fr + 1, to, (its.length : Int)])) ((m1021.rd (i := 28) rfl).any) (by simp) (by simp only [sumLen, List.flatten_cons, List.flatten_nil, List.length_append, List.length_nil]; have q1 := encs_len [bl, sz]; have q2 := encs_len [fr + 1, to]; have q3 := encs_len [(its.length : Int)]; simp only [List.length_cons, List.length_nil, magicB] at *; omega) (by simp [encs])) ?_
  rintro e w1022 ⟨p1022, c1022, rfl, ho1022, hb1022⟩
  have m1023 := m1021.newN 29 hb1022 ho1022
  clear m1021
  clear hb1022 ho1022
  refine ⟨_, rfl, ?_⟩; clear Hz Az; intro Az Hz
  refine hK _ _ (m1023.to ⟨il, il, il, trivial⟩) ?_; clear hK K
  have m1025 := m1023.freezeN 29 rfl; clear m1023
  refine stepE_end 16 rfl (by kernel_rfl) rfl (by rfl) (fun K hK => ?_)
  refine e_call Hz Tryd.func31 rfl rfl rfl rfl (pseal_x _ _ _ (hT.below m1025.below h01) (Nat.le_trans h01 m1025.below.size) ((m1025.rd (i := 29) rfl).any) hHB hHL) ?_
  rintro e w1026 ⟨p1026, c1026, rfl, ho1026, hb1026⟩
  have m1027 := m1025.newN 30 hb1026 ho1026
  clear m1025
  clear hb1026 ho1026
  refine ⟨_, rfl, ?_⟩; clear Hz Az; intro Az Hz
  refine hK _ _ ?_; clear hK
  refine goB hP93 [17] 1 131071 262143 Hz (.assign rfl <| .nil) ?_
  clear Hz Az; intro Az Hz
  refine wpAnyE_done (by kernel_rfl) ?_ _
  show K4 _ _
  exact hC4 _ _ ⟨_, _, _, Hz.only [1, 5], m1027.ren [(8, 20), (9, 30)] (by decide)⟩
 have m1030 := m965.freezeN 24 rfl; clear m965
 refine e_call Hz Tryd.func33 rfl rfl rfl rfl (pnums_x [bl, sz] _ _ _ ((m1030.rd (i := 24) rfl).any) (by simp) (b63 (by intro x hx; simp only [List.mem_cons, List.not_mem_nil, or_false] at hx; omega))) ?_
 rintro e w1031 ⟨p1031, c1031, rfl, ho1031, hb1031⟩
 have m1032 := m1030.newN 25 hb1031 ho1031
 clear m1030
 clear hb1031 ho1031
 refine ⟨_, rfl, ?_⟩; clear Hz Az; intro Az Hz
 refine hK _ _ (fun _ => (m1032.to ⟨il, il, il, trivial⟩)) ?_; clear hK K
 refine d_two 0 13 rfl rfl (by kernel_rfl) rfl rfl (fun K hK => ?_) (fun K hK => ?_)
 ·
  refine e_litN Hz m1032 26 (k := .u8) rfl rfl U22 fct0 rfl rfl rfl rfl ?_
  clear Hz Az m1032; intro g1034 Az w1035 Hz m1035
  refine hK _ _ (fun _ => (m1035.to ⟨il, il, il, trivial⟩)) ?_; clear hK K
  refine d_two 1 13 rfl rfl (by kernel_rfl) rfl rfl (fun K hK => ?_) (fun K hK => ?_)
  ·
   refine e_cvN Hz m1035 26 rfl rfl U22 U5 rfl ?_
   clear Hz Az m1035; intro  Az w1036 Hz m1036
   refine hK _ _ (fun _ => (m1036.to ⟨il, il, il, trivial⟩)) ?_; clear hK K
   have m1037 := m1036.freezeN 23 rfl; clear m1036
   refine stepE_only 13 rfl (by kernel_rfl) rfl (fun K hK => ?_)
   refine e_call Hz Tryd.func33 rfl rfl rfl rfl (pnums_x [(its.length : Int)] _ _ _ ((m1037.rd (i := 23) rfl).any) (by simp) (b63 (by intro x hx; simp only [List.mem_cons, List.not_mem_nil, or_false] at hx; omega))) ?_
   rintro e w1038 ⟨p1038, c1038, rfl, ho1038, hb1038⟩
   have m1039 := m1037.newN 27 hb1038 ho1038
   clear m1037
   clear hb1038 ho1038
   refine ⟨_, rfl, ?_⟩; clear Hz Az; intro Az Hz
   refine hK _ _ (m1039.to ⟨il, il, il, trivial⟩) ?_; clear hK K
   have m1042 := m1039.freezeN 25 rfl; clear m1039
   have m1043 := m1042.freezeN 27 rfl; clear m1042
   refine stepE_only 14 rfl (by kernel_rfl) rfl (fun K hK => ?_)
   refine e_litR Hz m1043 28 (mm := 1) rfl (.cons rfl rfl (.cons (m1043.rd (i := 26) rfl) .nil) <| .cons rfl rfl (.cons (m1043.rd (i := 25) rfl) .nil) <| .cons rfl rfl (.cons (m1043.rd (i := 22) rfl) .nil) <| .cons rfl rfl (.cons (m1043.rd (i := 27) rfl) .nil) <| .nil) U32 fct4 rfl rfl rfl rfl rfl ?_
   clear Hz Az m1043; intro g1041 Az w1044 Hz m1044
   refine hK _ _ (m1044.to ⟨il, il, il, trivial⟩) ?_; clear hK K
   have m1045 := m1044.freezeR 28 rfl; clear m1044
   refine stepE_only 15 rfl (by kernel_rfl) rfl (fun K hK => ?_)
   refine e_call Hz Tryd.func32 rfl rfl rfl rfl (pjoin_is (ls := [magicB, encs [bl, sz], encs [fr + 1, to], encs [(its.length : Int)]]) (S := (magicB ++ encs [bl, sz, fr + 1, to, (its.length : Int)])) ((m1045.rd (i := 28) rfl).any) (by simp) (by simp only [sumLen, List.flatten_cons, List.flatten_nil, List.length_append, List.length_nil]; have q1 := encs_len [bl, sz]; have q2 := encs_len [fr + 1, to]; have q3 := encs_len [(its.length : Int)]; simp only [List.length_cons, List.length_nil, magicB] at *; omega) (by simp [encs])) ?_
   rintro e w1046 ⟨p1046, c1046, rfl, ho1046, hb1046⟩
   have m1047 := m1045.newN 29 hb1046 ho1046
   clear m1045
   clear hb1046 ho1046
   refine ⟨_, rfl, ?_⟩; clear Hz Az; intro Az Hz
   refine hK _ _ (m1047.to ⟨il, il, il, trivial⟩) ?_; clear hK K
   have m1049 := m1047.freezeN 29 rfl; clear m1047
   refine stepE_end 16 rfl (by kernel_rfl) rfl (by rfl) (fun K hK => ?_)
   refine e_call Hz Tryd.func31 rfl rfl rfl rfl (pseal_x _ _ _ (hT.below m1049.below h01) (Nat.le_trans h01 m1049.below.size) ((m1049.rd (i := 29) rfl).any) hHB hHL) ?_
   rintro e w1050 ⟨p1050, c1050, rfl, ho1050, hb1050⟩
   have m1051 := m1049.newN 30 hb1050 ho1050
   clear m1049
   clear hb1050 ho1050
   refine ⟨_, rfl, ?_⟩; clear Hz Az; intro Az Hz
   refine hK _ _ ?_; clear hK
   refine goB hP93 [17] 1 131071 262143 Hz (.assign rfl <| .nil) ?_
   clear Hz Az; intro Az Hz
   refine wpAnyE_done (by kernel_rfl) ?_ _
   show K4 _ _
   exact hC4 _ _ ⟨_, _, _, Hz.only [1, 5], m1051.ren [(8, 20), (9, 30)] (by decide)⟩
  have m1054 := m1035.freezeN 23 rfl; clear m1035
  refine e_call Hz Tryd.func33 rfl rfl rfl rfl (pnums_x [(its.length : Int)] _ _ _ ((m1054.rd (i := 23) rfl).any) (by simp) (b63 (by intro x hx; simp only [List.mem_cons, List.not_mem_nil, or_false] at hx; omega))) ?_
  rintro e w1055 ⟨p1055, c1055, rfl, ho1055, hb1055⟩
  have m1056 := m1054.newN 27 hb1055 ho1055
  clear m1054
  clear hb1055 ho1055
  refine ⟨_, rfl, ?_⟩; clear Hz Az; intro Az Hz
  refine hK _ _ (fun _ => (m1056.to ⟨il, il, il, trivial⟩)) ?_; clear hK K
  refine stepE_only 1 rfl (by kernel_rfl) rfl (fun K hK => ?_)
  refine e_cvN Hz m1056 26 rfl rfl U22 U5 rfl ?_
  clear Hz Az m1056; intro  Az w1058 Hz m1058
  refine hK _ _ (m1058.to ⟨il, il, il, trivial⟩) ?_; clear hK K
  have m1060 := m1058.freezeN 25 rfl; clear m1058
  have m1061 := m1060.freezeN 27 rfl; clear m1060
  refine stepE_only 14 rfl (by kernel_rfl) rfl (fun K hK => ?_)
  refine e_litR Hz m1061 28 (mm := 1) rfl (.cons rfl rfl (.cons (m1061.rd (i := 26) rfl) .nil) <| .cons rfl rfl (.cons (m1061.rd (i := 25) rfl) .nil) <| .cons rfl rfl (.cons (m1061.rd (i := 22) rfl) .nil) <| .cons rfl rfl (.cons (m1061.rd (i := 27) rfl) .nil) <| .nil) U32 fct4 rfl rfl rfl rfl rfl ?_
  clear Hz Az m1061; intro g1059 Az w1062 Hz m1062
  refine hK _ _ (m1062.to ⟨il, il, il, trivial⟩) ?_; clear hK K
  have m1063 := m1062.freezeR 28 rfl; clear m1062
  refine stepE_only 15 rfl (by kernel_rfl) rfl (fun K hK => ?_)
  refine e_call Hz Tryd.func32 rfl rfl rfl rfl (pjoin_is (ls := [magicB, encs [bl, sz], encs [fr + 1, to], encs [(its.length : Int)]]) (S := (magicB ++ encs [bl, sz, fr + 1, to, (its.length : Int)])) ((m1063.rd (i := 28) rfl).any) (by simp) (by simp only [sumLen, List.flatten_cons, List.flatten_nil, List.length_append, List.length_nil]; have q1 := encs_len [bl, sz]; have q2 := encs_len [fr + 1, to]; have q3 := encs_len [(its.length : Int)]; simp only [List.length_cons, List.length_nil, magicB] at *; omega) (by simp [encs])) ?_
  rintro e w1064 ⟨p1064, c1064, rfl, ho1064, hb1064⟩
  have m1065 := m1063.newN 29 hb1064 ho1064
  clear m1063
  clear hb1064 ho1064
  refine ⟨_, rfl, ?_⟩; clear Hz Az; intro Az Hz
  refine hK _ _ (m1065.to ⟨il, il, il, trivial⟩) ?_; clear hK K
  have m1067 := m1065.freezeN 29 rfl; clear m1065
  refine stepE_end 16 rfl (by kernel_rfl) rfl (by rfl) (fun K hK => ?_)
  refine e_call Hz Tryd.func31 rfl rfl rfl rfl (pseal_x _ _ _ (hT.below m1067.below h01) (Nat.le_trans h01 m1067.below.size) ((m1067.rd (i := 29) rfl).any) hHB hHL) ?_
  rintro e w1068 ⟨p1068, c1068, rfl, ho1068, hb1068⟩
  have m1069 := m1067.newN 30 hb1068 ho1068
  clear m1067
  clear hb1068 ho1068
  refine ⟨_, rfl, ?_⟩; clear Hz Az; intro Az Hz
  refine hK _ _ ?_; clear hK
  refine goB hP93 [17] 1 131071 262143 Hz (.assign rfl <| .nil) ?_
  clear Hz Az; intro Az Hz
  refine wpAnyE_done (by kernel_rfl) ?_ _
  show K4 _ _
  exact hC4 _ _ ⟨_, _, _, Hz.only [1, 5], m1069.ren [(8, 20), (9, 30)] (by decide)⟩
 have m1072 := m1032.freezeN 23 rfl; clear m1032
 refine e_call Hz Tryd.func33 rfl rfl rfl rfl (pnums_x [(its.length : Int)] _ _ _ ((m1072.rd (i := 23) rfl).any) (by simp) (b63 (by intro x hx; simp only [List.mem_cons, List.not_mem_nil, or_false] at hx; omega))) ?_
 rintro e w1073 ⟨p1073, c1073, rfl, ho1073, hb1073⟩
 have m1074 := m1072.newN 26 hb1073 ho1073
 clear m1072
 clear hb1073 ho1073
 refine ⟨_, rfl, ?_⟩; clear Hz Az; intro Az Hz
 refine hK _ _ (fun _ => (m1074.to ⟨il, il, il, trivial⟩)) ?_; clear hK K
 refine stepE_only 0 rfl (by kernel_rfl) rfl (fun K hK => ?_)
 refine e_litN Hz m1074 27 (k := .u8) rfl rfl U22 fct0 rfl rfl rfl rfl ?_
 clear Hz Az m1074; intro g1076 Az w1077 Hz m1077
 refine hK _ _ (m1077.to ⟨il, il, il, trivial⟩) ?_; clear hK K
 refine stepE_only 1 rfl (by kernel_rfl) rfl (fun K hK => ?_)
 refine e_cvN Hz m1077 27 rfl rfl U22 U5 rfl ?_
 clear Hz Az m1077; intro  Az w1078 Hz m1078
 refine hK _ _ (m1078.to ⟨il, il, il, trivial⟩) ?_; clear hK K
 have m1080 := m1078.freezeN 25 rfl; clear m1078
 have m1081 := m1080.freezeN 26 rfl; clear m1080
 refine stepE_only 14 rfl (by kernel_rfl) rfl (fun K hK => ?_)
 refine e_litR Hz m1081 28 (mm := 1) rfl (.cons rfl rfl (.cons (m1081.rd (i := 27) rfl) .nil) <| .cons rfl rfl (.cons (m1081.rd (i := 25) rfl) .nil) <| .cons rfl rfl (.cons (m1081.rd (i := 22) rfl) .nil) <| .cons rfl rfl (.cons (m1081.rd (i := 26) rfl) .nil) <| .nil) U32 fct4 rfl rfl rfl rfl rfl ?_
 clear Hz Az m1081; intro g1079 Az w1082 Hz m1082
 refine hK _ _ (m1082.to ⟨il, il, il, trivial⟩) ?_; clear hK K
 have m1083 := m1082.freezeR 28 rfl; clear m1082
 refine stepE_only 15 rfl (by kernel_rfl) rfl (fun K hK => ?_)
 refine e_call Hz Tryd.func32 rfl rfl rfl rfl (pjoin_is (ls := [magicB, encs [bl, sz], encs [fr + 1, to], encs [(its.length : Int)]]) (S := (magicB ++ encs [bl, sz, fr + 1, to, (its.length : Int)])) ((m1083.rd (i := 28) rfl).any) (by simp) (by simp only [sumLen, List.flatten_cons, List.flatten_nil, List.length_append, List.length_nil]; have q1 := encs_len [bl, sz]; have q2 := encs_len [fr + 1, to]; have q3 := encs_len [(its.length : Int)]; simp only [List.length_cons, List.length_nil, magicB] at *; omega) (by simp [encs])) ?_
 rintro e w1084 ⟨p1084, c1084, rfl, ho1084, hb1084⟩
 have m1085 := m1083.newN 29 hb1084 ho1084
 clear m1083
 clear hb1084 ho1084
 refine ⟨_, rfl, ?_⟩; clear Hz Az; intro Az Hz
 refine hK _ _ (m1085.to ⟨il, il, il, trivial⟩) ?_; clear hK K
 have m1087 := m1085.freezeN 29 rfl; clear m1085
 refine stepE_end 16 rfl (by kernel_rfl) rfl (by rfl) (fun K hK => ?_)
 refine e_call Hz Tryd.func31 rfl rfl rfl rfl (pseal_x _ _ _ (hT.below m1087.below h01) (Nat.le_trans h01 m1087.below.size) ((m1087.rd (i := 29) rfl).any) hHB hHL) ?_
 rintro e w1088 ⟨p1088, c1088, rfl, ho1088, hb1088⟩
 have m1089 := m1087.newN 30 hb1088 ho1088
 clear m1087
 clear hb1088 ho1088
 refine ⟨_, rfl, ?_⟩; clear Hz Az; intro Az Hz
 refine hK _ _ ?_; clear hK
 refine goB hP93 [17] 1 131071 262143 Hz (.assign rfl <| .nil) ?_
 clear Hz Az; intro Az Hz
 refine wpAnyE_done (by kernel_rfl) ?_ _
 show K4 _ _
 exact hC4 _ _ ⟨_, _, _, Hz.only [1, 5], m1089.ren [(8, 20), (9, 30)] (by decide)⟩
end Go.Proofs.YtodiklpfdfjikaaDoor.K
