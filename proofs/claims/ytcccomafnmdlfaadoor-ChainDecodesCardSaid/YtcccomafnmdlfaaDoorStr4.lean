/- stream: the bytes of a stream that may be: the program's Put. -/
import Derived.Test.YtcccomafnmdlfaaDoorStr4m
import Derived.Test.YtcccomafnmdlfaaDoorG5
namespace Go.Proofs.YtcccomafnmdlfaaDoor.K
open Go.ChangeShapes Go.WideShapes Go.ChangeAt Go.RowKit
set_option linter.unusedVariables false
set_option linter.unusedSimpArgs false
set_option maxRecDepth 100000
set_option maxHeartbeats 4000000
theorem sput_yes (bl sz fr to : Int) (its : List (Int × List Int)) (pi : Option Addr) (ni ci : Nat) (w0 : World) (hT : TabOk w0) (h01 : 1 ≤ w0.heap.size) (h1 : Rd (fun _ => True) w0 (.slice pi ni ci) (.l 2 (its.map itD))) (hs : StreamOk bl sz fr to its) (hby : ∀ e ∈ its, BytesL e.2) :
   Calls Tryd.prog 42 #[.agg #[.int .i64 bl, .int .i64 sz, .int .i64 fr, .int .i64 to, .slice pi ni ci]] w0 fun e w' => ∃ (p : Option Addr) (c : Nat), e = .returned (.tuple #[.slice p (strB bl sz fr to its).length c, .int .i64 0]) ∧ w'.ownsRow w0.heap.size 5 1 (.slice p (strB bl sz fr to its).length c) (strB bl sz fr to its).length ((strB bl sz fr to its).map (Value.int .u8)) ∧ Below w0.heap.size w0 w' := by
 obtain rfl : ni = its.length := by obtain ⟨pq, c9, hv, _⟩ := h1.l_shape; injection hv with _ e2 _; rw [List.length_map] at e2; exact e2
 refine ent1 Tryd.func42 rfl Tryd.ntmps42 fun Az Hz => ?_
 have m0 := MemOk.start (fun _ => True) w0
 have hil : its.length ≤ 256 := hs.len
 obtain ⟨⟨b1, b2⟩, ⟨b3, b4⟩, b5, ⟨b6, b7⟩, b8⟩ := hs.head
 have hHB : BytesL (magicB ++ encs [bl, sz, fr + 1, to, (its.length : Int)]) := bytesApp magicBytes (encsBytes (by intro x hx; simp only [List.mem_cons, List.not_mem_nil, or_false] at hx; omega))
 have hHL : (magicB ++ encs [bl, sz, fr + 1, to, (its.length : Int)]).length ≤ 10000 := by have := headB_len bl sz fr to its.length; rw [headB, sealC_len] at this; omega
 have hbl : ∀ k, k ≤ its.length → (headB bl sz fr to its.length ++ itemsB (its.take k)).length ≤ 12000 := fun k hk => by
   have q1 := headB_len bl sz fr to its.length
   have q2 := itemsB_len (its.take k) (fun e he => by have := (hs.it e (List.mem_of_mem_take he)).2; omega)
   rw [List.length_take] at q2
   rw [List.length_append]; omega
 refine zsr fun K0 hK0 => ?_
 refine plz (e_box Hz m0 20 (cs := [_, _, _, _, _]) rfl rfl rfl fun g1 Az w2 Hz m2 _ _ => ?_)
 refine gz hK0 Hz (.assign rfl <| .assign rfl <| .nil) fun Az Hz => ?_
 refine wsk fun K1 hK1 => ?_
 refine zsr fun K2 hK2 => ?_
 refine goCh Hz (.loadBR m2 (i := 20) rfl rfl U38 rfl fct2 (by simp) (by dsimp only [List.drop, List.take] <;> rfl) .nil) fun Az Hz => ?_
 refine plz (ecb Hz Tryd.func28 rfl m2 (sright_yes bl sz fr to its _ _ _ _ ((h1.now' m2 rfl).any) hs) fun Az w7 Hz m8 => ?_)
 refine gz hK2 Hz (.not rfl .nil) fun Az Hz => ?_
 refine wcf Hz ?_
 refine zss (hK1 _ _ ?_)
 refine wsk fun K3 hK3 => ?_
 have hC3 : ∀ (a : Act) (w : World), (∃ (B : Nat) (p4 : Option Addr) (c4 : Nat), Has 60 [(1, .pointer (some ⟨B, 0, none⟩)), (4, .slice p4 (encs [fr + 1, to]).length c4)] a ∧ MemOk (cxt w0) w0 [(8, .box B 38 [.int .i64 bl, .int .i64 sz, .int .i64 fr, .int .i64 to, .slice pi its.length ci]), (9, .dat (.slice p4 (encs [fr + 1, to]).length c4) (.ns .u8 (encs [fr + 1, to])))] w) → K3 a w := by
   clear Hz m8
   rintro Az w11 ⟨B, p4, c4, Hz, m11⟩
   refine hK3 _ _ ?_
   refine wsk fun K4 hK4 => ?_
   have hC4 : ∀ (a : Act) (w : World), (∃ (B : Nat) (p : Option Addr) (c : Nat), Has 60 [(1, .pointer (some ⟨B, 0, none⟩)), (5, .slice p (headB bl sz fr to its.length).length c)] a ∧ MemOk (cxt w0) w0 [(8, .box B 38 [.int .i64 bl, .int .i64 sz, .int .i64 fr, .int .i64 to, .slice pi its.length ci]), (9, .num (.slice p (headB bl sz fr to its.length).length c) 5 .u8 (headB bl sz fr to its.length))] w) → K4 a w := by
     clear Hz m11
     rintro Az w12 ⟨B, p, c, Hz, m12⟩
     refine hK4 _ _ ?_
     refine wsk fun K5 hK5 => ?_
     refine regS Hz (.fa 4 rfl U38 <| .lb m12 8 U36 rfl rfl rfl <| .len rfl U36 <| .move rfl .nil) fun Az Hz => ?_
     refine wp_block ?_
     refine wp_loop_ghost (fun g a w => ∃ (k B : Nat) (b : List Int) (p : Option Addr) (c : Nat), k ≤ its.length ∧ g = its.length - k ∧ b = headB bl sz fr to its.length ++ itemsB (its.take k) ∧ Has 60 [(1, .pointer (some ⟨B, 0, none⟩)), (5, .slice p b.length c), (36, .slice pi its.length ci), (37, .int .i64 its.length), (38, .int .i64 k)] a ∧ MemOk (cxt w0) w0 [(8, .box B 38 [.int .i64 bl, .int .i64 sz, .int .i64 fr, .int .i64 to, .slice pi its.length ci]), (9, .num (.slice p b.length c) 5 .u8 b)] w) (its.length) ?_ ?_
     · exact ⟨0, _, _, _, _, Nat.zero_le _, rfl, (List.append_nil _).symm, Hz.only [1, 5, 36, 37, 38], m12.ren [(8, 8), (9, 9)] (by decide)⟩
     clear Hz m12
     rintro g Az w17 ⟨k, B, b, p, c, hkl, hg, hbe, Hz, m17⟩
     refine regS Hz (.lss rfl rfl .nil) fun Az Hz => ?_
     refine wsk fun K6 hK6 => ?_
     refine bc Hz 39 ?_ ?_
     ·
      intro hb19 Hz; try simp only [QQ, Qax] at hb19
      have hk : k < its.length := by have := hb19; first | omega | (simp at this; omega)
      obtain ⟨⟨xb, xd⟩, hes⟩ : ∃ e, its[k]? = some e := ⟨_, List.getElem?_eq_getElem hk⟩
      have hx := hs.it _ (List.mem_of_getElem? hes)
      have hxy := hby _ (List.mem_of_getElem? hes)
      dsimp only at hx hxy
      have hEB : BytesL (enc xb ++ xd) := bytesApp (encBytes (by omega)) hxy
      have hEL : (enc xb ++ xd).length ≤ 10000 := by rw [List.length_append]; have := (enc_len xb).1; omega
      refine wct Hz ?_
      refine zss (hK6 _ _ ?_)
      refine wsk fun K7 hK7 => ?_
      refine wp_block ?_
      refine zsr fun K8 hK8 => ?_
      obtain ⟨gx21, ox21, vx21, hp21, hl21, hR21, hrg21⟩ := h1.extA (k) (r := [.v (.int .i64 xb), .ns .u8 xd]) (itD_get hes)
      revert Hz
      cases hp21
      rcases hR21 with _ | ⟨hd21_0, _ | ⟨hd21_1, _ | _⟩⟩
      obtain rfl := hd21_0.v_out
      clear hd21_0
      obtain ⟨p22, c22, hv22, hw22⟩ := hd21_1.ns_shape; subst hv22
      intro Hz
      refine goCh Hz (.c rfl (fun _ h => y_idx h rfl rfl U36 fct1 (k) rfl hk) <| .loadAt (hrg21 m17 rfl) rfl U48 rfl fct1 .nil) fun Az Hz => ?_
      refine plz (e_alloc Hz m17 301 fct3 rfl fun g25 Az w26 Hz m26 _ _ => ?_)
      refine plz (stw Hz m26 301 fct1 fun w27 m27 _ => ?_)
      refine znl (hK8 _ _ ?_)
      have m28 := m27.oz [8, 9, 301]
      refine region_p 10 (B := [(8, _), (9, _), (301, _)]) (m28.to ⟨il, il, il, trivial⟩) m28 (by kernel_rfl) (fun w29 hP29 m29 => ?_); clear m28
      refine goR hP29 [0, 1, 2, 5, 6] [2, 6] 5 0 103 Hz (m29.to ⟨il, il, il, trivial⟩) (.move rfl <| .fa 0 rfl U48 <| .lb hh 301 U3 rfl rfl rfl <| .fa 1 rfl U48 <| .lb hh 301 U22 rfl rfl rfl .nil) fun Az Hz => ?_
      refine so 3 ?_
      refine e_litN Hz m29 302 (k := .i64) rfl rfl U27 fct32 rfl rfl rfl rfl fun g35 Az w36 Hz m36 => ?_
      refine ⟨m36.to ⟨il, il, il, trivial⟩, ?_⟩
      have m37 := m36.freezeN 302 rfl
      refine so 4 ?_
      refine ecn Hz Tryd.func71 rfl m37 303 (pnums_x [xb] _ _ _ ((m37.rd (i := 302) rfl).any) (by simp) (b63 (by intro x hx; simp only [List.mem_cons, List.not_mem_nil, or_false] at hx; omega))) fun p38 c38 Az w38 Hz m39 => ?_
      refine ⟨m39.to ⟨il, il, il, trivial⟩, ?_⟩
      have m42 := m39.freezeN 303 rfl
      refine so 7 ?_
      refine e_litR Hz m42 304 (mm := 1) rfl (.cons rfl rfl (.cons (m42.rd (i := 303) rfl) .nil) <| .cons rfl rfl (.cons (m42.old hd21_1) .nil) .nil) U23 fct5 rfl rfl rfl rfl rfl fun g41 Az w43 Hz m43 => ?_
      refine ⟨m43.to ⟨il, il, il, trivial⟩, ?_⟩
      have m44 := m43.freezeR 304 rfl
      refine so 8 ?_
      refine ecn Hz Tryd.func70 rfl m44 305 (pjoin_is (ls := [encs [xb], xd]) (S := (enc xb ++ xd)) ((m44.rd (i := 304) rfl).any) (by simp) (by simp only [sumLen, List.flatten_cons, List.flatten_nil, List.length_append, List.length_nil]; have q1 := encs_len [xb]; simp only [List.length_cons, List.length_nil] at *; omega) (by simp [encs])) fun p45 c45 Az w45 Hz m46 => ?_
      refine ⟨m46.to ⟨il, il, il, trivial⟩, ?_⟩
      have m48 := m46.freezeN 305 rfl
      refine so 9 ?_
      refine ecn Hz Tryd.func69 rfl m48 306 (pseal_x _ _ _ (hT.below m48.below h01) (Nat.le_trans h01 m48.below.size) ((m48.rd (i := 305) rfl).any) hEB hEL) fun p49 c49 Az w49 Hz m50 => ?_
      refine ⟨m50.to ⟨il, il, il, trivial⟩, ?_⟩
      refine se 10 ?_
      refine e_appN Hz m50 9 rfl rfl rfl (m50.numsO (i := 306) rfl) U22 fct4 (by decide) (by have q1 := hbl k hkl; rw [← hbe] at q1; rw [sealC_len]; omega) rfl fun p52 c52 Az w53 Hz m53 => ?_
      refine goB hP29 [11] 1 2047 4095 Hz (.assign rfl .nil) fun Az Hz => ?_
      refine wpAnyE_done (by kernel_rfl) ?_ _
      refine hK7 _ _ ?_
      replace Hz := Hz.oz [1, 5, 36, 37, 38]
      refine wp_region_lit ?_
      refine goCh Hz (.inc (k + 1) <| .move rfl .nil) fun Az Hz => ?_
      refine wpList_nil ?_
      show ∃ n', n' < _ ∧ _
      have hE : b ++ sealC (enc xb ++ xd) = headB bl sz fr to its.length ++ itemsB (its.take (k + 1)) := by rw [hbe, itemsB_snoc hes, List.append_assoc]; rfl
      exact ⟨its.length - (k + 1), by omega, k + 1, _, _, _, _, by omega, rfl, hE, Hz.only [1, 5, 36, 37, 38], m53.ren [(8, 8), (9, 9)] (by decide)⟩
     intro hb19 Hz; try simp only [QQ, Qax] at hb19
     have hke : k = its.length := by have := hb19; first | omega | (simp at this; omega)
     rw [hke, List.take_length] at hbe
     have hBB : BytesL b := by rw [hbe]; exact bodyBytes hs hby
     have hBL : b.length ≤ 12000 := by rw [hbe]; exact body_len hs
     refine wcf Hz ?_
     refine wp_exit ?_
     refine hK5 _ _ ?_
     refine zsr fun K9 hK9 => ?_
     refine goCh Hz (.move rfl <| .move rfl .nil) fun Az Hz => ?_
     refine plz (e_litB Hz m17 300 rfl U23 fct5 rfl fun g62 Az w63 Hz m63 => ?_)
     refine plz (ecb Hz Tryd.func64 rfl m63 (psum_b (hT.below m63.below h01) (m63.ok 300 _ rfl).1 (m63.numsO (i := 9) rfl) hBB (by omega)) fun Az w64 Hz m65 => ?_)
     refine plz (ecn Hz Tryd.func63 rfl m65 301 (pfour_x _ _ (sumC_range _)) fun p67 c67 Az w67 Hz m68 => ?_)
     refine plz (e_appN Hz m68 9 rfl rfl rfl (m68.numsO (i := 301) rfl) U22 fct4 (by decide) (by rw [fourC_len]; omega) rfl fun p70 c70 Az w71 Hz m71 => ?_)
     refine gz hK9 Hz (.assign rfl <| .assign rfl <| .nil) fun Az Hz => ?_
     refine rt2 Hz ?_
     revert Hz
     subst hbe
     intro Hz
     exact ⟨_, _, rfl, m71.ok 9 _ rfl, m71.below⟩
   have m74 := m11.oz [8, 9]
   refine region_p 16 (B := [(8, _)]) (m74.to ⟨il, trivial⟩) m74 (by kernel_rfl) (fun w75 hP75 m75 => ?_); clear m74
   refine dsuf (I := fun a w => ∃ (p19 p25 p31 : Option Addr) (c19 c25 c31 : Nat), Has 60 [(1, .pointer (some ⟨B, 0, none⟩)), (19, .slice p19 (magicB).length c19), (25, .slice p25 (encs [bl, sz]).length c25), (26, .slice p4 (encs [fr + 1, to]).length c4), (31, .slice p31 (encs [(its.length : Int)]).length c31)] a ∧ MemOk (cxt w0) w0 [(8, .box B 38 [.int .i64 bl, .int .i64 sz, .int .i64 fr, .int .i64 to, .slice pi its.length ci]), (9, .dat (.slice p4 (encs [fr + 1, to]).length c4) (.ns .u8 (encs [fr + 1, to]))), (10, .dat (.slice p19 (magicB).length c19) (.ns .u8 (magicB))), (11, .num (.slice p25 (encs [bl, sz]).length c25) 5 .u8 (encs [bl, sz])), (12, .num (.slice p31 (encs [(its.length : Int)]).length c31) 5 .u8 (encs [(its.length : Int)]))] w) 4 16383 ?_ fun hD => ?_
   ·
    clear Hz m75
    rintro Az w76 ⟨p19, p25, p31, c19, c25, c31, Hz, m76⟩
    have m78 := m76.freezeN 11 rfl
    have m79 := m78.freezeN 12 rfl
    refine so 14 ?_
    refine e_litR Hz m79 200 (mm := 1) rfl (.cons rfl rfl (.cons (m79.rd (i := 10) rfl) .nil) <| .cons rfl rfl (.cons (m79.rd (i := 11) rfl) .nil) <| .cons rfl rfl (.cons (m79.rd (i := 9) rfl) .nil) <| .cons rfl rfl (.cons (m79.rd (i := 12) rfl) .nil) .nil) U23 fct5 rfl rfl rfl rfl rfl fun g77 Az w80 Hz m80 => ?_
    refine ⟨m80.to ⟨il, trivial⟩, ?_⟩
    have m81 := m80.freezeR 200 rfl
    refine so 15 ?_
    refine ecn Hz Tryd.func70 rfl m81 201 (pjoin_is (ls := [magicB, encs [bl, sz], encs [fr + 1, to], encs [(its.length : Int)]]) (S := (magicB ++ encs [bl, sz, fr + 1, to, (its.length : Int)])) ((m81.rd (i := 200) rfl).any) (by simp) (by simp only [sumLen, List.flatten_cons, List.flatten_nil, List.length_append, List.length_nil]; have q1 := encs_len [bl, sz]; have q2 := encs_len [fr + 1, to]; have q3 := encs_len [(its.length : Int)]; simp only [List.length_cons, List.length_nil, magicB] at *; omega) (by simp [encs])) fun p82 c82 Az w82 Hz m83 => ?_
    refine ⟨m83.to ⟨il, trivial⟩, ?_⟩
    have m85 := m83.freezeN 201 rfl
    refine se 16 ?_
    refine ecn Hz Tryd.func69 rfl m85 202 (pseal_x _ _ _ (hT.below m85.below h01) (Nat.le_trans h01 m85.below.size) ((m85.rd (i := 201) rfl).any) hHB hHL) fun p86 c86 Az w86 Hz m87 => ?_
    refine goB hP75 [17] 1 131071 262143 Hz (.assign rfl .nil) fun Az Hz => ?_
    refine wpAnyE_done (by kernel_rfl) ?_ _
    show K4 _ _
    exact hC4 _ _ ⟨_, _, _, Hz.only [1, 5], m87.ren [(8, 8), (9, 202)] (by decide)⟩
   refine goR hP75 [2, 3, 4, 5, 8, 9, 10, 11] [3, 5, 10] 8 0 3900 Hz (m75.to ⟨il, trivial⟩) (.fa 0 rfl U38 <| .lb hh 8 U3 rfl rfl rfl <| .fa 1 rfl U38 <| .lb hh 8 U3 rfl rfl rfl <| .move rfl <| .fa 4 rfl U38 <| .lb hh 8 U36 rfl rfl rfl <| .len rfl U36 .nil) fun Az Hz => ?_
   refine dth 0 6 12 ?_ ?_ ?_
   ·
    refine e_litN Hz m75 100 (k := .u8) rfl rfl U22 fct4 rfl rfl rfl rfl fun g98 Az w99 Hz m99 => ?_
    refine ⟨fun _ => (m99.to ⟨il, trivial⟩), ?_⟩
    refine dth 1 6 12 ?_ ?_ ?_
    ·
     refine e_cvN Hz m99 100 rfl rfl U22 U5 rfl fun Az w100 Hz m100 => ?_
     refine ⟨fun _ => (m100.to ⟨il, trivial⟩), ?_⟩
     refine dtw 6 12 ?_ ?_
     ·
      refine e_litN Hz m100 101 (k := .i64) rfl rfl U27 fct32 rfl rfl rfl rfl fun g101 Az w102 Hz m102 => ?_
      refine ⟨fun _ => (m102.to ⟨il, trivial⟩), ?_⟩
      refine dtw 7 12 ?_ ?_
      ·
       have m103 := m102.freezeN 101 rfl
       refine ecn Hz Tryd.func71 rfl m103 102 (pnums_x [bl, sz] _ _ _ ((m103.rd (i := 101) rfl).any) (by simp) (b63 (by intro x hx; simp only [List.mem_cons, List.not_mem_nil, or_false] at hx; omega))) fun p104 c104 Az w104 Hz m105 => ?_
       refine ⟨fun _ => (m105.to ⟨il, trivial⟩), ?_⟩
       refine so 12 ?_
       refine e_litN Hz m105 103 (k := .i64) rfl rfl U27 fct32 rfl rfl rfl rfl fun g107 Az w108 Hz m108 => ?_
       refine ⟨m108.to ⟨il, trivial⟩, ?_⟩
       have m109 := m108.freezeN 103 rfl
       refine so 13 ?_
       refine ecn Hz Tryd.func71 rfl m109 104 (pnums_x [(its.length : Int)] _ _ _ ((m109.rd (i := 103) rfl).any) (by simp) (b63 (by intro x hx; simp only [List.mem_cons, List.not_mem_nil, or_false] at hx; omega))) fun p110 c110 Az w110 Hz m111 => ?_
       refine ⟨m111.to ⟨il, trivial⟩, ?_⟩
       refine ldl 16383 ?_
       exact hD _ _ ⟨_, _, _, _, _, _, Hz.only [1, 19, 25, 26, 31], m111.ren [(8, 8), (9, 9), (10, 100), (11, 102), (12, 104)] (by decide)⟩
      refine e_litN Hz m102 102 (k := .i64) rfl rfl U27 fct32 rfl rfl rfl rfl fun g113 Az w114 Hz m114 => ?_
      refine ⟨fun _ => (m114.to ⟨il, trivial⟩), ?_⟩
      have m115 := m114.freezeN 101 rfl
      refine so 7 ?_
      refine ecn Hz Tryd.func71 rfl m115 103 (pnums_x [bl, sz] _ _ _ ((m115.rd (i := 101) rfl).any) (by simp) (b63 (by intro x hx; simp only [List.mem_cons, List.not_mem_nil, or_false] at hx; omega))) fun p116 c116 Az w116 Hz m117 => ?_
      refine ⟨m117.to ⟨il, trivial⟩, ?_⟩
      have m119 := m117.freezeN 102 rfl
      refine so 13 ?_
      refine ecn Hz Tryd.func71 rfl m119 104 (pnums_x [(its.length : Int)] _ _ _ ((m119.rd (i := 102) rfl).any) (by simp) (b63 (by intro x hx; simp only [List.mem_cons, List.not_mem_nil, or_false] at hx; omega))) fun p120 c120 Az w120 Hz m121 => ?_
      refine ⟨m121.to ⟨il, trivial⟩, ?_⟩
      refine ldl 16383 ?_
      exact hD _ _ ⟨_, _, _, _, _, _, Hz.only [1, 19, 25, 26, 31], m121.ren [(8, 8), (9, 9), (10, 100), (11, 103), (12, 104)] (by decide)⟩
     refine e_litN Hz m100 101 (k := .i64) rfl rfl U27 fct32 rfl rfl rfl rfl fun g123 Az w124 Hz m124 => ?_
     refine ⟨fun _ => (m124.to ⟨il, trivial⟩), ?_⟩
     refine so 6 ?_
     refine e_litN Hz m124 102 (k := .i64) rfl rfl U27 fct32 rfl rfl rfl rfl fun g125 Az w126 Hz m126 => ?_
     refine ⟨m126.to ⟨il, trivial⟩, ?_⟩
     have m127 := m126.freezeN 102 rfl
     refine so 7 ?_
     refine ecn Hz Tryd.func71 rfl m127 103 (pnums_x [bl, sz] _ _ _ ((m127.rd (i := 102) rfl).any) (by simp) (b63 (by intro x hx; simp only [List.mem_cons, List.not_mem_nil, or_false] at hx; omega))) fun p128 c128 Az w128 Hz m129 => ?_
     refine ⟨m129.to ⟨il, trivial⟩, ?_⟩
     have m131 := m129.freezeN 101 rfl
     refine so 13 ?_
     refine ecn Hz Tryd.func71 rfl m131 104 (pnums_x [(its.length : Int)] _ _ _ ((m131.rd (i := 101) rfl).any) (by simp) (b63 (by intro x hx; simp only [List.mem_cons, List.not_mem_nil, or_false] at hx; omega))) fun p132 c132 Az w132 Hz m133 => ?_
     refine ⟨m133.to ⟨il, trivial⟩, ?_⟩
     refine ldl 16383 ?_
     exact hD _ _ ⟨_, _, _, _, _, _, Hz.only [1, 19, 25, 26, 31], m133.ren [(8, 8), (9, 9), (10, 100), (11, 103), (12, 104)] (by decide)⟩
    ·
     refine e_litN Hz m99 101 (k := .i64) rfl rfl U27 fct32 rfl rfl rfl rfl fun g135 Az w136 Hz m136 => ?_
     refine ⟨fun _ => (m136.to ⟨il, trivial⟩), ?_⟩
     refine dth 1 7 12 ?_ ?_ ?_
     ·
      refine e_cvN Hz m136 100 rfl rfl U22 U5 rfl fun Az w137 Hz m137 => ?_
      refine ⟨fun _ => (m137.to ⟨il, trivial⟩), ?_⟩
      refine dtw 7 12 ?_ ?_
      ·
       have m138 := m137.freezeN 101 rfl
       refine ecn Hz Tryd.func71 rfl m138 102 (pnums_x [bl, sz] _ _ _ ((m138.rd (i := 101) rfl).any) (by simp) (b63 (by intro x hx; simp only [List.mem_cons, List.not_mem_nil, or_false] at hx; omega))) fun p139 c139 Az w139 Hz m140 => ?_
       refine ⟨fun _ => (m140.to ⟨il, trivial⟩), ?_⟩
       refine so 12 ?_
       refine e_litN Hz m140 103 (k := .i64) rfl rfl U27 fct32 rfl rfl rfl rfl fun g142 Az w143 Hz m143 => ?_
       refine ⟨m143.to ⟨il, trivial⟩, ?_⟩
       have m144 := m143.freezeN 103 rfl
       refine so 13 ?_
       refine ecn Hz Tryd.func71 rfl m144 104 (pnums_x [(its.length : Int)] _ _ _ ((m144.rd (i := 103) rfl).any) (by simp) (b63 (by intro x hx; simp only [List.mem_cons, List.not_mem_nil, or_false] at hx; omega))) fun p145 c145 Az w145 Hz m146 => ?_
       refine ⟨m146.to ⟨il, trivial⟩, ?_⟩
       refine ldl 16383 ?_
       exact hD _ _ ⟨_, _, _, _, _, _, Hz.only [1, 19, 25, 26, 31], m146.ren [(8, 8), (9, 9), (10, 100), (11, 102), (12, 104)] (by decide)⟩
      refine e_litN Hz m137 102 (k := .i64) rfl rfl U27 fct32 rfl rfl rfl rfl fun g148 Az w149 Hz m149 => ?_
      refine ⟨fun _ => (m149.to ⟨il, trivial⟩), ?_⟩
      have m150 := m149.freezeN 101 rfl
      refine so 7 ?_
      refine ecn Hz Tryd.func71 rfl m150 103 (pnums_x [bl, sz] _ _ _ ((m150.rd (i := 101) rfl).any) (by simp) (b63 (by intro x hx; simp only [List.mem_cons, List.not_mem_nil, or_false] at hx; omega))) fun p151 c151 Az w151 Hz m152 => ?_
      refine ⟨m152.to ⟨il, trivial⟩, ?_⟩
      have m154 := m152.freezeN 102 rfl
      refine so 13 ?_
      refine ecn Hz Tryd.func71 rfl m154 104 (pnums_x [(its.length : Int)] _ _ _ ((m154.rd (i := 102) rfl).any) (by simp) (b63 (by intro x hx; simp only [List.mem_cons, List.not_mem_nil, or_false] at hx; omega))) fun p155 c155 Az w155 Hz m156 => ?_
      refine ⟨m156.to ⟨il, trivial⟩, ?_⟩
      refine ldl 16383 ?_
      exact hD _ _ ⟨_, _, _, _, _, _, Hz.only [1, 19, 25, 26, 31], m156.ren [(8, 8), (9, 9), (10, 100), (11, 103), (12, 104)] (by decide)⟩
     ·
      have m158 := m136.freezeN 101 rfl
      refine ecn Hz Tryd.func71 rfl m158 102 (pnums_x [bl, sz] _ _ _ ((m158.rd (i := 101) rfl).any) (by simp) (b63 (by intro x hx; simp only [List.mem_cons, List.not_mem_nil, or_false] at hx; omega))) fun p159 c159 Az w159 Hz m160 => ?_
      refine ⟨fun _ => (m160.to ⟨il, trivial⟩), ?_⟩
      refine dtw 1 12 ?_ ?_
      ·
       refine e_cvN Hz m160 100 rfl rfl U22 U5 rfl fun Az w162 Hz m162 => ?_
       refine ⟨fun _ => (m162.to ⟨il, trivial⟩), ?_⟩
       refine so 12 ?_
       refine e_litN Hz m162 103 (k := .i64) rfl rfl U27 fct32 rfl rfl rfl rfl fun g163 Az w164 Hz m164 => ?_
       refine ⟨m164.to ⟨il, trivial⟩, ?_⟩
       have m165 := m164.freezeN 103 rfl
       refine so 13 ?_
       refine ecn Hz Tryd.func71 rfl m165 104 (pnums_x [(its.length : Int)] _ _ _ ((m165.rd (i := 103) rfl).any) (by simp) (b63 (by intro x hx; simp only [List.mem_cons, List.not_mem_nil, or_false] at hx; omega))) fun p166 c166 Az w166 Hz m167 => ?_
       refine ⟨m167.to ⟨il, trivial⟩, ?_⟩
       refine ldl 16383 ?_
       exact hD _ _ ⟨_, _, _, _, _, _, Hz.only [1, 19, 25, 26, 31], m167.ren [(8, 8), (9, 9), (10, 100), (11, 102), (12, 104)] (by decide)⟩
      refine e_litN Hz m160 103 (k := .i64) rfl rfl U27 fct32 rfl rfl rfl rfl fun g169 Az w170 Hz m170 => ?_
      refine ⟨fun _ => (m170.to ⟨il, trivial⟩), ?_⟩
      refine dtw 1 13 ?_ ?_
      ·
       refine e_cvN Hz m170 100 rfl rfl U22 U5 rfl fun Az w171 Hz m171 => ?_
       refine ⟨fun _ => (m171.to ⟨il, trivial⟩), ?_⟩
       have m172 := m171.freezeN 103 rfl
       refine so 13 ?_
       refine ecn Hz Tryd.func71 rfl m172 104 (pnums_x [(its.length : Int)] _ _ _ ((m172.rd (i := 103) rfl).any) (by simp) (b63 (by intro x hx; simp only [List.mem_cons, List.not_mem_nil, or_false] at hx; omega))) fun p173 c173 Az w173 Hz m174 => ?_
       refine ⟨m174.to ⟨il, trivial⟩, ?_⟩
       refine ldl 16383 ?_
       exact hD _ _ ⟨_, _, _, _, _, _, Hz.only [1, 19, 25, 26, 31], m174.ren [(8, 8), (9, 9), (10, 100), (11, 102), (12, 104)] (by decide)⟩
      have m176 := m170.freezeN 103 rfl
      refine ecn Hz Tryd.func71 rfl m176 104 (pnums_x [(its.length : Int)] _ _ _ ((m176.rd (i := 103) rfl).any) (by simp) (b63 (by intro x hx; simp only [List.mem_cons, List.not_mem_nil, or_false] at hx; omega))) fun p177 c177 Az w177 Hz m178 => ?_
      refine ⟨fun _ => (m178.to ⟨il, trivial⟩), ?_⟩
      refine so 1 ?_
      refine e_cvN Hz m178 100 rfl rfl U22 U5 rfl fun Az w180 Hz m180 => ?_
      refine ⟨m180.to ⟨il, trivial⟩, ?_⟩
      refine ldl 16383 ?_
      exact hD _ _ ⟨_, _, _, _, _, _, Hz.only [1, 19, 25, 26, 31], m180.ren [(8, 8), (9, 9), (10, 100), (11, 102), (12, 104)] (by decide)⟩
     refine e_litN Hz m136 102 (k := .i64) rfl rfl U27 fct32 rfl rfl rfl rfl fun g181 Az w182 Hz m182 => ?_
     refine ⟨fun _ => (m182.to ⟨il, trivial⟩), ?_⟩
     refine dtw 1 7 ?_ ?_
     ·
      refine e_cvN Hz m182 100 rfl rfl U22 U5 rfl fun Az w183 Hz m183 => ?_
      refine ⟨fun _ => (m183.to ⟨il, trivial⟩), ?_⟩
      have m184 := m183.freezeN 101 rfl
      refine so 7 ?_
      refine ecn Hz Tryd.func71 rfl m184 103 (pnums_x [bl, sz] _ _ _ ((m184.rd (i := 101) rfl).any) (by simp) (b63 (by intro x hx; simp only [List.mem_cons, List.not_mem_nil, or_false] at hx; omega))) fun p185 c185 Az w185 Hz m186 => ?_
      refine ⟨m186.to ⟨il, trivial⟩, ?_⟩
      have m188 := m186.freezeN 102 rfl
      refine so 13 ?_
      refine ecn Hz Tryd.func71 rfl m188 104 (pnums_x [(its.length : Int)] _ _ _ ((m188.rd (i := 102) rfl).any) (by simp) (b63 (by intro x hx; simp only [List.mem_cons, List.not_mem_nil, or_false] at hx; omega))) fun p189 c189 Az w189 Hz m190 => ?_
      refine ⟨m190.to ⟨il, trivial⟩, ?_⟩
      refine ldl 16383 ?_
      exact hD _ _ ⟨_, _, _, _, _, _, Hz.only [1, 19, 25, 26, 31], m190.ren [(8, 8), (9, 9), (10, 100), (11, 103), (12, 104)] (by decide)⟩
     have m192 := m182.freezeN 101 rfl
     refine ecn Hz Tryd.func71 rfl m192 103 (pnums_x [bl, sz] _ _ _ ((m192.rd (i := 101) rfl).any) (by simp) (b63 (by intro x hx; simp only [List.mem_cons, List.not_mem_nil, or_false] at hx; omega))) fun p193 c193 Az w193 Hz m194 => ?_
     refine ⟨fun _ => (m194.to ⟨il, trivial⟩), ?_⟩
     refine dtw 1 13 ?_ ?_
     ·
      refine e_cvN Hz m194 100 rfl rfl U22 U5 rfl fun Az w196 Hz m196 => ?_
      refine ⟨fun _ => (m196.to ⟨il, trivial⟩), ?_⟩
      have m197 := m196.freezeN 102 rfl
      refine so 13 ?_
      refine ecn Hz Tryd.func71 rfl m197 104 (pnums_x [(its.length : Int)] _ _ _ ((m197.rd (i := 102) rfl).any) (by simp) (b63 (by intro x hx; simp only [List.mem_cons, List.not_mem_nil, or_false] at hx; omega))) fun p198 c198 Az w198 Hz m199 => ?_
      refine ⟨m199.to ⟨il, trivial⟩, ?_⟩
      refine ldl 16383 ?_
      exact hD _ _ ⟨_, _, _, _, _, _, Hz.only [1, 19, 25, 26, 31], m199.ren [(8, 8), (9, 9), (10, 100), (11, 103), (12, 104)] (by decide)⟩
     have m201 := m194.freezeN 102 rfl
     refine ecn Hz Tryd.func71 rfl m201 104 (pnums_x [(its.length : Int)] _ _ _ ((m201.rd (i := 102) rfl).any) (by simp) (b63 (by intro x hx; simp only [List.mem_cons, List.not_mem_nil, or_false] at hx; omega))) fun p202 c202 Az w202 Hz m203 => ?_
     refine ⟨fun _ => (m203.to ⟨il, trivial⟩), ?_⟩
     refine so 1 ?_
     refine e_cvN Hz m203 100 rfl rfl U22 U5 rfl fun Az w205 Hz m205 => ?_
     refine ⟨m205.to ⟨il, trivial⟩, ?_⟩
     refine ldl 16383 ?_
     exact hD _ _ ⟨_, _, _, _, _, _, Hz.only [1, 19, 25, 26, 31], m205.ren [(8, 8), (9, 9), (10, 100), (11, 103), (12, 104)] (by decide)⟩
    refine e_litN Hz m99 101 (k := .i64) rfl rfl U27 fct32 rfl rfl rfl rfl fun g206 Az w207 Hz m207 => ?_
    refine ⟨fun _ => (m207.to ⟨il, trivial⟩), ?_⟩
    refine dtw 1 6 ?_ ?_
    ·
     refine e_cvN Hz m207 100 rfl rfl U22 U5 rfl fun Az w208 Hz m208 => ?_
     refine ⟨fun _ => (m208.to ⟨il, trivial⟩), ?_⟩
     refine so 6 ?_
     refine e_litN Hz m208 102 (k := .i64) rfl rfl U27 fct32 rfl rfl rfl rfl fun g209 Az w210 Hz m210 => ?_
     refine ⟨m210.to ⟨il, trivial⟩, ?_⟩
     have m211 := m210.freezeN 102 rfl
     refine so 7 ?_
     refine ecn Hz Tryd.func71 rfl m211 103 (pnums_x [bl, sz] _ _ _ ((m211.rd (i := 102) rfl).any) (by simp) (b63 (by intro x hx; simp only [List.mem_cons, List.not_mem_nil, or_false] at hx; omega))) fun p212 c212 Az w212 Hz m213 => ?_
     refine ⟨m213.to ⟨il, trivial⟩, ?_⟩
     have m215 := m213.freezeN 101 rfl
     refine so 13 ?_
     refine ecn Hz Tryd.func71 rfl m215 104 (pnums_x [(its.length : Int)] _ _ _ ((m215.rd (i := 101) rfl).any) (by simp) (b63 (by intro x hx; simp only [List.mem_cons, List.not_mem_nil, or_false] at hx; omega))) fun p216 c216 Az w216 Hz m217 => ?_
     refine ⟨m217.to ⟨il, trivial⟩, ?_⟩
     refine ldl 16383 ?_
     exact hD _ _ ⟨_, _, _, _, _, _, Hz.only [1, 19, 25, 26, 31], m217.ren [(8, 8), (9, 9), (10, 100), (11, 103), (12, 104)] (by decide)⟩
    refine e_litN Hz m207 102 (k := .i64) rfl rfl U27 fct32 rfl rfl rfl rfl fun g219 Az w220 Hz m220 => ?_
    refine ⟨fun _ => (m220.to ⟨il, trivial⟩), ?_⟩
    refine dtw 1 7 ?_ ?_
    ·
     refine e_cvN Hz m220 100 rfl rfl U22 U5 rfl fun Az w221 Hz m221 => ?_
     refine ⟨fun _ => (m221.to ⟨il, trivial⟩), ?_⟩
     have m222 := m221.freezeN 102 rfl
     refine so 7 ?_
     refine ecn Hz Tryd.func71 rfl m222 103 (pnums_x [bl, sz] _ _ _ ((m222.rd (i := 102) rfl).any) (by simp) (b63 (by intro x hx; simp only [List.mem_cons, List.not_mem_nil, or_false] at hx; omega))) fun p223 c223 Az w223 Hz m224 => ?_
     refine ⟨m224.to ⟨il, trivial⟩, ?_⟩
     have m226 := m224.freezeN 101 rfl
     refine so 13 ?_
     refine ecn Hz Tryd.func71 rfl m226 104 (pnums_x [(its.length : Int)] _ _ _ ((m226.rd (i := 101) rfl).any) (by simp) (b63 (by intro x hx; simp only [List.mem_cons, List.not_mem_nil, or_false] at hx; omega))) fun p227 c227 Az w227 Hz m228 => ?_
     refine ⟨m228.to ⟨il, trivial⟩, ?_⟩
     refine ldl 16383 ?_
     exact hD _ _ ⟨_, _, _, _, _, _, Hz.only [1, 19, 25, 26, 31], m228.ren [(8, 8), (9, 9), (10, 100), (11, 103), (12, 104)] (by decide)⟩
    have m230 := m220.freezeN 102 rfl
    refine ecn Hz Tryd.func71 rfl m230 103 (pnums_x [bl, sz] _ _ _ ((m230.rd (i := 102) rfl).any) (by simp) (b63 (by intro x hx; simp only [List.mem_cons, List.not_mem_nil, or_false] at hx; omega))) fun p231 c231 Az w231 Hz m232 => ?_
    refine ⟨fun _ => (m232.to ⟨il, trivial⟩), ?_⟩
    refine dtw 1 13 ?_ ?_
    ·
     refine e_cvN Hz m232 100 rfl rfl U22 U5 rfl fun Az w234 Hz m234 => ?_
     refine ⟨fun _ => (m234.to ⟨il, trivial⟩), ?_⟩
     have m235 := m234.freezeN 101 rfl
     refine so 13 ?_
     refine ecn Hz Tryd.func71 rfl m235 104 (pnums_x [(its.length : Int)] _ _ _ ((m235.rd (i := 101) rfl).any) (by simp) (b63 (by intro x hx; simp only [List.mem_cons, List.not_mem_nil, or_false] at hx; omega))) fun p236 c236 Az w236 Hz m237 => ?_
     refine ⟨m237.to ⟨il, trivial⟩, ?_⟩
     refine ldl 16383 ?_
     exact hD _ _ ⟨_, _, _, _, _, _, Hz.only [1, 19, 25, 26, 31], m237.ren [(8, 8), (9, 9), (10, 100), (11, 103), (12, 104)] (by decide)⟩
    have m239 := m232.freezeN 101 rfl
    refine ecn Hz Tryd.func71 rfl m239 104 (pnums_x [(its.length : Int)] _ _ _ ((m239.rd (i := 101) rfl).any) (by simp) (b63 (by intro x hx; simp only [List.mem_cons, List.not_mem_nil, or_false] at hx; omega))) fun p240 c240 Az w240 Hz m241 => ?_
    refine ⟨fun _ => (m241.to ⟨il, trivial⟩), ?_⟩
    refine so 1 ?_
    refine e_cvN Hz m241 100 rfl rfl U22 U5 rfl fun Az w243 Hz m243 => ?_
    refine ⟨m243.to ⟨il, trivial⟩, ?_⟩
    refine ldl 16383 ?_
    exact hD _ _ ⟨_, _, _, _, _, _, Hz.only [1, 19, 25, 26, 31], m243.ren [(8, 8), (9, 9), (10, 100), (11, 103), (12, 104)] (by decide)⟩
   ·
    refine e_litN Hz m75 100 (k := .i64) rfl rfl U27 fct32 rfl rfl rfl rfl fun g244 Az w245 Hz m245 => ?_
    refine ⟨fun _ => (m245.to ⟨il, trivial⟩), ?_⟩
    refine dth 0 7 12 ?_ ?_ ?_
    ·
     refine e_litN Hz m245 101 (k := .u8) rfl rfl U22 fct4 rfl rfl rfl rfl fun g246 Az w247 Hz m247 => ?_
     refine ⟨fun _ => (m247.to ⟨il, trivial⟩), ?_⟩
     refine dth 1 7 12 ?_ ?_ ?_
     ·
      refine e_cvN Hz m247 101 rfl rfl U22 U5 rfl fun Az w248 Hz m248 => ?_
      refine ⟨fun _ => (m248.to ⟨il, trivial⟩), ?_⟩
      refine dtw 7 12 ?_ ?_
      ·
       have m249 := m248.freezeN 100 rfl
       refine ecn Hz Tryd.func71 rfl m249 102 (pnums_x [bl, sz] _ _ _ ((m249.rd (i := 100) rfl).any) (by simp) (b63 (by intro x hx; simp only [List.mem_cons, List.not_mem_nil, or_false] at hx; omega))) fun p250 c250 Az w250 Hz m251 => ?_
       refine ⟨fun _ => (m251.to ⟨il, trivial⟩), ?_⟩
       refine so 12 ?_
       refine e_litN Hz m251 103 (k := .i64) rfl rfl U27 fct32 rfl rfl rfl rfl fun g253 Az w254 Hz m254 => ?_
       refine ⟨m254.to ⟨il, trivial⟩, ?_⟩
       have m255 := m254.freezeN 103 rfl
       refine so 13 ?_
       refine ecn Hz Tryd.func71 rfl m255 104 (pnums_x [(its.length : Int)] _ _ _ ((m255.rd (i := 103) rfl).any) (by simp) (b63 (by intro x hx; simp only [List.mem_cons, List.not_mem_nil, or_false] at hx; omega))) fun p256 c256 Az w256 Hz m257 => ?_
       refine ⟨m257.to ⟨il, trivial⟩, ?_⟩
       refine ldl 16383 ?_
       exact hD _ _ ⟨_, _, _, _, _, _, Hz.only [1, 19, 25, 26, 31], m257.ren [(8, 8), (9, 9), (10, 101), (11, 102), (12, 104)] (by decide)⟩
      refine e_litN Hz m248 102 (k := .i64) rfl rfl U27 fct32 rfl rfl rfl rfl fun g259 Az w260 Hz m260 => ?_
      refine ⟨fun _ => (m260.to ⟨il, trivial⟩), ?_⟩
      have m261 := m260.freezeN 100 rfl
      refine so 7 ?_
      refine ecn Hz Tryd.func71 rfl m261 103 (pnums_x [bl, sz] _ _ _ ((m261.rd (i := 100) rfl).any) (by simp) (b63 (by intro x hx; simp only [List.mem_cons, List.not_mem_nil, or_false] at hx; omega))) fun p262 c262 Az w262 Hz m263 => ?_
      refine ⟨m263.to ⟨il, trivial⟩, ?_⟩
      have m265 := m263.freezeN 102 rfl
      refine so 13 ?_
      refine ecn Hz Tryd.func71 rfl m265 104 (pnums_x [(its.length : Int)] _ _ _ ((m265.rd (i := 102) rfl).any) (by simp) (b63 (by intro x hx; simp only [List.mem_cons, List.not_mem_nil, or_false] at hx; omega))) fun p266 c266 Az w266 Hz m267 => ?_
      refine ⟨m267.to ⟨il, trivial⟩, ?_⟩
      refine ldl 16383 ?_
      exact hD _ _ ⟨_, _, _, _, _, _, Hz.only [1, 19, 25, 26, 31], m267.ren [(8, 8), (9, 9), (10, 101), (11, 103), (12, 104)] (by decide)⟩
     ·
      have m269 := m247.freezeN 100 rfl
      refine ecn Hz Tryd.func71 rfl m269 102 (pnums_x [bl, sz] _ _ _ ((m269.rd (i := 100) rfl).any) (by simp) (b63 (by intro x hx; simp only [List.mem_cons, List.not_mem_nil, or_false] at hx; omega))) fun p270 c270 Az w270 Hz m271 => ?_
      refine ⟨fun _ => (m271.to ⟨il, trivial⟩), ?_⟩
      refine dtw 1 12 ?_ ?_
      ·
       refine e_cvN Hz m271 101 rfl rfl U22 U5 rfl fun Az w273 Hz m273 => ?_
       refine ⟨fun _ => (m273.to ⟨il, trivial⟩), ?_⟩
       refine so 12 ?_
       refine e_litN Hz m273 103 (k := .i64) rfl rfl U27 fct32 rfl rfl rfl rfl fun g274 Az w275 Hz m275 => ?_
       refine ⟨m275.to ⟨il, trivial⟩, ?_⟩
       have m276 := m275.freezeN 103 rfl
       refine so 13 ?_
       refine ecn Hz Tryd.func71 rfl m276 104 (pnums_x [(its.length : Int)] _ _ _ ((m276.rd (i := 103) rfl).any) (by simp) (b63 (by intro x hx; simp only [List.mem_cons, List.not_mem_nil, or_false] at hx; omega))) fun p277 c277 Az w277 Hz m278 => ?_
       refine ⟨m278.to ⟨il, trivial⟩, ?_⟩
       refine ldl 16383 ?_
       exact hD _ _ ⟨_, _, _, _, _, _, Hz.only [1, 19, 25, 26, 31], m278.ren [(8, 8), (9, 9), (10, 101), (11, 102), (12, 104)] (by decide)⟩
      refine e_litN Hz m271 103 (k := .i64) rfl rfl U27 fct32 rfl rfl rfl rfl fun g280 Az w281 Hz m281 => ?_
      refine ⟨fun _ => (m281.to ⟨il, trivial⟩), ?_⟩
      refine dtw 1 13 ?_ ?_
      ·
       refine e_cvN Hz m281 101 rfl rfl U22 U5 rfl fun Az w282 Hz m282 => ?_
       refine ⟨fun _ => (m282.to ⟨il, trivial⟩), ?_⟩
       have m283 := m282.freezeN 103 rfl
       refine so 13 ?_
       refine ecn Hz Tryd.func71 rfl m283 104 (pnums_x [(its.length : Int)] _ _ _ ((m283.rd (i := 103) rfl).any) (by simp) (b63 (by intro x hx; simp only [List.mem_cons, List.not_mem_nil, or_false] at hx; omega))) fun p284 c284 Az w284 Hz m285 => ?_
       refine ⟨m285.to ⟨il, trivial⟩, ?_⟩
       refine ldl 16383 ?_
       exact hD _ _ ⟨_, _, _, _, _, _, Hz.only [1, 19, 25, 26, 31], m285.ren [(8, 8), (9, 9), (10, 101), (11, 102), (12, 104)] (by decide)⟩
      have m287 := m281.freezeN 103 rfl
      refine ecn Hz Tryd.func71 rfl m287 104 (pnums_x [(its.length : Int)] _ _ _ ((m287.rd (i := 103) rfl).any) (by simp) (b63 (by intro x hx; simp only [List.mem_cons, List.not_mem_nil, or_false] at hx; omega))) fun p288 c288 Az w288 Hz m289 => ?_
      refine ⟨fun _ => (m289.to ⟨il, trivial⟩), ?_⟩
      refine so 1 ?_
      refine e_cvN Hz m289 101 rfl rfl U22 U5 rfl fun Az w291 Hz m291 => ?_
      refine ⟨m291.to ⟨il, trivial⟩, ?_⟩
      refine ldl 16383 ?_
      exact hD _ _ ⟨_, _, _, _, _, _, Hz.only [1, 19, 25, 26, 31], m291.ren [(8, 8), (9, 9), (10, 101), (11, 102), (12, 104)] (by decide)⟩
     refine e_litN Hz m247 102 (k := .i64) rfl rfl U27 fct32 rfl rfl rfl rfl fun g292 Az w293 Hz m293 => ?_
     refine ⟨fun _ => (m293.to ⟨il, trivial⟩), ?_⟩
     refine dtw 1 7 ?_ ?_
     ·
      refine e_cvN Hz m293 101 rfl rfl U22 U5 rfl fun Az w294 Hz m294 => ?_
      refine ⟨fun _ => (m294.to ⟨il, trivial⟩), ?_⟩
      have m295 := m294.freezeN 100 rfl
      refine so 7 ?_
      refine ecn Hz Tryd.func71 rfl m295 103 (pnums_x [bl, sz] _ _ _ ((m295.rd (i := 100) rfl).any) (by simp) (b63 (by intro x hx; simp only [List.mem_cons, List.not_mem_nil, or_false] at hx; omega))) fun p296 c296 Az w296 Hz m297 => ?_
      refine ⟨m297.to ⟨il, trivial⟩, ?_⟩
      have m299 := m297.freezeN 102 rfl
      refine so 13 ?_
      refine ecn Hz Tryd.func71 rfl m299 104 (pnums_x [(its.length : Int)] _ _ _ ((m299.rd (i := 102) rfl).any) (by simp) (b63 (by intro x hx; simp only [List.mem_cons, List.not_mem_nil, or_false] at hx; omega))) fun p300 c300 Az w300 Hz m301 => ?_
      refine ⟨m301.to ⟨il, trivial⟩, ?_⟩
      refine ldl 16383 ?_
      exact hD _ _ ⟨_, _, _, _, _, _, Hz.only [1, 19, 25, 26, 31], m301.ren [(8, 8), (9, 9), (10, 101), (11, 103), (12, 104)] (by decide)⟩
     have m303 := m293.freezeN 100 rfl
     refine ecn Hz Tryd.func71 rfl m303 103 (pnums_x [bl, sz] _ _ _ ((m303.rd (i := 100) rfl).any) (by simp) (b63 (by intro x hx; simp only [List.mem_cons, List.not_mem_nil, or_false] at hx; omega))) fun p304 c304 Az w304 Hz m305 => ?_
     refine ⟨fun _ => (m305.to ⟨il, trivial⟩), ?_⟩
     refine dtw 1 13 ?_ ?_
     ·
      refine e_cvN Hz m305 101 rfl rfl U22 U5 rfl fun Az w307 Hz m307 => ?_
      refine ⟨fun _ => (m307.to ⟨il, trivial⟩), ?_⟩
      have m308 := m307.freezeN 102 rfl
      refine so 13 ?_
      refine ecn Hz Tryd.func71 rfl m308 104 (pnums_x [(its.length : Int)] _ _ _ ((m308.rd (i := 102) rfl).any) (by simp) (b63 (by intro x hx; simp only [List.mem_cons, List.not_mem_nil, or_false] at hx; omega))) fun p309 c309 Az w309 Hz m310 => ?_
      refine ⟨m310.to ⟨il, trivial⟩, ?_⟩
      refine ldl 16383 ?_
      exact hD _ _ ⟨_, _, _, _, _, _, Hz.only [1, 19, 25, 26, 31], m310.ren [(8, 8), (9, 9), (10, 101), (11, 103), (12, 104)] (by decide)⟩
     have m312 := m305.freezeN 102 rfl
     refine ecn Hz Tryd.func71 rfl m312 104 (pnums_x [(its.length : Int)] _ _ _ ((m312.rd (i := 102) rfl).any) (by simp) (b63 (by intro x hx; simp only [List.mem_cons, List.not_mem_nil, or_false] at hx; omega))) fun p313 c313 Az w313 Hz m314 => ?_
     refine ⟨fun _ => (m314.to ⟨il, trivial⟩), ?_⟩
     refine so 1 ?_
     refine e_cvN Hz m314 101 rfl rfl U22 U5 rfl fun Az w316 Hz m316 => ?_
     refine ⟨m316.to ⟨il, trivial⟩, ?_⟩
     refine ldl 16383 ?_
     exact hD _ _ ⟨_, _, _, _, _, _, Hz.only [1, 19, 25, 26, 31], m316.ren [(8, 8), (9, 9), (10, 101), (11, 103), (12, 104)] (by decide)⟩
    ·
     have m317 := m245.freezeN 100 rfl
     refine ecn Hz Tryd.func71 rfl m317 101 (pnums_x [bl, sz] _ _ _ ((m317.rd (i := 100) rfl).any) (by simp) (b63 (by intro x hx; simp only [List.mem_cons, List.not_mem_nil, or_false] at hx; omega))) fun p318 c318 Az w318 Hz m319 => ?_
     refine ⟨fun _ => (m319.to ⟨il, trivial⟩), ?_⟩
     refine dtw 0 12 ?_ ?_
     ·
      refine e_litN Hz m319 102 (k := .u8) rfl rfl U22 fct4 rfl rfl rfl rfl fun g321 Az w322 Hz m322 => ?_
      refine ⟨fun _ => (m322.to ⟨il, trivial⟩), ?_⟩
      refine dtw 1 12 ?_ ?_
      ·
       refine e_cvN Hz m322 102 rfl rfl U22 U5 rfl fun Az w323 Hz m323 => ?_
       refine ⟨fun _ => (m323.to ⟨il, trivial⟩), ?_⟩
       refine so 12 ?_
       refine e_litN Hz m323 103 (k := .i64) rfl rfl U27 fct32 rfl rfl rfl rfl fun g324 Az w325 Hz m325 => ?_
       refine ⟨m325.to ⟨il, trivial⟩, ?_⟩
       have m326 := m325.freezeN 103 rfl
       refine so 13 ?_
       refine ecn Hz Tryd.func71 rfl m326 104 (pnums_x [(its.length : Int)] _ _ _ ((m326.rd (i := 103) rfl).any) (by simp) (b63 (by intro x hx; simp only [List.mem_cons, List.not_mem_nil, or_false] at hx; omega))) fun p327 c327 Az w327 Hz m328 => ?_
       refine ⟨m328.to ⟨il, trivial⟩, ?_⟩
       refine ldl 16383 ?_
       exact hD _ _ ⟨_, _, _, _, _, _, Hz.only [1, 19, 25, 26, 31], m328.ren [(8, 8), (9, 9), (10, 102), (11, 101), (12, 104)] (by decide)⟩
      refine e_litN Hz m322 103 (k := .i64) rfl rfl U27 fct32 rfl rfl rfl rfl fun g330 Az w331 Hz m331 => ?_
      refine ⟨fun _ => (m331.to ⟨il, trivial⟩), ?_⟩
      refine dtw 1 13 ?_ ?_
      ·
       refine e_cvN Hz m331 102 rfl rfl U22 U5 rfl fun Az w332 Hz m332 => ?_
       refine ⟨fun _ => (m332.to ⟨il, trivial⟩), ?_⟩
       have m333 := m332.freezeN 103 rfl
       refine so 13 ?_
       refine ecn Hz Tryd.func71 rfl m333 104 (pnums_x [(its.length : Int)] _ _ _ ((m333.rd (i := 103) rfl).any) (by simp) (b63 (by intro x hx; simp only [List.mem_cons, List.not_mem_nil, or_false] at hx; omega))) fun p334 c334 Az w334 Hz m335 => ?_
       refine ⟨m335.to ⟨il, trivial⟩, ?_⟩
       refine ldl 16383 ?_
       exact hD _ _ ⟨_, _, _, _, _, _, Hz.only [1, 19, 25, 26, 31], m335.ren [(8, 8), (9, 9), (10, 102), (11, 101), (12, 104)] (by decide)⟩
      have m337 := m331.freezeN 103 rfl
      refine ecn Hz Tryd.func71 rfl m337 104 (pnums_x [(its.length : Int)] _ _ _ ((m337.rd (i := 103) rfl).any) (by simp) (b63 (by intro x hx; simp only [List.mem_cons, List.not_mem_nil, or_false] at hx; omega))) fun p338 c338 Az w338 Hz m339 => ?_
      refine ⟨fun _ => (m339.to ⟨il, trivial⟩), ?_⟩
      refine so 1 ?_
      refine e_cvN Hz m339 102 rfl rfl U22 U5 rfl fun Az w341 Hz m341 => ?_
      refine ⟨m341.to ⟨il, trivial⟩, ?_⟩
      refine ldl 16383 ?_
      exact hD _ _ ⟨_, _, _, _, _, _, Hz.only [1, 19, 25, 26, 31], m341.ren [(8, 8), (9, 9), (10, 102), (11, 101), (12, 104)] (by decide)⟩
     refine e_litN Hz m319 102 (k := .i64) rfl rfl U27 fct32 rfl rfl rfl rfl fun g342 Az w343 Hz m343 => ?_
     refine ⟨fun _ => (m343.to ⟨il, trivial⟩), ?_⟩
     refine dtw 0 13 ?_ ?_
     ·
      refine e_litN Hz m343 103 (k := .u8) rfl rfl U22 fct4 rfl rfl rfl rfl fun g344 Az w345 Hz m345 => ?_
      refine ⟨fun _ => (m345.to ⟨il, trivial⟩), ?_⟩
      refine dtw 1 13 ?_ ?_
      ·
       refine e_cvN Hz m345 103 rfl rfl U22 U5 rfl fun Az w346 Hz m346 => ?_
       refine ⟨fun _ => (m346.to ⟨il, trivial⟩), ?_⟩
       have m347 := m346.freezeN 102 rfl
       refine so 13 ?_
       refine ecn Hz Tryd.func71 rfl m347 104 (pnums_x [(its.length : Int)] _ _ _ ((m347.rd (i := 102) rfl).any) (by simp) (b63 (by intro x hx; simp only [List.mem_cons, List.not_mem_nil, or_false] at hx; omega))) fun p348 c348 Az w348 Hz m349 => ?_
       refine ⟨m349.to ⟨il, trivial⟩, ?_⟩
       refine ldl 16383 ?_
       exact hD _ _ ⟨_, _, _, _, _, _, Hz.only [1, 19, 25, 26, 31], m349.ren [(8, 8), (9, 9), (10, 103), (11, 101), (12, 104)] (by decide)⟩
      have m351 := m345.freezeN 102 rfl
      refine ecn Hz Tryd.func71 rfl m351 104 (pnums_x [(its.length : Int)] _ _ _ ((m351.rd (i := 102) rfl).any) (by simp) (b63 (by intro x hx; simp only [List.mem_cons, List.not_mem_nil, or_false] at hx; omega))) fun p352 c352 Az w352 Hz m353 => ?_
      refine ⟨fun _ => (m353.to ⟨il, trivial⟩), ?_⟩
      refine so 1 ?_
      refine e_cvN Hz m353 103 rfl rfl U22 U5 rfl fun Az w355 Hz m355 => ?_
      refine ⟨m355.to ⟨il, trivial⟩, ?_⟩
      refine ldl 16383 ?_
      exact hD _ _ ⟨_, _, _, _, _, _, Hz.only [1, 19, 25, 26, 31], m355.ren [(8, 8), (9, 9), (10, 103), (11, 101), (12, 104)] (by decide)⟩
     have m356 := m343.freezeN 102 rfl
     refine ecn Hz Tryd.func71 rfl m356 103 (pnums_x [(its.length : Int)] _ _ _ ((m356.rd (i := 102) rfl).any) (by simp) (b63 (by intro x hx; simp only [List.mem_cons, List.not_mem_nil, or_false] at hx; omega))) fun p357 c357 Az w357 Hz m358 => ?_
     refine ⟨fun _ => (m358.to ⟨il, trivial⟩), ?_⟩
     refine so 0 ?_
     refine e_litN Hz m358 104 (k := .u8) rfl rfl U22 fct4 rfl rfl rfl rfl fun g360 Az w361 Hz m361 => ?_
     refine ⟨m361.to ⟨il, trivial⟩, ?_⟩
     refine so 1 ?_
     refine e_cvN Hz m361 104 rfl rfl U22 U5 rfl fun Az w362 Hz m362 => ?_
     refine ⟨m362.to ⟨il, trivial⟩, ?_⟩
     refine ldl 16383 ?_
     exact hD _ _ ⟨_, _, _, _, _, _, Hz.only [1, 19, 25, 26, 31], m362.ren [(8, 8), (9, 9), (10, 104), (11, 101), (12, 103)] (by decide)⟩
    refine e_litN Hz m245 101 (k := .i64) rfl rfl U27 fct32 rfl rfl rfl rfl fun g363 Az w364 Hz m364 => ?_
    refine ⟨fun _ => (m364.to ⟨il, trivial⟩), ?_⟩
    refine dtw 0 7 ?_ ?_
    ·
     refine e_litN Hz m364 102 (k := .u8) rfl rfl U22 fct4 rfl rfl rfl rfl fun g365 Az w366 Hz m366 => ?_
     refine ⟨fun _ => (m366.to ⟨il, trivial⟩), ?_⟩
     refine dtw 1 7 ?_ ?_
     ·
      refine e_cvN Hz m366 102 rfl rfl U22 U5 rfl fun Az w367 Hz m367 => ?_
      refine ⟨fun _ => (m367.to ⟨il, trivial⟩), ?_⟩
      have m368 := m367.freezeN 100 rfl
      refine so 7 ?_
      refine ecn Hz Tryd.func71 rfl m368 103 (pnums_x [bl, sz] _ _ _ ((m368.rd (i := 100) rfl).any) (by simp) (b63 (by intro x hx; simp only [List.mem_cons, List.not_mem_nil, or_false] at hx; omega))) fun p369 c369 Az w369 Hz m370 => ?_
      refine ⟨m370.to ⟨il, trivial⟩, ?_⟩
      have m372 := m370.freezeN 101 rfl
      refine so 13 ?_
      refine ecn Hz Tryd.func71 rfl m372 104 (pnums_x [(its.length : Int)] _ _ _ ((m372.rd (i := 101) rfl).any) (by simp) (b63 (by intro x hx; simp only [List.mem_cons, List.not_mem_nil, or_false] at hx; omega))) fun p373 c373 Az w373 Hz m374 => ?_
      refine ⟨m374.to ⟨il, trivial⟩, ?_⟩
      refine ldl 16383 ?_
      exact hD _ _ ⟨_, _, _, _, _, _, Hz.only [1, 19, 25, 26, 31], m374.ren [(8, 8), (9, 9), (10, 102), (11, 103), (12, 104)] (by decide)⟩
     have m376 := m366.freezeN 100 rfl
     refine ecn Hz Tryd.func71 rfl m376 103 (pnums_x [bl, sz] _ _ _ ((m376.rd (i := 100) rfl).any) (by simp) (b63 (by intro x hx; simp only [List.mem_cons, List.not_mem_nil, or_false] at hx; omega))) fun p377 c377 Az w377 Hz m378 => ?_
     refine ⟨fun _ => (m378.to ⟨il, trivial⟩), ?_⟩
     refine dtw 1 13 ?_ ?_
     ·
      refine e_cvN Hz m378 102 rfl rfl U22 U5 rfl fun Az w380 Hz m380 => ?_
      refine ⟨fun _ => (m380.to ⟨il, trivial⟩), ?_⟩
      have m381 := m380.freezeN 101 rfl
      refine so 13 ?_
      refine ecn Hz Tryd.func71 rfl m381 104 (pnums_x [(its.length : Int)] _ _ _ ((m381.rd (i := 101) rfl).any) (by simp) (b63 (by intro x hx; simp only [List.mem_cons, List.not_mem_nil, or_false] at hx; omega))) fun p382 c382 Az w382 Hz m383 => ?_
      refine ⟨m383.to ⟨il, trivial⟩, ?_⟩
      refine ldl 16383 ?_
      exact hD _ _ ⟨_, _, _, _, _, _, Hz.only [1, 19, 25, 26, 31], m383.ren [(8, 8), (9, 9), (10, 102), (11, 103), (12, 104)] (by decide)⟩
     have m385 := m378.freezeN 101 rfl
     refine ecn Hz Tryd.func71 rfl m385 104 (pnums_x [(its.length : Int)] _ _ _ ((m385.rd (i := 101) rfl).any) (by simp) (b63 (by intro x hx; simp only [List.mem_cons, List.not_mem_nil, or_false] at hx; omega))) fun p386 c386 Az w386 Hz m387 => ?_
     refine ⟨fun _ => (m387.to ⟨il, trivial⟩), ?_⟩
     refine so 1 ?_
     refine e_cvN Hz m387 102 rfl rfl U22 U5 rfl fun Az w389 Hz m389 => ?_
     refine ⟨m389.to ⟨il, trivial⟩, ?_⟩
     refine ldl 16383 ?_
     exact hD _ _ ⟨_, _, _, _, _, _, Hz.only [1, 19, 25, 26, 31], m389.ren [(8, 8), (9, 9), (10, 102), (11, 103), (12, 104)] (by decide)⟩
    have m390 := m364.freezeN 100 rfl
    refine ecn Hz Tryd.func71 rfl m390 102 (pnums_x [bl, sz] _ _ _ ((m390.rd (i := 100) rfl).any) (by simp) (b63 (by intro x hx; simp only [List.mem_cons, List.not_mem_nil, or_false] at hx; omega))) fun p391 c391 Az w391 Hz m392 => ?_
    refine ⟨fun _ => (m392.to ⟨il, trivial⟩), ?_⟩
    refine dtw 0 13 ?_ ?_
    ·
     refine e_litN Hz m392 103 (k := .u8) rfl rfl U22 fct4 rfl rfl rfl rfl fun g394 Az w395 Hz m395 => ?_
     refine ⟨fun _ => (m395.to ⟨il, trivial⟩), ?_⟩
     refine dtw 1 13 ?_ ?_
     ·
      refine e_cvN Hz m395 103 rfl rfl U22 U5 rfl fun Az w396 Hz m396 => ?_
      refine ⟨fun _ => (m396.to ⟨il, trivial⟩), ?_⟩
      have m397 := m396.freezeN 101 rfl
      refine so 13 ?_
      refine ecn Hz Tryd.func71 rfl m397 104 (pnums_x [(its.length : Int)] _ _ _ ((m397.rd (i := 101) rfl).any) (by simp) (b63 (by intro x hx; simp only [List.mem_cons, List.not_mem_nil, or_false] at hx; omega))) fun p398 c398 Az w398 Hz m399 => ?_
      refine ⟨m399.to ⟨il, trivial⟩, ?_⟩
      refine ldl 16383 ?_
      exact hD _ _ ⟨_, _, _, _, _, _, Hz.only [1, 19, 25, 26, 31], m399.ren [(8, 8), (9, 9), (10, 103), (11, 102), (12, 104)] (by decide)⟩
     have m401 := m395.freezeN 101 rfl
     refine ecn Hz Tryd.func71 rfl m401 104 (pnums_x [(its.length : Int)] _ _ _ ((m401.rd (i := 101) rfl).any) (by simp) (b63 (by intro x hx; simp only [List.mem_cons, List.not_mem_nil, or_false] at hx; omega))) fun p402 c402 Az w402 Hz m403 => ?_
     refine ⟨fun _ => (m403.to ⟨il, trivial⟩), ?_⟩
     refine so 1 ?_
     refine e_cvN Hz m403 103 rfl rfl U22 U5 rfl fun Az w405 Hz m405 => ?_
     refine ⟨m405.to ⟨il, trivial⟩, ?_⟩
     refine ldl 16383 ?_
     exact hD _ _ ⟨_, _, _, _, _, _, Hz.only [1, 19, 25, 26, 31], m405.ren [(8, 8), (9, 9), (10, 103), (11, 102), (12, 104)] (by decide)⟩
    have m406 := m392.freezeN 101 rfl
    refine ecn Hz Tryd.func71 rfl m406 103 (pnums_x [(its.length : Int)] _ _ _ ((m406.rd (i := 101) rfl).any) (by simp) (b63 (by intro x hx; simp only [List.mem_cons, List.not_mem_nil, or_false] at hx; omega))) fun p407 c407 Az w407 Hz m408 => ?_
    refine ⟨fun _ => (m408.to ⟨il, trivial⟩), ?_⟩
    refine so 0 ?_
    refine e_litN Hz m408 104 (k := .u8) rfl rfl U22 fct4 rfl rfl rfl rfl fun g410 Az w411 Hz m411 => ?_
    refine ⟨m411.to ⟨il, trivial⟩, ?_⟩
    refine so 1 ?_
    refine e_cvN Hz m411 104 rfl rfl U22 U5 rfl fun Az w412 Hz m412 => ?_
    refine ⟨m412.to ⟨il, trivial⟩, ?_⟩
    refine ldl 16383 ?_
    exact hD _ _ ⟨_, _, _, _, _, _, Hz.only [1, 19, 25, 26, 31], m412.ren [(8, 8), (9, 9), (10, 104), (11, 102), (12, 103)] (by decide)⟩
   refine e_litN Hz m75 100 (k := .i64) rfl rfl U27 fct32 rfl rfl rfl rfl fun g413 Az w414 Hz m414 => ?_
   refine ⟨fun _ => (m414.to ⟨il, trivial⟩), ?_⟩
   refine dtw 0 6 ?_ ?_
   ·
    refine e_litN Hz m414 101 (k := .u8) rfl rfl U22 fct4 rfl rfl rfl rfl fun g415 Az w416 Hz m416 => ?_
    refine ⟨fun _ => (m416.to ⟨il, trivial⟩), ?_⟩
    refine dtw 1 6 ?_ ?_
    ·
     refine e_cvN Hz m416 101 rfl rfl U22 U5 rfl fun Az w417 Hz m417 => ?_
     refine ⟨fun _ => (m417.to ⟨il, trivial⟩), ?_⟩
     refine so 6 ?_
     refine e_litN Hz m417 102 (k := .i64) rfl rfl U27 fct32 rfl rfl rfl rfl fun g418 Az w419 Hz m419 => ?_
     refine ⟨m419.to ⟨il, trivial⟩, ?_⟩
     have m420 := m419.freezeN 102 rfl
     refine so 7 ?_
     refine ecn Hz Tryd.func71 rfl m420 103 (pnums_x [bl, sz] _ _ _ ((m420.rd (i := 102) rfl).any) (by simp) (b63 (by intro x hx; simp only [List.mem_cons, List.not_mem_nil, or_false] at hx; omega))) fun p421 c421 Az w421 Hz m422 => ?_
     refine ⟨m422.to ⟨il, trivial⟩, ?_⟩
     have m424 := m422.freezeN 100 rfl
     refine so 13 ?_
     refine ecn Hz Tryd.func71 rfl m424 104 (pnums_x [(its.length : Int)] _ _ _ ((m424.rd (i := 100) rfl).any) (by simp) (b63 (by intro x hx; simp only [List.mem_cons, List.not_mem_nil, or_false] at hx; omega))) fun p425 c425 Az w425 Hz m426 => ?_
     refine ⟨m426.to ⟨il, trivial⟩, ?_⟩
     refine ldl 16383 ?_
     exact hD _ _ ⟨_, _, _, _, _, _, Hz.only [1, 19, 25, 26, 31], m426.ren [(8, 8), (9, 9), (10, 101), (11, 103), (12, 104)] (by decide)⟩
    refine e_litN Hz m416 102 (k := .i64) rfl rfl U27 fct32 rfl rfl rfl rfl fun g428 Az w429 Hz m429 => ?_
    refine ⟨fun _ => (m429.to ⟨il, trivial⟩), ?_⟩
    refine dtw 1 7 ?_ ?_
    ·
     refine e_cvN Hz m429 101 rfl rfl U22 U5 rfl fun Az w430 Hz m430 => ?_
     refine ⟨fun _ => (m430.to ⟨il, trivial⟩), ?_⟩
     have m431 := m430.freezeN 102 rfl
     refine so 7 ?_
     refine ecn Hz Tryd.func71 rfl m431 103 (pnums_x [bl, sz] _ _ _ ((m431.rd (i := 102) rfl).any) (by simp) (b63 (by intro x hx; simp only [List.mem_cons, List.not_mem_nil, or_false] at hx; omega))) fun p432 c432 Az w432 Hz m433 => ?_
     refine ⟨m433.to ⟨il, trivial⟩, ?_⟩
     have m435 := m433.freezeN 100 rfl
     refine so 13 ?_
     refine ecn Hz Tryd.func71 rfl m435 104 (pnums_x [(its.length : Int)] _ _ _ ((m435.rd (i := 100) rfl).any) (by simp) (b63 (by intro x hx; simp only [List.mem_cons, List.not_mem_nil, or_false] at hx; omega))) fun p436 c436 Az w436 Hz m437 => ?_
     refine ⟨m437.to ⟨il, trivial⟩, ?_⟩
     refine ldl 16383 ?_
     exact hD _ _ ⟨_, _, _, _, _, _, Hz.only [1, 19, 25, 26, 31], m437.ren [(8, 8), (9, 9), (10, 101), (11, 103), (12, 104)] (by decide)⟩
    have m439 := m429.freezeN 102 rfl
    refine ecn Hz Tryd.func71 rfl m439 103 (pnums_x [bl, sz] _ _ _ ((m439.rd (i := 102) rfl).any) (by simp) (b63 (by intro x hx; simp only [List.mem_cons, List.not_mem_nil, or_false] at hx; omega))) fun p440 c440 Az w440 Hz m441 => ?_
    refine ⟨fun _ => (m441.to ⟨il, trivial⟩), ?_⟩
    refine dtw 1 13 ?_ ?_
    ·
     refine e_cvN Hz m441 101 rfl rfl U22 U5 rfl fun Az w443 Hz m443 => ?_
     refine ⟨fun _ => (m443.to ⟨il, trivial⟩), ?_⟩
     have m444 := m443.freezeN 100 rfl
     refine so 13 ?_
     refine ecn Hz Tryd.func71 rfl m444 104 (pnums_x [(its.length : Int)] _ _ _ ((m444.rd (i := 100) rfl).any) (by simp) (b63 (by intro x hx; simp only [List.mem_cons, List.not_mem_nil, or_false] at hx; omega))) fun p445 c445 Az w445 Hz m446 => ?_
     refine ⟨m446.to ⟨il, trivial⟩, ?_⟩
     refine ldl 16383 ?_
     exact hD _ _ ⟨_, _, _, _, _, _, Hz.only [1, 19, 25, 26, 31], m446.ren [(8, 8), (9, 9), (10, 101), (11, 103), (12, 104)] (by decide)⟩
    have m448 := m441.freezeN 100 rfl
    refine ecn Hz Tryd.func71 rfl m448 104 (pnums_x [(its.length : Int)] _ _ _ ((m448.rd (i := 100) rfl).any) (by simp) (b63 (by intro x hx; simp only [List.mem_cons, List.not_mem_nil, or_false] at hx; omega))) fun p449 c449 Az w449 Hz m450 => ?_
    refine ⟨fun _ => (m450.to ⟨il, trivial⟩), ?_⟩
    refine so 1 ?_
    refine e_cvN Hz m450 101 rfl rfl U22 U5 rfl fun Az w452 Hz m452 => ?_
    refine ⟨m452.to ⟨il, trivial⟩, ?_⟩
    refine ldl 16383 ?_
    exact hD _ _ ⟨_, _, _, _, _, _, Hz.only [1, 19, 25, 26, 31], m452.ren [(8, 8), (9, 9), (10, 101), (11, 103), (12, 104)] (by decide)⟩
   refine e_litN Hz m414 101 (k := .i64) rfl rfl U27 fct32 rfl rfl rfl rfl fun g453 Az w454 Hz m454 => ?_
   refine ⟨fun _ => (m454.to ⟨il, trivial⟩), ?_⟩
   refine dtw 0 7 ?_ ?_
   ·
    refine e_litN Hz m454 102 (k := .u8) rfl rfl U22 fct4 rfl rfl rfl rfl fun g455 Az w456 Hz m456 => ?_
    refine ⟨fun _ => (m456.to ⟨il, trivial⟩), ?_⟩
    refine dtw 1 7 ?_ ?_
    ·
     refine e_cvN Hz m456 102 rfl rfl U22 U5 rfl fun Az w457 Hz m457 => ?_
     refine ⟨fun _ => (m457.to ⟨il, trivial⟩), ?_⟩
     have m458 := m457.freezeN 101 rfl
     refine so 7 ?_
     refine ecn Hz Tryd.func71 rfl m458 103 (pnums_x [bl, sz] _ _ _ ((m458.rd (i := 101) rfl).any) (by simp) (b63 (by intro x hx; simp only [List.mem_cons, List.not_mem_nil, or_false] at hx; omega))) fun p459 c459 Az w459 Hz m460 => ?_
     refine ⟨m460.to ⟨il, trivial⟩, ?_⟩
     have m462 := m460.freezeN 100 rfl
     refine so 13 ?_
     refine ecn Hz Tryd.func71 rfl m462 104 (pnums_x [(its.length : Int)] _ _ _ ((m462.rd (i := 100) rfl).any) (by simp) (b63 (by intro x hx; simp only [List.mem_cons, List.not_mem_nil, or_false] at hx; omega))) fun p463 c463 Az w463 Hz m464 => ?_
     refine ⟨m464.to ⟨il, trivial⟩, ?_⟩
     refine ldl 16383 ?_
     exact hD _ _ ⟨_, _, _, _, _, _, Hz.only [1, 19, 25, 26, 31], m464.ren [(8, 8), (9, 9), (10, 102), (11, 103), (12, 104)] (by decide)⟩
    have m466 := m456.freezeN 101 rfl
    refine ecn Hz Tryd.func71 rfl m466 103 (pnums_x [bl, sz] _ _ _ ((m466.rd (i := 101) rfl).any) (by simp) (b63 (by intro x hx; simp only [List.mem_cons, List.not_mem_nil, or_false] at hx; omega))) fun p467 c467 Az w467 Hz m468 => ?_
    refine ⟨fun _ => (m468.to ⟨il, trivial⟩), ?_⟩
    refine dtw 1 13 ?_ ?_
    ·
     refine e_cvN Hz m468 102 rfl rfl U22 U5 rfl fun Az w470 Hz m470 => ?_
     refine ⟨fun _ => (m470.to ⟨il, trivial⟩), ?_⟩
     have m471 := m470.freezeN 100 rfl
     refine so 13 ?_
     refine ecn Hz Tryd.func71 rfl m471 104 (pnums_x [(its.length : Int)] _ _ _ ((m471.rd (i := 100) rfl).any) (by simp) (b63 (by intro x hx; simp only [List.mem_cons, List.not_mem_nil, or_false] at hx; omega))) fun p472 c472 Az w472 Hz m473 => ?_
     refine ⟨m473.to ⟨il, trivial⟩, ?_⟩
     refine ldl 16383 ?_
     exact hD _ _ ⟨_, _, _, _, _, _, Hz.only [1, 19, 25, 26, 31], m473.ren [(8, 8), (9, 9), (10, 102), (11, 103), (12, 104)] (by decide)⟩
    have m475 := m468.freezeN 100 rfl
    refine ecn Hz Tryd.func71 rfl m475 104 (pnums_x [(its.length : Int)] _ _ _ ((m475.rd (i := 100) rfl).any) (by simp) (b63 (by intro x hx; simp only [List.mem_cons, List.not_mem_nil, or_false] at hx; omega))) fun p476 c476 Az w476 Hz m477 => ?_
    refine ⟨fun _ => (m477.to ⟨il, trivial⟩), ?_⟩
    refine so 1 ?_
    refine e_cvN Hz m477 102 rfl rfl U22 U5 rfl fun Az w479 Hz m479 => ?_
    refine ⟨m479.to ⟨il, trivial⟩, ?_⟩
    refine ldl 16383 ?_
    exact hD _ _ ⟨_, _, _, _, _, _, Hz.only [1, 19, 25, 26, 31], m479.ren [(8, 8), (9, 9), (10, 102), (11, 103), (12, 104)] (by decide)⟩
   have m480 := m454.freezeN 101 rfl
   refine ecn Hz Tryd.func71 rfl m480 102 (pnums_x [bl, sz] _ _ _ ((m480.rd (i := 101) rfl).any) (by simp) (b63 (by intro x hx; simp only [List.mem_cons, List.not_mem_nil, or_false] at hx; omega))) fun p481 c481 Az w481 Hz m482 => ?_
   refine ⟨fun _ => (m482.to ⟨il, trivial⟩), ?_⟩
   refine dtw 0 13 ?_ ?_
   ·
    refine e_litN Hz m482 103 (k := .u8) rfl rfl U22 fct4 rfl rfl rfl rfl fun g484 Az w485 Hz m485 => ?_
    refine ⟨fun _ => (m485.to ⟨il, trivial⟩), ?_⟩
    refine dtw 1 13 ?_ ?_
    ·
     refine e_cvN Hz m485 103 rfl rfl U22 U5 rfl fun Az w486 Hz m486 => ?_
     refine ⟨fun _ => (m486.to ⟨il, trivial⟩), ?_⟩
     have m487 := m486.freezeN 100 rfl
     refine so 13 ?_
     refine ecn Hz Tryd.func71 rfl m487 104 (pnums_x [(its.length : Int)] _ _ _ ((m487.rd (i := 100) rfl).any) (by simp) (b63 (by intro x hx; simp only [List.mem_cons, List.not_mem_nil, or_false] at hx; omega))) fun p488 c488 Az w488 Hz m489 => ?_
     refine ⟨m489.to ⟨il, trivial⟩, ?_⟩
     refine ldl 16383 ?_
     exact hD _ _ ⟨_, _, _, _, _, _, Hz.only [1, 19, 25, 26, 31], m489.ren [(8, 8), (9, 9), (10, 103), (11, 102), (12, 104)] (by decide)⟩
    have m491 := m485.freezeN 100 rfl
    refine ecn Hz Tryd.func71 rfl m491 104 (pnums_x [(its.length : Int)] _ _ _ ((m491.rd (i := 100) rfl).any) (by simp) (b63 (by intro x hx; simp only [List.mem_cons, List.not_mem_nil, or_false] at hx; omega))) fun p492 c492 Az w492 Hz m493 => ?_
    refine ⟨fun _ => (m493.to ⟨il, trivial⟩), ?_⟩
    refine so 1 ?_
    refine e_cvN Hz m493 103 rfl rfl U22 U5 rfl fun Az w495 Hz m495 => ?_
    refine ⟨m495.to ⟨il, trivial⟩, ?_⟩
    refine ldl 16383 ?_
    exact hD _ _ ⟨_, _, _, _, _, _, Hz.only [1, 19, 25, 26, 31], m495.ren [(8, 8), (9, 9), (10, 103), (11, 102), (12, 104)] (by decide)⟩
   have m496 := m482.freezeN 100 rfl
   refine ecn Hz Tryd.func71 rfl m496 103 (pnums_x [(its.length : Int)] _ _ _ ((m496.rd (i := 100) rfl).any) (by simp) (b63 (by intro x hx; simp only [List.mem_cons, List.not_mem_nil, or_false] at hx; omega))) fun p497 c497 Az w497 Hz m498 => ?_
   refine ⟨fun _ => (m498.to ⟨il, trivial⟩), ?_⟩
   refine so 0 ?_
   refine e_litN Hz m498 104 (k := .u8) rfl rfl U22 fct4 rfl rfl rfl rfl fun g500 Az w501 Hz m501 => ?_
   refine ⟨m501.to ⟨il, trivial⟩, ?_⟩
   refine so 1 ?_
   refine e_cvN Hz m501 104 rfl rfl U22 U5 rfl fun Az w502 Hz m502 => ?_
   refine ⟨m502.to ⟨il, trivial⟩, ?_⟩
   refine ldl 16383 ?_
   exact hD _ _ ⟨_, _, _, _, _, _, Hz.only [1, 19, 25, 26, 31], m502.ren [(8, 8), (9, 9), (10, 104), (11, 102), (12, 103)] (by decide)⟩
 refine wp_region_lit ?_
 refine goCh Hz (.fa 2 rfl U38 <| .lb m8 20 U2 rfl rfl rfl <| .add rfl rfl (r := fr + 1) (IntWalk.i64_in _ (by omega)) <| .fa 3 rfl U38 <| .lb m8 20 U2 rfl rfl rfl .nil) fun Az Hz => ?_
 refine plz (e_litN Hz m8 21 (k := .i64) rfl rfl U28 fct26 rfl rfl rfl rfl fun g508 Az w509 Hz m509 => ?_)
 have m510 := m509.freezeN 21 rfl
 refine plz (ecn Hz Tryd.func68 rfl m510 22 (pnuml_x [fr + 1, to] _ _ _ ((m510.rd (i := 21) rfl).any) (by simp) (b63 (by intro x hx; simp only [List.mem_cons, List.not_mem_nil, or_false] at hx; omega))) fun p511 c511 Az w511 Hz m512 => ?_)
 have m514 := m512.freezeN 22 rfl
 refine goCh Hz (.assign rfl .nil) fun Az Hz => ?_
 refine wpList_nil ?_
 show K3 _ _
 exact hC3 _ _ ⟨_, _, _, Hz.only [1, 4], m514.ren [(8, 20), (9, 22)] (by decide)⟩
end Go.Proofs.YtcccomafnmdlfaaDoor.K
