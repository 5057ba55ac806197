/- stream: the bytes of a stream: the reference's Put. -/
import Derived.Test.YtcccomafnmdlfaaDoorStr10y
namespace Go.Proofs.YtcccomafnmdlfaaDoor.K
open Go.ChangeShapes Go.WideShapes Go.ChangeAt Go.RowKit
set_option linter.unusedVariables false
set_option linter.unusedSimpArgs false
theorem b64 {l : List Int} (h : ∀ x ∈ l, 0 ≤ x ∧ x ≤ 9223372036854775807) : ∀ k, k < l.length → 0 ≤ l.getD k 0 ∧ l.getD k 0 < 2 ^ 64 := fun k hk => by
 have := b63 h k hk
 omega
set_option maxRecDepth 100000
set_option maxHeartbeats 4000000
theorem rright21_yes (bl sz fr to : Int) (its : List (Int × List Int)) (pi : Option Addr) (ni ci : Nat) (w0 : World) (h1 : Rd (fun _ => True) w0 (.slice pi ni ci) (.l 2 (its.map itD))) (hs : StreamOk bl sz fr to its) :
   Calls Tryd.prog 18 #[.agg #[.int .i64 bl, .int .i64 sz, .int .i64 fr, .int .i64 to, .slice pi ni ci]] w0 fun e w' => e = .returned (.bool true) ∧ Below w0.heap.size w0 w' := by
 refine (rright21_any bl sz fr to its pi ni ci w0 h1 hs.len).mono fun e w' h => ?_
 obtain ⟨b, rfl, hb, hbel⟩ := h
 rw [hb.2 hs]; exact ⟨rfl, hbel⟩
theorem rright21_no (bl sz fr to : Int) (its : List (Int × List Int)) (pi : Option Addr) (ni ci : Nat) (w0 : World) (h1 : Rd (fun _ => True) w0 (.slice pi ni ci) (.l 2 (its.map itD))) (hil : its.length ≤ 256) (hno : ¬ StreamOk bl sz fr to its) :
   Calls Tryd.prog 18 #[.agg #[.int .i64 bl, .int .i64 sz, .int .i64 fr, .int .i64 to, .slice pi ni ci]] w0 fun e w' => e = .returned (.bool false) ∧ Below w0.heap.size w0 w' := by
 refine (rright21_any bl sz fr to its pi ni ci w0 h1 hil).mono fun e w' h => ?_
 obtain ⟨b, rfl, hb, hbel⟩ := h
 cases b
 · exact ⟨rfl, hbel⟩
 exact absurd (hb.1 rfl) hno
theorem rput21_no (bl sz fr to : Int) (its : List (Int × List Int)) (pi : Option Addr) (ni ci : Nat) (w0 : World) (h1 : Rd (fun _ => True) w0 (.slice pi ni ci) (.l 2 (its.map itD))) (hil : its.length ≤ 256) (hno : ¬ StreamOk bl sz fr to its) :
   Calls Tryd.prog 6 #[.agg #[.int .i64 bl, .int .i64 sz, .int .i64 fr, .int .i64 to, .slice pi ni ci]] w0 fun e w' => e = .returned (.tuple #[.slice none 0 0, .int .i64 23]) ∧ Below w0.heap.size w0 w' := by
 obtain rfl : ni = its.length := by obtain ⟨pq, c9, hv, _⟩ := h1.l_shape; injection hv with _ e2 _; rw [List.length_map] at e2; exact e2
 refine ent1 Tryd.func6 rfl Tryd.ntmps6 fun Az Hz => ?_
 have m0 := MemOk.start (fun _ => False) w0
 refine zsr fun K0 hK0 => ?_
 refine plz (e_box Hz m0 20 (cs := [_, _, _, _, _]) rfl rfl rfl fun g1 Az w2 Hz m2 _ _ => ?_)
 refine gz hK0 Hz (.assign rfl <| .assign rfl <| .nil) fun Az Hz => ?_
 refine wsk fun K1 hK1 => ?_
 refine zsr fun K2 hK2 => ?_
 refine goCh Hz (.loadBR m2 (i := 20) rfl rfl U38 rfl fct2 (by simp) (by dsimp only [List.drop, List.take] <;> rfl) .nil) fun Az Hz => ?_
 refine plz (ecb Hz Tryd.func18 rfl m2 (rright21_no bl sz fr to its _ _ _ _ ((h1.now' m2 rfl).any) hil hno) fun Az w7 Hz m8 => ?_)
 refine gz hK2 Hz (.not rfl .nil) fun Az Hz => ?_
 refine wct Hz ?_
 refine regS Hz (.assign rfl <| .assign rfl .nil) fun Az Hz => ?_
 refine rt2 Hz ?_
 exact ⟨rfl, m8.below⟩
theorem rput21_yes (bl sz fr to : Int) (its : List (Int × List Int)) (pi : Option Addr) (ni ci : Nat) (w0 : World) (h1 : Rd (fun _ => True) w0 (.slice pi ni ci) (.l 2 (its.map itD))) (hs : StreamOk bl sz fr to its) (hby : ∀ e ∈ its, BytesL e.2) :
   Calls Tryd.prog 6 #[.agg #[.int .i64 bl, .int .i64 sz, .int .i64 fr, .int .i64 to, .slice pi ni ci]] w0 fun e w' => ∃ (p : Option Addr) (c : Nat), e = .returned (.tuple #[.slice p (strB bl sz fr to its).length c, .int .i64 0]) ∧ w'.ownsRow w0.heap.size 5 1 (.slice p (strB bl sz fr to its).length c) (strB bl sz fr to its).length ((strB bl sz fr to its).map (Value.int .u8)) ∧ Below w0.heap.size w0 w' := by
 obtain rfl : ni = its.length := by obtain ⟨pq, c9, hv, _⟩ := h1.l_shape; injection hv with _ e2 _; rw [List.length_map] at e2; exact e2
 refine ent1 Tryd.func6 rfl Tryd.ntmps6 fun Az Hz => ?_
 have m0 := MemOk.start (fun _ => True) w0
 have hil : its.length ≤ 256 := hs.len
 obtain ⟨⟨b1, b2⟩, ⟨b3, b4⟩, b5, ⟨b6, b7⟩, b8⟩ := hs.head
 have hHB : BytesL (magicB ++ encs [bl, sz, fr + 1, to, (its.length : Int)]) := bytesApp magicBytes (encsBytes (by intro x hx; simp only [List.mem_cons, List.not_mem_nil, or_false] at hx; omega))
 have hHL : (magicB ++ encs [bl, sz, fr + 1, to, (its.length : Int)]).length ≤ 10000 := by have := headB_len bl sz fr to its.length; rw [headB, sealC_len] at this; omega
 have hbl : ∀ k, k ≤ its.length → (headB bl sz fr to its.length ++ itemsB (its.take k)).length ≤ 12000 := fun k hk => by
   have q1 := headB_len bl sz fr to its.length
   have q2 := itemsB_len (its.take k) (fun e he => by have := (hs.it e (List.mem_of_mem_take he)).2; omega)
   rw [List.length_take] at q2
   rw [List.length_append]; omega
 have hq0 := encs_len [bl, sz, fr + 1, to, (its.length : Int)]
 simp only [List.length_cons, List.length_nil] at hq0
 have hq2 : (encs [bl, sz, fr + 1, to, (its.length : Int)]).length ≤ 50 := by omega
 have hq1 : (encs [bl, sz, fr + 1, to, (its.length : Int)]).length ≠ 0 := by have := (enc_len bl).2; rw [encs_cons, List.length_append]; omega
 refine zsr fun K0 hK0 => ?_
 refine plz (e_box Hz m0 20 (cs := [_, _, _, _, _]) rfl rfl rfl fun g1 Az w2 Hz m2 _ _ => ?_)
 refine gz hK0 Hz (.assign rfl <| .assign rfl <| .nil) fun Az Hz => ?_
 refine wsk fun K1 hK1 => ?_
 refine zsr fun K2 hK2 => ?_
 refine goCh Hz (.loadBR m2 (i := 20) rfl rfl U38 rfl fct2 (by simp) (by dsimp only [List.drop, List.take] <;> rfl) .nil) fun Az Hz => ?_
 refine plz (ecb Hz Tryd.func18 rfl m2 (rright21_yes bl sz fr to its _ _ _ _ ((h1.now' m2 rfl).any) hs) fun Az w7 Hz m8 => ?_)
 refine gz hK2 Hz (.not rfl .nil) fun Az Hz => ?_
 refine wcf Hz ?_
 refine zss (hK1 _ _ ?_)
 refine zsr fun K3 hK3 => ?_
 refine plz (e_litN Hz m8 21 (k := .u8) rfl rfl U22 fct4 rfl rfl rfl rfl fun g11 Az w12 Hz m12 => ?_)
 refine plz (e_cvN Hz m12 21 rfl rfl U22 U5 rfl fun Az w13 Hz m13 => ?_)
 refine goCh Hz (.fa 0 rfl U38 <| .lb m13 20 U3 rfl rfl rfl <| .conv rfl U3 U63 (r := bl) (IntWalk.u64_in _ (by omega)) <| .fa 1 rfl U38 <| .lb m13 20 U3 rfl rfl rfl <| .conv rfl U3 U63 (r := sz) (IntWalk.u64_in _ (by omega)) <| .fa 2 rfl U38 <| .lb m13 20 U2 rfl rfl rfl <| .add rfl rfl (r := fr + 1) (IntWalk.i64_in _ (by omega)) <| .conv rfl U2 U63 (r := fr + 1) (IntWalk.u64_in _ (by omega)) <| .fa 3 rfl U38 <| .lb m13 20 U2 rfl rfl rfl <| .conv rfl U2 U63 (r := to) (IntWalk.u64_in _ (by omega)) <| .fa 4 rfl U38 <| .lb m13 20 U36 rfl rfl rfl <| .len rfl U36 <| .conv rfl U3 U63 (r := (its.length : Int)) (IntWalk.u64_in _ (by omega)) .nil) fun Az Hz => ?_
 refine plz (e_litN Hz m13 22 (k := .u64) rfl rfl U90 fct28 rfl rfl rfl rfl fun g31 Az w32 Hz m32 => ?_)
 have m33 := m32.freezeN 22 rfl
 refine plz (ecn Hz Tryd.func20 rfl m33 23 (rput_x [bl, sz, fr + 1, to, (its.length : Int)] _ _ _ ((m33.rd (i := 22) rfl).any) (by simp) (b64 (by intro x hx; simp only [List.mem_cons, List.not_mem_nil, or_false] at hx; omega))) fun p34 c34 Az w34 Hz m35 => ?_)
 refine plz (e_appG Hz m35 24 rfl rfl (m35.nums (i := 21) rfl) (m35.numsO (i := 23) rfl) (by decide) hq1 (by show 5 < 5 + _; omega) U22 fct4 (by decide) (by show 5 + _ ≤ _; have := hq2; omega) rfl fun p37 c37 Az w38 Hz m38 => ?_)
 have m39 := m38.freezeN 24 rfl
 refine plz (ecn Hz Tryd.func19 rfl m39 25 (rseal_x _ _ _ ((m39.rd (i := 24) rfl).any) hHB hHL) fun p40 c40 Az w40 Hz m41 => ?_)
 refine gz hK3 Hz (.assign rfl .nil) fun Az Hz => ?_
 refine wsk fun K4 hK4 => ?_
 replace Hz := Hz.oz [1, 2, 3, 4]
 refine regS Hz (.assign rfl .nil) fun Az Hz => ?_
 refine wp_block ?_
 refine wp_loop_ghost (fun g a w => ∃ (k B : Nat) (b : List Int) (p : Option Addr) (c : Nat), k ≤ its.length ∧ g = its.length - k ∧ b = headB bl sz fr to its.length ++ itemsB (its.take k) ∧ Has 63 [(1, .pointer (some ⟨B, 0, none⟩)), (4, .slice p b.length c), (5, .int .i64 k)] a ∧ MemOk (cxt w0) w0 [(8, .box B 38 [.int .i64 bl, .int .i64 sz, .int .i64 fr, .int .i64 to, .slice pi its.length ci]), (9, .num (.slice p b.length c) 5 .u8 b)] w) (its.length) ?_ ?_
 · exact ⟨0, _, _, _, _, Nat.zero_le _, rfl, (List.append_nil _).symm, Hz.only [1, 4, 5], m41.ren [(8, 20), (9, 25)] (by decide)⟩
 clear Hz m41
 rintro g Az w46 ⟨k, B, b, p, c, hkl, hg, hbe, Hz, m46⟩
 refine wsk fun K5 hK5 => ?_
 refine regS Hz (.move rfl <| .fa 4 rfl U38 <| .lb m46 8 U36 rfl rfl rfl <| .len rfl U36 <| .lss rfl rfl .nil) fun Az Hz => ?_
 refine bc Hz 36 ?_ ?_
 ·
  intro hb52 Hz; try simp only [QQ, Qax] at hb52
  have hk : k < its.length := by have := hb52; first | omega | (simp at this; omega)
  obtain ⟨⟨xb, xd⟩, hes⟩ : ∃ e, its[k]? = some e := ⟨_, List.getElem?_eq_getElem hk⟩
  have hx := hs.it _ (List.mem_of_getElem? hes)
  have hxy := hby _ (List.mem_of_getElem? hes)
  dsimp only at hx hxy
  have hEB : BytesL (encs [xb] ++ xd) := by rw [encs_one]; exact bytesApp (encBytes (by omega)) hxy
  have hEL : (encs [xb] ++ xd).length ≤ 10000 := by rw [encs_one, List.length_append]; have := (enc_len xb).1; omega
  refine wct Hz ?_
  refine zss (hK5 _ _ ?_)
  refine wsk fun K6 hK6 => ?_
  refine wp_block ?_
  obtain ⟨gx54, ox54, vx54, hp54, hl54, hR54, hrg54⟩ := h1.extA (k) (r := [.v (.int .i64 xb), .ns .u8 xd]) (itD_get hes)
  revert Hz
  cases hp54
  rcases hR54 with _ | ⟨hd54_0, _ | ⟨hd54_1, _ | _⟩⟩
  obtain rfl := hd54_0.v_out
  clear hd54_0
  obtain ⟨p55, c55, hv55, hw55⟩ := hd54_1.ns_shape; subst hv55
  intro Hz
  obtain ⟨gx57, ox57, vx57, hp57, hl57, hR57, hrg57⟩ := h1.extA (k) (r := [.v (.int .i64 xb), .ns .u8 xd]) (itD_get hes)
  revert Hz
  cases hp57
  rcases hR57 with _ | ⟨hd57_0, _ | ⟨hd57_1, _ | _⟩⟩
  obtain rfl := hd57_0.v_out
  clear hd57_0
  obtain ⟨p58, c58, hv58, hw58⟩ := hd57_1.ns_shape; subst hv58
  intro Hz
  have m59 := m46.oz [8, 9]
  refine region_p 18 (B := [(8, _), (9, _)]) (m59.to ⟨il, il, trivial⟩) m59 (by kernel_rfl) (fun w60 hP60 m60 => ?_); clear m59
  refine goR hP60 [0, 1, 2, 3, 4, 5, 6, 7, 10, 11, 12, 13, 14, 15] [2, 6, 11, 15] 14 0 64767 Hz (m60.to ⟨il, il, trivial⟩) (.move rfl <| .fa 4 rfl U38 <| .lb hh 8 U36 rfl rfl rfl <| .move rfl <| .p (fun _ _ h => y_idx h rfl rfl U36 fct1 (k) rfl hk) <| .fieldAddrQ 0 rfl U48 rfl (s := 0) (by kernel_rfl) rfl <| .loadAt1 (fun _ h => (hrg54 h rfl)) (q := 0) rfl rfl rfl U3 rfl <| .conv rfl U3 U63 (r := xb) (IntWalk.u64_in _ (by omega)) <| .fa 4 rfl U38 <| .lb hh 8 U36 rfl rfl rfl <| .move rfl <| .p (fun _ _ h => y_idx h rfl rfl U36 fct1 (k) rfl hk) <| .fieldAddrQ 1 rfl U48 rfl (s := 0) (by kernel_rfl) rfl <| .loadAt1 (fun _ h => (hrg57 h rfl)) (q := 1) rfl rfl rfl U22 rfl .nil) fun Az Hz => ?_
  refine so 8 ?_
  refine e_litN Hz m60 102 (k := .u64) rfl rfl U90 fct28 rfl rfl rfl rfl fun g75 Az w76 Hz m76 => ?_
  refine ⟨m76.to ⟨il, il, trivial⟩, ?_⟩
  have m77 := m76.freezeN 102 rfl
  refine so 9 ?_
  refine ecn Hz Tryd.func20 rfl m77 103 (rput_x [xb] _ _ _ ((m77.rd (i := 102) rfl).any) (by simp) (b64 (by intro x hx; simp only [List.mem_cons, List.not_mem_nil, or_false] at hx; omega))) fun p78 c78 Az w78 Hz m79 => ?_
  refine ⟨m79.to ⟨il, il, trivial⟩, ?_⟩
  refine so 16 ?_
  refine e_appN Hz m79 103 rfl rfl rfl (hd57_1.now' m79 rfl).ns_out.nums U22 fct4 (by decide) (by have q1 := encs_len [xb]; simp only [List.length_cons, List.length_nil] at q1; omega) rfl fun p81 c81 Az w82 Hz m82 => ?_
  refine ⟨m82.to ⟨il, il, trivial⟩, ?_⟩
  have m83 := m82.freezeN 103 rfl
  refine so 17 ?_
  refine ecn Hz Tryd.func19 rfl m83 104 (rseal_x _ _ _ ((m83.rd (i := 103) rfl).any) hEB hEL) fun p84 c84 Az w84 Hz m85 => ?_
  refine ⟨m85.to ⟨il, il, trivial⟩, ?_⟩
  refine se 18 ?_
  refine e_appN Hz m85 9 rfl rfl rfl (m85.numsO (i := 104) rfl) U22 fct4 (by decide) (by have q1 := hbl k hkl; rw [← hbe] at q1; rw [sealC_len]; omega) rfl fun p87 c87 Az w88 Hz m88 => ?_
  refine goB hP60 [19] 1 524287 1048575 Hz (.assign rfl .nil) fun Az Hz => ?_
  refine wpAnyE_done (by kernel_rfl) ?_ _
  refine hK6 _ _ ?_
  replace Hz := Hz.oz [1, 4, 5]
  refine wp_region_lit ?_
  refine goCh Hz (.move rfl <| .inc (k + 1) <| .assign rfl .nil) fun Az Hz => ?_
  refine wpList_nil ?_
  show ∃ n', n' < _ ∧ _
  have hE : b ++ sealC (encs [xb] ++ xd) = headB bl sz fr to its.length ++ itemsB (its.take (k + 1)) := by rw [encs_one, hbe, itemsB_snoc hes, List.append_assoc]; rfl
  exact ⟨its.length - (k + 1), by omega, k + 1, _, _, _, _, by omega, rfl, hE, Hz.only [1, 4, 5], m88.ren [(8, 8), (9, 9)] (by decide)⟩
 intro hb52 Hz; try simp only [QQ, Qax] at hb52
 have hke : k = its.length := by have := hb52; first | omega | (simp at this; omega)
 rw [hke, List.take_length] at hbe
 have hBB : BytesL b := by rw [hbe]; exact bodyBytes hs hby
 have hBL : b.length ≤ 12000 := by rw [hbe]; exact body_len hs
 refine wcf Hz ?_
 refine wp_exit ?_
 refine hK4 _ _ ?_
 refine zsr fun K7 hK7 => ?_
 refine goCh Hz (.move rfl <| .move rfl .nil) fun Az Hz => ?_
 refine plz (ecb Hz Tryd.func22 rfl m46 (rsum_x (m46.numsO (i := 9) rfl) hBB (by omega)) fun Az w98 Hz m99 => ?_)
 refine plz (ecn Hz Tryd.func21 rfl m99 100 (rfour_x _ _ (sumC_range _)) fun p101 c101 Az w101 Hz m102 => ?_)
 refine plz (e_appN Hz m102 9 rfl rfl rfl (m102.numsO (i := 100) rfl) U22 fct4 (by decide) (by rw [fourC_len]; omega) rfl fun p104 c104 Az w105 Hz m105 => ?_)
 refine gz hK7 Hz (.assign rfl <| .assign rfl <| .nil) fun Az Hz => ?_
 refine rt2 Hz ?_
 revert Hz
 subst hbe
 intro Hz
 exact ⟨_, _, rfl, m105.ok 9 _ rfl, m105.below⟩
end Go.Proofs.YtcccomafnmdlfaaDoor.K
