/- volume: noughts, itemsOf. -/
import Derived.Test.YtocfbocdnklllaaGreatVol5
import Derived.Test.YtocfbocdnklllaaGreatG2
namespace Go.Proofs.YtocfbocdnklllaaGreat.K
open Go.ChangeShapes Go.WideShapes Go.ChangeAt Go.RowKit
set_option linter.unusedVariables false
set_option linter.unusedSimpArgs false

theorem inf5no : (Tryz.prog.info? 5).map (fun i => (i.zero, i.size, i.bytes)) = some (some (.int .u8 0), 1, 1) := by kernel_rfl
theorem inf22no : (Tryz.prog.info? 22).map (fun i => (i.zero, i.size, i.bytes)) = some (some (.slice none 0 0), 1, 24) := by kernel_rfl
theorem fl56io : flatS Tryz.prog 56 [.int .i64 0, .slice none 0 0] = true := by kernel_rfl
theorem inf56io : (Tryz.prog.info? 56).map (fun i => (i.zero, i.size, i.bytes)) = some (some (.agg #[.int .i64 0, .slice none 0 0]), 2, 32) := by kernel_rfl
theorem sz56io : (Tryz.prog.info? 56).map (·.size) = some 2 := by kernel_rfl
theorem zc56io : ((Tryz.prog.info? 56).bind (·.zero)).map (·.cells.toList) = some [.int .i64 0, .slice none 0 0] := by kernel_rfl

def bD (l : List Int) : List D := [.ns .u8 l]
def itemsL (fi cn9 : Int) (es : List (Int × List Int)) : List (Int × List Int) := (es.filter (fun x => decide (fi ≤ x.1 ∧ x.1 ≤ fi + cn9 - 1))).map (fun x => (x.1 - fi, x.2))
theorem itemsL_yes {fi cn9 : Int} {es : List (Int × List Int)} {k : Nat} {xb : Int} {xd : List Int} (h : es[k]? = some (xb, xd)) (hb : fi ≤ xb ∧ xb ≤ fi + cn9 - 1) : itemsL fi cn9 (es.take (k + 1)) = itemsL fi cn9 (es.take k) ++ [(xb - fi, xd)] := by
 unfold itemsL
 rw [take_snoc h, List.filter_append, List.map_append]
 simp [hb]
theorem itemsL_no {fi cn9 : Int} {es : List (Int × List Int)} {k : Nat} {xb : Int} {xd : List Int} (h : es[k]? = some (xb, xd)) (hb : ¬ (fi ≤ xb ∧ xb ≤ fi + cn9 - 1)) : itemsL fi cn9 (es.take (k + 1)) = itemsL fi cn9 (es.take k) := by
 unfold itemsL
 rw [take_snoc h, List.filter_append, List.map_append]
 simp; omega
theorem itemsL_len (fi cn9 : Int) (es : List (Int × List Int)) : (itemsL fi cn9 es).length ≤ es.length := by
 unfold itemsL; rw [List.length_map]; exact List.length_filter_le _ _
set_option maxRecDepth 100000
set_option maxHeartbeats 4000000
theorem noughts_any (bl sz : Int) (n z : Nat) (w0 : World) (hn : min bl 256 = n) (hz : min (max sz 0) 32 = z) :
   Calls Tryz.prog 29 #[.int .i64 bl, .int .i64 sz] w0 fun e w' => ∃ p c, e = .returned (.slice p ((List.replicate n (List.replicate z 0)).map bD).length c) ∧ RowOk w0.heap.size (fun b => Out (fun _ => False) w0 b ∧ (Value.slice p ((List.replicate n (List.replicate z 0)).map bD).length c).ownBlock ≠ some b) w' (.slice p ((List.replicate n (List.replicate z 0)).map bD).length c) 22 1 ((List.replicate n (List.replicate z 0)).map bD) ∧ Below w0.heap.size w0 w' := by
 refine enter (fn := Tryz.f29) Tryz.func29 rfl Tryz.ntmps29 rfl (fun Az Hz => ?_)
 simp only [List.zipIdx_cons, List.zipIdx_nil, List.map_cons, List.map_nil, Nat.reduceAdd, Nat.zero_add] at Hz
 have m0 := MemOk.start (fun _ => False) w0
 refine regS Hz (.assign rfl <| .nil) ?_
 clear Hz Az; intro Az Hz
 refine regS Hz (.assign rfl <| .nil) ?_
 clear Hz Az; intro Az Hz
 refine wp_seq_k (fun K0 hK0 => ?_)
 refine regS Hz (.move rfl <| .c rfl (fun _ h => y_min h rfl rfl rfl) <| .move rfl <| .nil) ?_
 clear Hz Az; intro Az Hz
 refine wp_block ?_
 refine wp_loop_ghost (fun g a w => ∃ (k : Nat) (p : Option Addr) (c : Nat), k ≤ n ∧ g = n - k ∧ Has 19 [(1, .int .i64 sz), (5, .slice p ((List.replicate k (List.replicate z 0)).map bD).length c), (7, .int .i64 (min bl 256)), (8, .int .i64 k)] a ∧ MemOk (cn w0) w0 [(9, .row (.slice p ((List.replicate k (List.replicate z 0)).map bD).length c) 22 1 ((List.replicate k (List.replicate z 0)).map bD))] w) (n) ?_ ?_
 · have mz := m0.nilR 9 22 1
   exact ⟨0, _, _, Nat.zero_le _, rfl, Hz.only [1, 5, 7, 8], mz.only [9]⟩
 ·
  clear Hz m0
  rintro g Az w6 ⟨k, p, c, hkl, hg, Hz, m6⟩
  refine regS Hz (.lss rfl rfl <| .nil) ?_
  clear Hz Az; intro Az Hz
  refine wp_seq_k (fun K1 hK1 => ?_)
  refine bool_cases Hz (t := 9) rfl ?_ ?_
  ·
   clear Hz; intro hb8 Hz
   try simp only [Q1x, Q2x, Q3x, Q4x, Q5x, Q6x, Q7x, Q8x, Q9x, Q0x, Qax, Qbx] at hb8
   have hk : k < n := by omega
   refine wp_cond_true (Hz.ev (x := .tmp 9) rfl) ?_
   refine wp_skip ?_
   refine hK1 _ _ ?_; clear hK1; try clear K1
   refine wp_seq_k (fun K2 hK2 => ?_)
   refine wp_block ?_
   refine wp_region_lit ?_
   refine goCh Hz (.move rfl <| .move rfl <| .c rfl (fun _ h => y_max h rfl rfl rfl) <| .c rfl (fun _ h => y_min h rfl rfl rfl) <| .nil) ?_
   clear Hz Az; intro Az Hz
   refine wpList_plain rfl (fun K hK => ?_)
   refine e_makeN Hz m6 100 (z) rfl rfl hz hz Tryz.underlying22 inf5no (by decide) (by omega) rfl ?_
   clear Hz Az m6; intro p13 c13 Az w14 Hz m14
   refine hK _ _ ?_; clear hK K
   have m16 := m14.freezeN 100 rfl; clear m14
   refine wpList_plain rfl (fun K hK => ?_)
   refine e_litR Hz m16 101 (mm := 1) rfl (.cons rfl rfl (.cons (m16.rd (i := 100) rfl) .nil) <| .nil) Tryz.underlying36 inf22no rfl rfl rfl rfl rfl ?_
   clear Hz Az m16; intro g15 Az w17 Hz m17
   refine hK _ _ ?_; clear hK K
   have m19 := m17.freezeR 101 rfl; clear m17
   refine wpList_plain rfl (fun K hK => ?_)
   refine e_appR Hz m19 9 rfl rfl rfl (m19.rd (i := 101) rfl) Tryz.underlying36 inf22no rfl rfl (by decide) (by simp; omega) rfl ?_
   clear Hz Az m19; intro p18 c18 Az w20 Hz m20
   refine hK _ _ ?_; clear hK K
   refine goCh Hz (.assign rfl .nil) ?_
   clear Hz Az; intro Az Hz
   refine wpList_nil ?_
   refine hK2 _ _ ?_; clear hK2; try clear K2
   replace Hz : Has 19 [(1, _), (5, _), (7, _), (8, _)] Az := Hz.only [1, 5, 7, 8]
   refine wp_region_lit ?_
   refine goCh Hz (.add rfl rfl (r := ((k + 1 : Nat) : Int)) (by rw [IntWalk.i64_in _ (by omega)]; omega) <| .move rfl <| .nil) ?_
   clear Hz Az; intro Az Hz
   refine wpList_nil ?_
   show ∃ n', n' < _ ∧ _
   have hE : (List.replicate k (List.replicate z 0)).map bD ++ [[D.ns .u8 (List.replicate z 0)]] = (List.replicate (k + 1) (List.replicate z 0)).map bD := by rw [List.replicate_succ', List.map_append]; rfl
   rw [hE] at m20 Hz
   exact ⟨n - (k + 1), by omega, k + 1, _, _, by omega, rfl, Hz.only [1, 5, 7, 8], m20.only [9]⟩
  ·
   clear Hz; intro hb8 Hz
   try simp only [Q1x, Q2x, Q3x, Q4x, Q5x, Q6x, Q7x, Q8x, Q9x, Q0x, Qax, Qbx] at hb8
   obtain rfl : k = n := by omega
   refine wp_cond_false (Hz.ev (x := .tmp 9) rfl) ?_
   refine wp_exit ?_
   refine hK0 _ _ ?_; clear hK0; try clear K0
   refine regS Hz (.move rfl <| .assign rfl <| .nil) ?_
   clear Hz Az; intro Az Hz
   refine wp_ret ?_
   try dsimp only [Exit.then, Exit.inBlock]
   refine (ret1 (fn := Tryz.f29) Hz rfl rfl ?_)
   exact ⟨_, _, rfl, m6.outR (i := 9) rfl, m6.below⟩
theorem itemsOf_any (fi cn9 sq : Int) (es : List (Int × List Int)) (p0 : Option Addr) (c0 nn : Nat) (w0 : World) (h0 : Rd (fun _ => True) w0 (.slice p0 nn c0) (.l 2 (es.map itD))) (hl : es.length ≤ 1000000) (hok : ItsOk es) (hf : 0 ≤ fi ∧ fi ≤ 1000000) (hc : 0 ≤ cn9 ∧ cn9 ≤ 1000000) :
   Calls Tryz.prog 26 #[.agg #[.int .i64 sq, .slice p0 nn c0], .int .i64 fi, .int .i64 cn9] w0 fun e w' => ∃ p c, e = .returned (.slice p ((itemsL fi cn9 es).map itD).length c) ∧ Rd (New w0) w' (.slice p ((itemsL fi cn9 es).map itD).length c) (.l 2 ((itemsL fi cn9 es).map itD)) ∧ Below w0.heap.size w0 w' := by
 obtain rfl : nn = es.length := by obtain ⟨pq, cq, hv, _⟩ := h0.l_shape; injection hv with _ e2 _; rw [List.length_map] at e2; exact e2
 refine enter (fn := Tryz.f26) Tryz.func26 rfl Tryz.ntmps26 rfl (fun Az Hz => ?_)
 simp only [List.zipIdx_cons, List.zipIdx_nil, List.map_cons, List.map_nil, Nat.reduceAdd, Nat.zero_add] at Hz
 have m0 := MemOk.start (fun _ => False) w0
 refine wp_seq_k (fun K0 hK0 => ?_)
 refine wp_region_lit ?_
 refine wpList_plain rfl (fun K hK => ?_)
 refine e_box Hz m0 20 (cs := [_, _]) rfl rfl rfl ?_
 clear Hz Az m0; intro g1 Az w2 Hz m2 hB2 hg2
 clear hB2 hg2
 refine hK _ _ ?_; clear hK K
 refine goCh Hz (.assign rfl .nil) ?_
 clear Hz Az; intro Az Hz
 refine wpList_nil ?_
 refine hK0 _ _ ?_; clear hK0; try clear K0
 refine regS Hz (.assign rfl <| .nil) ?_
 clear Hz Az; intro Az Hz
 refine wp_seq_k (fun K1 hK1 => ?_)
 refine regS Hz (.fieldAddr (off := 1) rfl Tryz.underlying58 rfl (s := 0) (by kernel_rfl) rfl <| .loadB1 m2 (i := 20) rfl rfl rfl Tryz.underlying48 rfl <| .len rfl Tryz.underlying48 <| .move rfl <| .nil) ?_
 clear Hz Az; intro Az Hz
 refine wp_block ?_
 refine wp_loop_ghost (fun g a w => ∃ (k : Nat) (p : Option Addr) (c : Nat), k ≤ es.length ∧ g = es.length - k ∧ Has 38 [(1, .int .i64 fi), (2, .int .i64 cn9), (7, .slice p ((itemsL fi cn9 (es.take k)).map itD).length c), (11, .slice p0 es.length c0), (12, .int .i64 es.length), (13, .int .i64 k)] a ∧ MemOk (cn w0) w0 [(9, .row (.slice p ((itemsL fi cn9 (es.take k)).map itD).length c) 56 2 ((itemsL fi cn9 (es.take k)).map itD))] w) (es.length) ?_ ?_
 · have mz := m2.nilR 9 56 2
   exact ⟨0, _, _, Nat.zero_le _, rfl, Hz.only [1, 2, 7, 11, 12, 13], mz.only [9]⟩
 ·
  clear Hz m2
  rintro g Az w9 ⟨k, p, c, hkl, hg, Hz, m9⟩
  refine regS Hz (.lss rfl rfl <| .nil) ?_
  clear Hz Az; intro Az Hz
  refine wp_seq_k (fun K2 hK2 => ?_)
  refine bool_cases Hz (t := 14) rfl ?_ ?_
  ·
   clear Hz; intro hb11 Hz
   try simp only [Q1x, Q2x, Q3x, Q4x, Q5x, Q6x, Q7x, Q8x, Q9x, Q0x, Qax, Qbx] at hb11
   have hk : k < es.length := by omega
   obtain ⟨⟨xb, xd⟩, hes⟩ : ∃ e, es[k]? = some e := ⟨_, List.getElem?_eq_getElem hk⟩
   have hed := hok _ (List.mem_of_getElem? hes)
   dsimp only at hed
   refine wp_cond_true (Hz.ev (x := .tmp 14) rfl) ?_
   refine wp_skip ?_
   refine hK2 _ _ ?_; clear hK2; try clear K2
   refine wp_seq_k (fun K3 hK3 => ?_)
   refine wp_block ?_
   refine wp_seq_k (fun K4 hK4 => ?_)
   refine wp_region_lit ?_
   obtain ⟨gx13, ox13, vx13, hp13, hl13, hR13, hrg13⟩ := h0.extA (k) (r := [.v (.int .i64 xb), .ns .u8 xd]) (itD_get hes)
   cases hp13; clear hl13
   rcases hR13 with _ | ⟨hd13_0, _ | ⟨hd13_1, _ | _⟩⟩
   obtain rfl := hd13_0.v_out
   clear hd13_0
   obtain ⟨p14, c14, hv14, hw14⟩ := hd13_1.ns_shape; subst hv14
   refine goCh Hz (.c rfl (fun _ h => y_idx h rfl rfl Tryz.underlying48 sz56io (k) rfl hk) <| .loadAt (hrg13 m9 rfl) rfl Tryz.underlying56 rfl sz56io <| .nil) ?_
   clear Hz Az; intro Az Hz
   refine wpList_plain rfl (fun K hK => ?_)
   refine e_alloc Hz m9 101 zc56io rfl ?_
   clear Hz Az m9; intro g17 Az w18 Hz m18 hB18 hg18
   clear hB18 hg18
   refine hK _ _ ?_; clear hK K
   refine wpList_plain rfl (fun K hK => ?_)
   refine e_storeW Hz m18 101 rfl rfl rfl rfl rfl sz56io ?_
   clear m18; intro w19 m19 hB19
   clear hB19
   refine hK _ _ ?_; clear hK K
   refine wpList_nil ?_
   refine hK4 _ _ ?_; clear hK4; try clear K4
   refine wp_seq_k (fun K5 hK5 => ?_)
   refine wp_region_lit ?_
   refine goCh Hz (.fieldAddr (off := 0) rfl Tryz.underlying56 rfl (s := 0) (by kernel_rfl) rfl <| .loadB1 m19 (i := 101) rfl rfl rfl Tryz.underlying3 rfl <| .move rfl <| .move rfl <| .move rfl <| .add rfl rfl (r := fi + cn9) (IntWalk.i64_in _ (by omega)) <| .sub rfl rfl (r := fi + cn9 - 1) (IntWalk.i64_in _ (by omega)) <| .nil) ?_
   clear Hz Az; intro Az Hz
   refine wpList_plain rfl (fun K hK => ?_)
   refine e_call Hz Tryz.func30 rfl rfl rfl rfl (within_any _ _ _ _) ?_
   rintro e w34 ⟨rfl, hb34⟩
   have m35 := m19.later hb34
   clear m19
   clear hb34
   refine ⟨_, rfl, ?_⟩; clear Hz Az; intro Az Hz
   refine hK _ _ ?_; clear hK K
   refine wpList_nil ?_
   refine hK5 _ _ ?_; clear hK5; try clear K5
   refine bool_cases Hz (t := 24) rfl ?_ ?_
   ·
    clear Hz; intro hb37 Hz
    try simp only [Q1x, Q2x, Q3x, Q4x, Q5x, Q6x, Q7x, Q8x, Q9x, Q0x, Qax, Qbx] at hb37
    refine wp_cond_true (Hz.ev (x := .tmp 24) rfl) ?_
    replace Hz : Has 38 [(1, _), (2, _), (7, _), (11, _), (12, _), (13, _), (9, _), (24, _)] Az := Hz.only [1, 2, 7, 11, 12, 13, 9, 24]
    have m39 : MemOk _ _ [(9, _), (101, _)] _ := m35.only [9, 101]; clear m35
    refine region_p 10 (B := [(9, _), (101, _)]) (m39.to ⟨il, il, trivial⟩) m39 (by kernel_rfl) (fun w40 hP40 m40 => ?_); clear m39
    refine goR hP40 [0, 1, 2, 3, 4, 5, 6] [2, 6] 7 0 127 Hz (m40.to ⟨il, il, trivial⟩) (.move rfl <| .fieldAddr (off := 0) rfl Tryz.underlying56 rfl (s := 0) (by kernel_rfl) rfl <| .loadB1 hh (i := 101) rfl rfl rfl Tryz.underlying3 rfl <| .move rfl <| .sub rfl rfl (r := xb - fi) (IntWalk.i64_in _ (by omega)) <| .fieldAddr (off := 1) rfl Tryz.underlying56 rfl (s := 0) (by kernel_rfl) rfl <| .loadB1 hh (i := 101) rfl rfl rfl Tryz.underlying22 rfl <| .nil) ?_
    clear Hz Az; intro Az Hz
    refine stepE_only 7 rfl (by kernel_rfl) rfl (fun K hK => ?_)
    refine e_call Hz Tryz.func31 rfl rfl rfl rfl (plainB_any xd _ _ _ ((hd13_1.now' m40 rfl).any) hed) ?_
    rintro e w48 ⟨p48, c48, rfl, hd48, hb48⟩
    have m49 := m40.callF 102 rfl hb48 hd48
    clear m40
    clear hb48 hd48
    refine ⟨_, rfl, ?_⟩; clear Hz Az; intro Az Hz
    refine hK _ _ (m49.to ⟨il, il, trivial⟩) ?_; clear hK K
    refine goA hP40 [8] 1 255 511 Hz (m49.to ⟨il, il, trivial⟩) (.build rfl zc56io fl56io rfl (by dsimp only [setL, List.set] <;> rfl) <| .nil) ?_
    clear Hz Az; intro Az Hz
    refine stepE_only 9 rfl (by kernel_rfl) rfl (fun K hK => ?_)
    refine e_litR Hz m49 103 (mm := 2) rfl (.cons rfl rfl (.cons (.v _) (.cons (m49.rd (i := 102) rfl) .nil)) <| .nil) Tryz.underlying48 inf56io rfl rfl rfl rfl rfl ?_
    clear Hz Az m49; intro g52 Az w53 Hz m53
    refine hK _ _ (m53.to ⟨il, il, trivial⟩) ?_; clear hK K
    have m55 := m53.freezeR 103 rfl; clear m53
    refine stepE_end 10 rfl (by kernel_rfl) rfl (by rfl) (fun K hK => ?_)
    refine e_appR Hz m55 9 rfl rfl rfl (m55.rd (i := 103) rfl) Tryz.underlying48 inf56io rfl rfl (by decide) (by have := itemsL_len fi cn9 (es.take k); rw [List.length_take] at this; simp; omega) rfl ?_
    clear Hz Az m55; intro p54 c54 Az w56 Hz m56
    refine hK _ _ ?_; clear hK K
    refine goB hP40 [11] 1 2047 4095 Hz (.assign rfl <| .nil) ?_
    clear Hz Az; intro Az Hz
    refine wpAnyE_done (by kernel_rfl) ?_ _
    refine hK3 _ _ ?_; clear hK3; try clear K3
    replace Hz : Has 38 [(1, _), (2, _), (7, _), (11, _), (12, _), (13, _), (24, _)] Az := Hz.only [1, 2, 7, 11, 12, 13, 24]
    refine wp_region_lit ?_
    refine goCh Hz (.add rfl rfl (r := ((k + 1 : Nat) : Int)) (by rw [IntWalk.i64_in _ (by omega)]; omega) <| .move rfl <| .nil) ?_
    clear Hz Az; intro Az Hz
    refine wpList_nil ?_
    show ∃ n', n' < _ ∧ _
    have hE : (itemsL fi cn9 (es.take k)).map itD ++ [[D.v (.int .i64 (xb - fi)), .ns .u8 xd]] = (itemsL fi cn9 (es.take (k + 1))).map itD := by rw [itemsL_yes hes (by omega), List.map_append]; rfl
    rw [hE] at m56 Hz
    exact ⟨es.length - (k + 1), by omega, k + 1, _, _, by omega, rfl, Hz.only [1, 2, 7, 11, 12, 13], m56.only [9]⟩
   ·
    clear Hz; intro hb37 Hz
    try simp only [Q1x, Q2x, Q3x, Q4x, Q5x, Q6x, Q7x, Q8x, Q9x, Q0x, Qax, Qbx] at hb37
    refine wp_cond_false (Hz.ev (x := .tmp 24) rfl) ?_
    refine wp_skip ?_
    refine hK3 _ _ ?_; clear hK3; try clear K3
    replace Hz : Has 38 [(1, _), (2, _), (7, _), (11, _), (12, _), (13, _), (24, _)] Az := Hz.only [1, 2, 7, 11, 12, 13, 24]
    refine wp_region_lit ?_
    refine goCh Hz (.add rfl rfl (r := ((k + 1 : Nat) : Int)) (by rw [IntWalk.i64_in _ (by omega)]; omega) <| .move rfl <| .nil) ?_
    clear Hz Az; intro Az Hz
    refine wpList_nil ?_
    show ∃ n', n' < _ ∧ _
    have hE : itemsL fi cn9 (es.take k) = itemsL fi cn9 (es.take (k + 1)) := (itemsL_no hes (by omega)).symm
    rw [hE] at m35 Hz
    exact ⟨es.length - (k + 1), by omega, k + 1, _, _, by omega, rfl, Hz.only [1, 2, 7, 11, 12, 13], m35.only [9]⟩
  ·
   clear Hz; intro hb11 Hz
   try simp only [Q1x, Q2x, Q3x, Q4x, Q5x, Q6x, Q7x, Q8x, Q9x, Q0x, Qax, Qbx] at hb11
   obtain rfl : k = es.length := by omega
   refine wp_cond_false (Hz.ev (x := .tmp 14) rfl) ?_
   refine wp_exit ?_
   refine hK1 _ _ ?_; clear hK1; try clear K1
   refine regS Hz (.move rfl <| .assign rfl <| .nil) ?_
   clear Hz Az; intro Az Hz
   refine wp_ret ?_
   try dsimp only [Exit.then, Exit.inBlock]
   refine (ret1 (fn := Tryz.f26) Hz rfl rfl ?_)
   rw [List.take_length] at *
   have m66 := m9.freezeR 9 rfl; clear m9
   exact ⟨_, _, rfl, m66.outF (i := 9) rfl, m66.below⟩
end Go.Proofs.YtocfbocdnklllaaGreat.K
