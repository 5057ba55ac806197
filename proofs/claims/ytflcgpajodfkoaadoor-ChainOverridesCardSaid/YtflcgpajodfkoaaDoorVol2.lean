/- parts: copies of items, writes, volumes. -/
import Derived.Test.YtflcgpajodfkoaaDoorVol1
namespace Go.Proofs.YtflcgpajodfkoaaDoor.K
open Go.ChangeShapes Go.WideShapes Go.ChangeAt Go.RowKit
set_option linter.unusedVariables false
set_option linter.unusedSimpArgs false
def itD (x : Int × List Int) : List D := [.v (.int .i64 x.1), .ns .u8 x.2]
def wrD (x : Int × List (Int × List Int)) : List D := [.v (.int .i64 x.1), .l 2 (x.2.map itD)]
theorem itD_get {A : List (Int × List Int)} {k : Nat} {b : Int} {d : List Int} (h : A[k]? = some (b, d)) : (A.map itD)[k]? = some [.v (.int .i64 b), .ns .u8 d] := by simp [h, itD]
theorem wrD_get {A : List (Int × List (Int × List Int))} {k : Nat} {b : Int} {d : List (Int × List Int)} (h : A[k]? = some (b, d)) : (A.map wrD)[k]? = some [.v (.int .i64 b), .l 2 (d.map itD)] := by simp [h, wrD]
def ItsOk (es : List (Int × List Int)) : Prop := ∀ e ∈ es, e.2.length ≤ 140737488351232
def WrsOk (ws : List (Int × List (Int × List Int))) : Prop := ∀ e ∈ ws, e.2.length ≤ 1000000 ∧ ItsOk e.2
theorem take_snoc {α : Type} {l : List α} {k : Nat} {x : α} (h : l[k]? = some x) : l.take (k + 1) = l.take k ++ [x] := by
 obtain ⟨hk, e⟩ := List.getElem?_eq_some_iff.1 h
 rw [List.take_succ_eq_append_getElem hk, e]
theorem rowNil {N : Nat} {S : Nat → Prop} {w : World} {v : Value} {e : TypeId} {k : Nat} (h : w.ownsRow N e k v 0 []) : RowOk N S w v e k [] := ⟨[], by simpa using h, rfl, by simp, by simp, by simp⟩
set_option maxRecDepth 100000
set_option maxHeartbeats 4000000
theorem growI_any_inf : (Tryd.prog.info? 58).map (fun i => (i.zero, i.size, i.bytes)) = some (some (.agg #[.int .i64 0, .slice none 0 0]), 2, 32) := by kernel_rfl
theorem growI_any (n : Nat) (w : World) (hn : n ≤ 100000000) :
   Calls Tryd.prog 100 #[.slice none 0 0, .int .i64 n] w fun e w' => ∃ p c, e = .returned (.slice p 0 c) ∧ w'.ownsRow w.heap.size 58 2 (.slice p 0 c) 0 [] ∧ Below w.heap.size w w' := by
 by_cases h0 : n = 0
 · subst h0
   go_enter Tryd.func100, Tryd.ntmps100
   go_wp2
   go_ret
   exact ⟨_, _, rfl, World.ownsRow_nil _ _ _ _, Below.refl _ _⟩
 obtain ⟨i0, hi, hz0, hz1, hz2⟩ := info_parts growI_any_inf
 have hbn : n * i0.bytes ≤ 140737488355328 := by rw [hz2]; omega
 obtain ⟨z, hz⟩ : ∃ z : Value, (.agg #[.int .i64 0, .slice none 0 0]) = z := ⟨_, rfl⟩
 have hzc : z.cells.size = 2 := by rw [← hz]; rfl
 rw [hz] at hz0
 have hrz : ∀ ty, (Builtin.append_ #[33, 3] ty #[.slice none 0 0, .int .i64 (n : Int)]).run Tryd.prog w =
     .ok (.slice (some ⟨w.heap.size, 0, none⟩) n (grownCap w n 0 58)) (w.drew.alloc (.cells (#[] ++ Builtin.zeroCells z.cells n ++ Builtin.zeroCells z.cells (grownCap w n 0 58 - n)) 58)) := fun ty => by
   have h := Lib.run_append_grow_zeros w 33 3 ty 58 i0 z .i64 .i64 U33 U3 hi hz0 none 0 0 [] (run_firstCells_none w.drew i0.size 0 0 0) n (by omega) (by omega) (by omega) (by omega) (by omega)
     (by rw [Nat.zero_add]; exact growslice_fits (by omega) hbn)
   rw [Nat.zero_add] at h
   exact h
 have hG := grownCap_ge w n 0 58
 have hM := grownCap_le_maxLen w n 0 58 (by unfold maxLen; omega)
 generalize grownCap w n 0 58 = G at hrz hG hM
 have hown : (w.drew.alloc (.cells (#[] ++ Builtin.zeroCells z.cells n ++ Builtin.zeroCells z.cells (G - n)) 58)).ownsRow w.heap.size 58 2 (.slice (some ⟨w.heap.size, 0, none⟩) 0 G) 0 [] := by
   refine World.ownsRow_made w.drew _ G (Nat.le_refl _) hM ?_
   simp [size_zeroCells, hzc]
   omega
 have hbel : Below w.heap.size w (w.drew.alloc (.cells (#[] ++ Builtin.zeroCells z.cells n ++ Builtin.zeroCells z.cells (G - n)) 58)) := ((Below.refl _ w).drew).alloc (Nat.le_refl _) _
 generalize (w.drew.alloc (.cells (#[] ++ Builtin.zeroCells z.cells n ++ Builtin.zeroCells z.cells (G - n)) 58)) = W' at hrz hown hbel
 have HO := Lib.hid hown
 have HB := Lib.hid hbel
 clear hown hbel hi hz0 hz1 hz2 hz hzc
 unfold maxLen at hM
 go_enter Tryd.func100, Tryd.ntmps100
 go_wp2_with (at_builtin; refine Lib.wpList_append_run _ rfl _ _ _ _ rfl _ _ rfl rfl _ _ (hrz _) ?_)
 all_goals (go_ret; exact ⟨_, _, rfl, HO.out, HB.out⟩)
theorem plainB_any (d : List Int) (p0 : Option Addr) (c0 : Nat) (w0 : World) (h0 : Rd (fun _ => True) w0 (.slice p0 d.length c0) (.ns .u8 d)) (hd : d.length ≤ 140737488351232) :
   Calls Tryd.prog 28 #[.slice p0 d.length c0] w0 fun e w' => ∃ p c, e = .returned (.slice p d.length c) ∧ Rd (New w0) w' (.slice p d.length c) (.ns .u8 d) ∧ Below w0.heap.size w0 w' := by
 refine ent1 Tryd.func28 rfl Tryd.ntmps28 fun Az Hz => ?_
 have m0 := MemOk.start (fun _ => False) w0
 refine regS Hz (.assign rfl <| .nil) ?_
 clear Hz Az; intro Az Hz
 refine zsr fun K0 hK0 => ?_
 refine goCh Hz (.move rfl .nil) ?_
 clear Hz Az; intro Az Hz
 refine wpList_plain rfl (fun K hK => ?_)
 refine e_app0M Hz m0 2 rfl rfl (h0.now' m0 rfl).ns_out.nums U22 fct0 (by decide) (by omega) rfl ?_
 clear Hz Az m0; intro p4 c4 Az w5 Hz m5
 refine hK _ _ ?_; clear hK
 refine goCh Hz (.assign rfl .nil) ?_
 clear Hz Az; intro Az Hz
 refine znl (hK0 _ _ ?_); clear hK0
 refine wp_ret ?_
 try dsimp only [Exit.then, Exit.inBlock]
 refine (ret1 (fn := Tryd.f28) Hz rfl rfl ?_)
 have m7 := m5.freezeN 2 rfl; clear m5
 exact ⟨_, _, rfl, m7.outF (i := 2) rfl, m7.below⟩
theorem item_any (b : Int) (d : List Int) (p0 : Option Addr) (c0 : Nat) (w0 : World) (h0 : Rd (fun _ => True) w0 (.slice p0 d.length c0) (.ns .u8 d)) (hd : d.length ≤ 140737488351232) :
   Calls Tryd.prog 68 #[.agg #[.int .i64 b, .slice p0 d.length c0]] w0 fun e w' => ∃ p c, e = .returned (.agg #[.int .i64 b, .slice p d.length c]) ∧ Rd (New w0) w' (.slice p d.length c) (.ns .u8 d) ∧ Below w0.heap.size w0 w' := by
 refine ent1 Tryd.func68 rfl Tryd.ntmps68 fun Az Hz => ?_
 have m0 := MemOk.start (fun _ => False) w0
 refine zsr fun K0 hK0 => ?_
 refine wpList_plain rfl (fun K hK => ?_)
 refine e_box Hz m0 2 (cs := [_, _]) rfl rfl rfl ?_
 clear Hz Az m0; intro g1 Az w2 Hz m2 hB2 hg2
 clear hB2 hg2
 refine hK _ _ ?_; clear hK
 refine wpList_plain rfl (fun K hK => ?_)
 refine e_alloc Hz m2 3 fct3 rfl ?_
 clear Hz Az m2; intro g3 Az w4 Hz m4 hB4 hg4
 clear hB4 hg4
 refine hK _ _ ?_; clear hK
 refine znl (hK0 _ _ ?_); clear hK0
 refine zsr fun K1 hK1 => ?_
 refine goCh Hz (.fa 1 rfl U58 <| .lb m4 2 U22 rfl rfl rfl <| .nil) ?_
 clear Hz Az; intro Az Hz
 refine wpList_plain rfl (fun K hK => ?_)
 refine e_call Hz Tryd.func28 rfl rfl rfl rfl (plainB_any d _ _ _ ((h0.now' m4 rfl).any) hd) ?_
 rintro e w9 ⟨p9, c9, rfl, hd9, hb9⟩
 have m10 := m4.callF 4 rfl hb9 hd9
 clear m4
 clear hb9 hd9
 refine ⟨_, rfl, ?_⟩; clear Hz Az; intro Az Hz
 refine hK _ _ ?_; clear hK
 refine goCh Hz (.fieldAddr (off := 1) rfl U58 rfl (s := 0) (by kernel_rfl) rfl .nil) ?_
 clear Hz Az; intro Az Hz
 refine wpList_plain rfl (fun K hK => ?_)
 refine e_store1 Hz m10 2 rfl rfl rfl rfl rfl fct1 (by dsimp only [List.set] <;> rfl) ?_
 clear m10; intro w13 m13 hB13
 clear hB13
 refine hK _ _ ?_; clear hK
 refine znl (hK1 _ _ ?_); clear hK1
 refine zsr fun K2 hK2 => ?_
 refine goCh Hz (.loadBR m13 (i := 2) rfl rfl U58 rfl fct2 (by simp) (by dsimp only [List.drop, List.take] <;> rfl) .nil) ?_
 clear Hz Az; intro Az Hz
 refine wpList_plain rfl (fun K hK => ?_)
 refine e_storeW Hz m13 3 rfl rfl rfl rfl rfl fct2 ?_
 clear m13; intro w16 m16 hB16
 clear hB16
 refine hK _ _ ?_; clear hK
 refine znl (hK2 _ _ ?_); clear hK2
 refine wp_ret ?_
 try dsimp only [Exit.then, Exit.inBlock]
 refine (retC (fn := Tryd.f68) Hz m16 (i := 3) rfl rfl rfl U58 rfl fct2 ?_)
 exact ⟨_, _, rfl, m16.outF (i := 4) rfl, m16.below⟩
theorem listI_any (es : List (Int × List Int)) (p0 : Option Addr) (c0 nn : Nat) (w0 : World) (h0 : Rd (fun _ => True) w0 (.slice p0 nn c0) (.l 2 (es.map itD))) (hl : es.length ≤ 1000000) (hok : ItsOk es) :
   Calls Tryd.prog 87 #[.slice p0 nn c0, .func (.func 68) #[] #[]] w0 fun e w' => ∃ p c, e = .returned (.slice p (es.map itD).length c) ∧ Rd (New w0) w' (.slice p (es.map itD).length c) (.l 2 (es.map itD)) ∧ Below w0.heap.size w0 w' := by
 obtain rfl : nn = es.length := by obtain ⟨pq, cq, hv, _⟩ := h0.l_shape; injection hv with _ e2 _; rw [List.length_map] at e2; exact e2
 refine ent2 Tryd.func87 rfl Tryd.ntmps87 fun Az Hz => ?_
 have m0 := MemOk.start (fun _ => False) w0
 refine regS Hz (.assign rfl <| .nil) ?_
 clear Hz Az; intro Az Hz
 refine zsr fun K0 hK0 => ?_
 refine goCh Hz (.move rfl <| .len rfl U33 <| .nil) ?_
 clear Hz Az; intro Az Hz
 refine wpList_plain rfl (fun K hK => ?_)
 refine e_call Hz Tryd.func100 rfl rfl rfl rfl (growI_any _ _ (by omega)) ?_
 rintro e w6 ⟨p6, c6, rfl, ho6, hb6⟩
 have m7 := m0.newR 3 hb6 (rowNil ho6)
 clear m0
 clear hb6 ho6
 refine ⟨_, rfl, ?_⟩; clear Hz Az; intro Az Hz
 refine hK _ _ ?_; clear hK
 refine goCh Hz (.assign rfl .nil) ?_
 clear Hz Az; intro Az Hz
 refine znl (hK0 _ _ ?_); clear hK0
 refine wp_seq_k (fun K1 hK1 => ?_)
 refine regS Hz (.move rfl <| .len rfl U33 <| .move rfl <| .nil) ?_
 clear Hz Az; intro Az Hz
 refine wp_block ?_
 refine wp_loop_ghost (fun g a w => ∃ (k : Nat) (p : Option Addr) (c : Nat), k ≤ es.length ∧ g = es.length - k ∧ Has 25 [(1, .func (.func 68) #[] #[]), (5, .slice p ((es.take k).map itD).length c), (11, .slice p0 es.length c0), (12, .int .i64 es.length), (13, .int .i64 k)] a ∧ MemOk (cn w0) w0 [(3, .row (.slice p ((es.take k).map itD).length c) 58 2 ((es.take k).map itD))] w) (es.length) ?_ ?_
 · exact ⟨0, _, _, Nat.zero_le _, rfl, Hz.only [1, 5, 11, 12, 13], m7.only [3]⟩
 clear Hz m7
 rintro g Az w13 ⟨k, p, c, hkl, hg, Hz, m13⟩
 refine regS Hz (.lss rfl rfl <| .nil) ?_
 clear Hz Az; intro Az Hz
 refine wp_seq_k (fun K2 hK2 => ?_)
 refine bool_cases Hz (t := 14) rfl ?_ ?_
 ·
  clear Hz; intro hb15 Hz; try simp only [QQ, Qax] at hb15
  have hk : k < es.length := by omega
  obtain ⟨⟨xb, xd⟩, hes⟩ : ∃ e, es[k]? = some e := ⟨_, List.getElem?_eq_getElem hk⟩
  have hed := hok _ (List.mem_of_getElem? hes)
  dsimp only at hed
  refine wp_cond_true (Hz.ev (x := .tmp 14) rfl) ?_
  refine zss (hK2 _ _ ?_); clear hK2
  refine wp_seq_k (fun K3 hK3 => ?_)
  refine wp_block ?_
  refine zsr fun K4 hK4 => ?_
  obtain ⟨gx17, ox17, vx17, hp17, hl17, hR17, hrg17⟩ := h0.extA (k) (r := [.v (.int .i64 xb), .ns .u8 xd]) (itD_get hes)
  cases hp17; clear hl17
  rcases hR17 with _ | ⟨hd17_0, _ | ⟨hd17_1, _ | _⟩⟩
  obtain rfl := hd17_0.v_out
  clear hd17_0
  obtain ⟨p18, c18, hv18, hw18⟩ := hd17_1.ns_shape; subst hv18
  refine goCh Hz (.c rfl (fun _ h => y_idx h rfl rfl U33 fct2 (k) rfl hk) <| .loadAt (hrg17 m13 rfl) rfl U58 rfl fct2 <| .nil) ?_
  clear Hz Az; intro Az Hz
  refine wpList_plain rfl (fun K hK => ?_)
  refine e_alloc Hz m13 101 fct3 rfl ?_
  clear Hz Az m13; intro g21 Az w22 Hz m22 hB22 hg22
  clear hB22 hg22
  refine hK _ _ ?_; clear hK
  refine wpList_plain rfl (fun K hK => ?_)
  refine e_storeW Hz m22 101 rfl rfl rfl rfl rfl fct2 ?_
  clear m22; intro w23 m23 hB23
  clear hB23
  refine hK _ _ ?_; clear hK
  refine znl (hK4 _ _ ?_); clear hK4
  refine wp_region_lit ?_
  refine goCh Hz (.move rfl <| .move rfl <| .loadBR m23 (i := 101) rfl rfl U58 rfl fct2 (by simp) (by dsimp only [List.drop, List.take] <;> rfl) <| .nil) ?_
  clear Hz Az; intro Az Hz
  refine wpList_plain rfl (fun K hK => ?_)
  refine e_callV Hz rfl Tryd.func68 rfl rfl rfl rfl (item_any xb xd _ _ _ ((hd17_1.now' m23 rfl).any) hed) ?_
  rintro e w27 ⟨p27, c27, rfl, hd27, hb27⟩
  have m28 := m23.callF 102 rfl hb27 hd27
  clear m23
  clear hb27 hd27
  refine ⟨_, rfl, ?_⟩; clear Hz Az; intro Az Hz
  refine hK _ _ ?_; clear hK
  refine wpList_plain rfl (fun K hK => ?_)
  refine e_litR Hz m28 103 (mm := 2) rfl (.cons rfl rfl (.cons (.v _) (.cons (m28.rd (i := 102) rfl) .nil)) <| .nil) U33 fct4 rfl rfl rfl rfl rfl ?_
  clear Hz Az m28; intro g30 Az w31 Hz m31
  refine hK _ _ ?_; clear hK
  have m33 := m31.freezeR 103 rfl; clear m31
  refine wpList_plain rfl (fun K hK => ?_)
  refine e_appR Hz m33 3 rfl rfl rfl (m33.rd (i := 103) rfl) U33 fct4 rfl rfl (by decide) (by simp; omega) rfl ?_
  clear Hz Az m33; intro p32 c32 Az w34 Hz m34
  refine hK _ _ ?_; clear hK
  refine goCh Hz (.assign rfl .nil) ?_
  clear Hz Az; intro Az Hz
  refine znl (hK3 _ _ ?_); clear hK3
  replace Hz : Has 25 [(1, _), (5, _), (11, _), (12, _), (13, _)] Az := Hz.only [1, 5, 11, 12, 13]
  refine wp_region_lit ?_
  refine goCh Hz (.add rfl rfl (r := ((k + 1 : Nat) : Int)) (by rw [IntWalk.i64_in _ (by omega)]; omega) <| .move rfl <| .nil) ?_
  clear Hz Az; intro Az Hz
  refine wpList_nil ?_
  show ∃ n', n' < _ ∧ _
  have hE : (es.take k).map itD ++ [[D.v (.int .i64 xb), .ns .u8 xd]] = (es.take (k + 1)).map itD := by rw [take_snoc hes, List.map_append]; rfl
  rw [hE] at m34 Hz
  exact ⟨es.length - (k + 1), by omega, k + 1, _, _, by omega, rfl, Hz.only [1, 5, 11, 12, 13], m34.only [3]⟩
 clear Hz; intro hb15 Hz; try simp only [QQ, Qax] at hb15
 obtain rfl : k = es.length := by omega
 refine wp_cond_false (Hz.ev (x := .tmp 14) rfl) ?_
 refine wp_exit ?_
 refine hK1 _ _ ?_; clear hK1
 refine regS Hz (.move rfl <| .assign rfl <| .nil) ?_
 clear Hz Az; intro Az Hz
 refine wp_ret ?_
 try dsimp only [Exit.then, Exit.inBlock]
 refine (ret1 (fn := Tryd.f87) Hz rfl rfl ?_)
 rw [List.take_length] at *
 have m41 := m13.freezeR 3 rfl; clear m13
 exact ⟨_, _, rfl, m41.outF (i := 3) rfl, m41.below⟩
theorem items_any (es : List (Int × List Int)) (p0 : Option Addr) (c0 nn : Nat) (w0 : World) (h0 : Rd (fun _ => True) w0 (.slice p0 nn c0) (.l 2 (es.map itD))) (hl : es.length ≤ 1000000) (hok : ItsOk es) :
   Calls Tryd.prog 67 #[.slice p0 nn c0] w0 fun e w' => ∃ p c, e = .returned (.slice p (es.map itD).length c) ∧ Rd (New w0) w' (.slice p (es.map itD).length c) (.l 2 (es.map itD)) ∧ Below w0.heap.size w0 w' := by
 refine ent1 Tryd.func67 rfl Tryd.ntmps67 fun Az Hz => ?_
 have m0 := MemOk.start (fun _ => False) w0
 refine regS Hz (.assign rfl <| .nil) ?_
 clear Hz Az; intro Az Hz
 refine zsr fun K0 hK0 => ?_
 refine goCh Hz (.move rfl .nil) ?_
 clear Hz Az; intro Az Hz
 refine wpList_plain rfl (fun K hK => ?_)
 refine e_call Hz Tryd.func87 rfl rfl rfl rfl (listI_any es _ _ _ _ ((h0.now' m0 rfl).any) hl hok) ?_
 rintro e w4 ⟨p4, c4, rfl, hd4, hb4⟩
 have m5 := m0.callF 3 rfl hb4 hd4
 clear m0
 clear hb4 hd4
 refine ⟨_, rfl, ?_⟩; clear Hz Az; intro Az Hz
 refine hK _ _ ?_; clear hK
 refine goCh Hz (.assign rfl .nil) ?_
 clear Hz Az; intro Az Hz
 refine znl (hK0 _ _ ?_); clear hK0
 refine wp_ret ?_
 try dsimp only [Exit.then, Exit.inBlock]
 refine (ret1 (fn := Tryd.f67) Hz rfl rfl ?_)
 exact ⟨_, _, rfl, m5.outF (i := 3) rfl, m5.below⟩
end Go.Proofs.YtflcgpajodfkoaaDoor.K
