/- General laws of walks. -/
import Derived.Test.YtkehgingagggaaaGreatG6
import Derived.Test.YtkehgingagggaaaGreatG4
namespace Go.Proofs.YtkehgingagggaaaGreat.K
open Go.ChangeShapes Go.WideShapes Go.ChangeAt Go.RowKit
set_option linter.unusedVariables false
set_option linter.unusedSimpArgs false
section
def itD (x : Int × List Int) : List D := [.v (.int .i64 x.1),.ns .u8 x.2]
def wrD (x : Int × List (Int × List Int)) : List D := [.v (.int .i64 x.1),.l 2 (x.2.map itD)]
theorem itD_get {A : List (Int × List Int)} {k : Nat} {b : Int} {d : List Int} (h : A[k]? = some (b,d)) : (A.map itD)[k]? = some [.v (.int .i64 b),.ns .u8 d] := by simp [h,itD]
theorem wrD_get {A : List (Int × List (Int × List Int))} {k : Nat} {b : Int} {d : List (Int × List Int)} (h : A[k]? = some (b,d)) : (A.map wrD)[k]? = some [.v (.int .i64 b),.l 2 (d.map itD)] := by simp [h,wrD]
def ItsOk (es : List (Int × List Int)) : Prop := ∀ e ∈ es,e.2.length ≤ 140737488351232
def WrsOk (ws : List (Int × List (Int × List Int))) : Prop := ∀ e ∈ ws,e.2.length ≤ 1000000 ∧ ItsOk e.2
theorem take_snoc {α : Type} {l : List α} {k : Nat} {x : α} (h : l[k]? = some x) : l.take (k + 1) = l.take k ++ [x] := by
 obtain ⟨hk,e⟩ := List.getElem?_eq_some_iff.1 h
 rw [List.take_succ_eq_append_getElem hk,e]
theorem rowNil {N : Nat} {S : Nat → Prop} {w : World} {v : Value} {e : TypeId} {k : Nat} (h : w.ownsRow N e k v 0 []) : RowOk N S w v e k [] := ⟨[],by simpa using h,rfl,by simp,by simp,by simp⟩
set_option maxRecDepth 100000
set_option maxHeartbeats 4000000
theorem growI_any_inf : (Tryz.prog.info? 59).map (fun i => (i.zero,i.size,i.bytes)) = some (some (.agg #[.int .i64 0,.slice none 0 0]),2,32) := by kernel_rfl
theorem growI_any (n : Nat) (w : World) (hn : n ≤ 100000000) :
   Calls Tryz.prog 180 #[.slice none 0 0,.int .i64 n] w fun e w' => ∃ p c,e = .returned (.slice p 0 c) ∧ w'.ownsRow w.heap.size 59 2 (.slice p 0 c) 0 [] ∧ Below w.heap.size w w' := by
 by_cases h0 : n = 0
 · subst h0
   go_enter Tryz.func180,Tryz.ntmps180
   go_wp2
   go_ret
   exact ⟨_,_,rfl,World.ownsRow_nil _ _ _ _,Below.refl _ _⟩
 obtain ⟨i0,hi,hz0,hz1,hz2⟩ := info_parts growI_any_inf
 have hbn : n * i0.bytes ≤ 140737488355328 := by rw [hz2]; omega
 obtain ⟨z,hz⟩ : ∃ z : Value,(.agg #[.int .i64 0,.slice none 0 0]) = z := ⟨_,rfl⟩
 have hzc : z.cells.size = 2 := by rw [← hz]; rfl
 rw [hz] at hz0
 have hrz : ∀ ty,(Builtin.append_ #[36,3] ty #[.slice none 0 0,.int .i64 (n : Int)]).run Tryz.prog w =
     .ok (.slice (some ⟨w.heap.size,0,none⟩) n (grownCap w n 0 59)) (w.drew.alloc (.cells (#[] ++ Builtin.zeroCells z.cells n ++ Builtin.zeroCells z.cells (grownCap w n 0 59 - n)) 59)) := fun ty => by
   have h := Lib.run_append_grow_zeros w 36 3 ty 59 i0 z .i64 .i64 U36 U3 hi hz0 none 0 0 [] (run_firstCells_none w.drew i0.size 0 0 0) n (by omega) (by omega) (by omega) (by omega) (by omega)
     (by rw [Nat.zero_add]; exact growslice_fits (by omega) hbn)
   rw [Nat.zero_add] at h
   exact h
 have hG := grownCap_ge w n 0 59
 have hM := grownCap_le_maxLen w n 0 59 (by unfold maxLen; omega)
 generalize grownCap w n 0 59 = G at hrz hG hM
 have hown : (w.drew.alloc (.cells (#[] ++ Builtin.zeroCells z.cells n ++ Builtin.zeroCells z.cells (G - n)) 59)).ownsRow w.heap.size 59 2 (.slice (some ⟨w.heap.size,0,none⟩) 0 G) 0 [] := by
   refine World.ownsRow_made w.drew _ G (Nat.le_refl _) hM ?_
   simp [size_zeroCells,hzc]
   omega
 have hbel : Below w.heap.size w (w.drew.alloc (.cells (#[] ++ Builtin.zeroCells z.cells n ++ Builtin.zeroCells z.cells (G - n)) 59)) := ((Below.refl _ w).drew).alloc (Nat.le_refl _) _
 generalize (w.drew.alloc (.cells (#[] ++ Builtin.zeroCells z.cells n ++ Builtin.zeroCells z.cells (G - n)) 59)) = W' at hrz hown hbel
 have HO := Lib.hid hown
 have HB := Lib.hid hbel
 clear hown hbel hi hz0 hz1 hz2 hz hzc
 unfold maxLen at hM
 go_enter Tryz.func180,Tryz.ntmps180
 go_wp2_with (at_builtin; refine Lib.wpList_append_run _ rfl _ _ _ _ rfl _ _ rfl rfl _ _ (hrz _) ?_)
 all_goals (go_ret; exact ⟨_,_,rfl,HO.out,HB.out⟩)
theorem growW_any_inf : (Tryz.prog.info? 103).map (fun i => (i.zero,i.size,i.bytes)) = some (some (.agg #[.int .i64 0,.slice none 0 0]),2,32) := by kernel_rfl
theorem growW_any (n : Nat) (w : World) (hn : n ≤ 100000000) :
   Calls Tryz.prog 136 #[.slice none 0 0,.int .i64 n] w fun e w' => ∃ p c,e = .returned (.slice p 0 c) ∧ w'.ownsRow w.heap.size 103 2 (.slice p 0 c) 0 [] ∧ Below w.heap.size w w' := by
 by_cases h0 : n = 0
 · subst h0
   go_enter Tryz.func136,Tryz.ntmps136
   go_wp2
   go_ret
   exact ⟨_,_,rfl,World.ownsRow_nil _ _ _ _,Below.refl _ _⟩
 obtain ⟨i0,hi,hz0,hz1,hz2⟩ := info_parts growW_any_inf
 have hbn : n * i0.bytes ≤ 140737488355328 := by rw [hz2]; omega
 obtain ⟨z,hz⟩ : ∃ z : Value,(.agg #[.int .i64 0,.slice none 0 0]) = z := ⟨_,rfl⟩
 have hzc : z.cells.size = 2 := by rw [← hz]; rfl
 rw [hz] at hz0
 have hrz : ∀ ty,(Builtin.append_ #[49,3] ty #[.slice none 0 0,.int .i64 (n : Int)]).run Tryz.prog w =
     .ok (.slice (some ⟨w.heap.size,0,none⟩) n (grownCap w n 0 103)) (w.drew.alloc (.cells (#[] ++ Builtin.zeroCells z.cells n ++ Builtin.zeroCells z.cells (grownCap w n 0 103 - n)) 103)) := fun ty => by
   have h := Lib.run_append_grow_zeros w 49 3 ty 103 i0 z .i64 .i64 U49 U3 hi hz0 none 0 0 [] (run_firstCells_none w.drew i0.size 0 0 0) n (by omega) (by omega) (by omega) (by omega) (by omega)
     (by rw [Nat.zero_add]; exact growslice_fits (by omega) hbn)
   rw [Nat.zero_add] at h
   exact h
 have hG := grownCap_ge w n 0 103
 have hM := grownCap_le_maxLen w n 0 103 (by unfold maxLen; omega)
 generalize grownCap w n 0 103 = G at hrz hG hM
 have hown : (w.drew.alloc (.cells (#[] ++ Builtin.zeroCells z.cells n ++ Builtin.zeroCells z.cells (G - n)) 103)).ownsRow w.heap.size 103 2 (.slice (some ⟨w.heap.size,0,none⟩) 0 G) 0 [] := by
   refine World.ownsRow_made w.drew _ G (Nat.le_refl _) hM ?_
   simp [size_zeroCells,hzc]
   omega
 have hbel : Below w.heap.size w (w.drew.alloc (.cells (#[] ++ Builtin.zeroCells z.cells n ++ Builtin.zeroCells z.cells (G - n)) 103)) := ((Below.refl _ w).drew).alloc (Nat.le_refl _) _
 generalize (w.drew.alloc (.cells (#[] ++ Builtin.zeroCells z.cells n ++ Builtin.zeroCells z.cells (G - n)) 103)) = W' at hrz hown hbel
 have HO := Lib.hid hown
 have HB := Lib.hid hbel
 clear hown hbel hi hz0 hz1 hz2 hz hzc
 unfold maxLen at hM
 go_enter Tryz.func136,Tryz.ntmps136
 go_wp2_with (at_builtin; refine Lib.wpList_append_run _ rfl _ _ _ _ rfl _ _ rfl rfl _ _ (hrz _) ?_)
 all_goals (go_ret; exact ⟨_,_,rfl,HO.out,HB.out⟩)
theorem plainB_any (d : List Int) (p0 : Option Addr) (c0 : Nat) (w0 : World) (h0 : Rd (fun _ => True) w0 (.slice p0 d.length c0) (.ns .u8 d)) (hd : d.length ≤ 140737488351232) :
   Calls Tryz.prog 181 #[.slice p0 d.length c0] w0 fun e w' => ∃ p c,e = .returned (.slice p d.length c) ∧ Rd (New w0) w' (.slice p d.length c) (.ns .u8 d) ∧ Below w0.heap.size w0 w' := by
 refine ent1 Tryz.func181 rfl Tryz.ntmps181 fun Y U =>?_
 have m0 := MemOk.start (fun _ => False) w0
 refine regS U (.assign rfl .nil) fun Y U =>?_
 refine zsr fun K0 hK0 =>?_
 refine goCh U (.move rfl .nil) fun Y U =>?_
 refine plz (e_app0M U m0 2 rfl rfl (h0.now' m0 rfl).ns_out.nums U22 fct0 (by decide) (by omega) rfl fun p4 c4 Y w5 U m5 =>?_)
 refine gz hK0 U (.assign rfl .nil) fun Y U =>?_
 refine rt1 U ?_
 have m7 := m5.freezeN 2 rfl
 exact ⟨_,_,rfl,m7.outF (i := 2) rfl,m7.below⟩
theorem plain64_any (d : List Int) (p0 : Option Addr) (c0 : Nat) (w0 : World) (h0 : Rd (fun _ => True) w0 (.slice p0 d.length c0) (.ns .i64 d)) (hd : d.length ≤ 1000000) :
   Calls Tryz.prog 100 #[.slice p0 d.length c0] w0 fun e w' => ∃ p c,e = .returned (.slice p d.length c) ∧ Rd (New w0) w' (.slice p d.length c) (.ns .i64 d) ∧ Below w0.heap.size w0 w' := by
 refine ent1 Tryz.func100 rfl Tryz.ntmps100 fun Y U =>?_
 have m0 := MemOk.start (fun _ => False) w0
 refine regS U (.assign rfl .nil) fun Y U =>?_
 refine zsr fun K0 hK0 =>?_
 refine goCh U (.move rfl .nil) fun Y U =>?_
 refine plz (e_app0N U m0 2 rfl rfl (h0.now' m0 rfl).ns_out.nums U48 fct1 (by decide) (by omega) rfl fun p4 c4 Y w5 U m5 =>?_)
 refine gz hK0 U (.assign rfl .nil) fun Y U =>?_
 refine rt1 U ?_
 have m7 := m5.freezeN 2 rfl
 exact ⟨_,_,rfl,m7.outF (i := 2) rfl,m7.below⟩
theorem item_any (b : Int) (d : List Int) (p0 : Option Addr) (c0 : Nat) (w0 : World) (h0 : Rd (fun _ => True) w0 (.slice p0 d.length c0) (.ns .u8 d)) (hd : d.length ≤ 140737488351232) :
   Calls Tryz.prog 164 #[.agg #[.int .i64 b,.slice p0 d.length c0]] w0 fun e w' => ∃ p c,e = .returned (.agg #[.int .i64 b,.slice p d.length c]) ∧ Rd (New w0) w' (.slice p d.length c) (.ns .u8 d) ∧ Below w0.heap.size w0 w' := by
 refine ent1 Tryz.func164 rfl Tryz.ntmps164 fun Y U =>?_
 have m0 := MemOk.start (fun _ => False) w0
 refine zsr fun K0 hK0 =>?_
 refine plz (e_box U m0 2 (cs := [_,_]) rfl rfl rfl fun g1 Y w2 U m2 _ _ =>?_)
 refine plz (e_alloc U m2 3 fct4 rfl fun g3 Y w4 U m4 _ _ =>?_)
 refine znl (hK0 _ _ ?_)
 refine zsr fun K1 hK1 =>?_
 refine goCh U (.fa 1 rfl U59<|.lb m4 2 U22 rfl rfl rfl .nil) fun Y U =>?_
 refine plz (ecl U Tryz.func181 rfl (plainB_any d _ _ _ ((h0.now' m4 rfl).any) hd) ?_)
 rintro e w9 ⟨p9,c9,rfl,hd9,hb9⟩
 have m10 := m4.callF 4 rfl hb9 hd9
 refine ⟨_,rfl,?_⟩; intro Y U
 refine goCh U (.fieldAddr (off := 1) rfl U59 rfl (s := 0) (by kernel_rfl) rfl .nil) fun Y U =>?_
 refine plz (st1 U m10 2 fct2 fun w13 m13 _ =>?_)
 refine znl (hK1 _ _ ?_)
 refine zsr fun K2 hK2 =>?_
 refine goCh U (.loadBR m13 (i := 2) rfl rfl U59 rfl fct3 (by simp) (by dsimp only [List.drop,List.take] <;> rfl) .nil) fun Y U =>?_
 refine plz (stw U m13 3 fct3 fun w16 m16 _ =>?_)
 refine znl (hK2 _ _ ?_)
 refine rtd (retC (fn := Tryz.f164) U m16 (i := 3) rfl rfl rfl U59 rfl fct3 ?_)
 exact ⟨_,_,rfl,m16.outF (i := 4) rfl,m16.below⟩
theorem listI_any (es : List (Int × List Int)) (p0 : Option Addr) (c0 nn : Nat) (w0 : World) (h0 : Rd (fun _ => True) w0 (.slice p0 nn c0) (.l 2 (es.map itD))) (hl : es.length ≤ 1000000) (hok : ItsOk es) :
   Calls Tryz.prog 163 #[.slice p0 nn c0,.func (.func 164) #[] #[]] w0 fun e w' => ∃ p c,e = .returned (.slice p (es.map itD).length c) ∧ Rd (New w0) w' (.slice p (es.map itD).length c) (.l 2 (es.map itD)) ∧ Below w0.heap.size w0 w' := by
 obtain rfl : nn = es.length := by obtain ⟨pq,cq,hv,_⟩ := h0.l_shape; injection hv with _ e2 _; rw [List.length_map] at e2; exact e2
 refine ent2 Tryz.func163 rfl Tryz.ntmps163 fun Y U =>?_
 have m0 := MemOk.start (fun _ => False) w0
 refine regS U (.assign rfl .nil) fun Y U =>?_
 refine zsr fun K0 hK0 =>?_
 refine goCh U (.move rfl<|.len rfl U36 .nil) fun Y U =>?_
 refine plz (ecl U Tryz.func180 rfl (growI_any _ _ (by omega)) ?_)
 rintro e w6 ⟨p6,c6,rfl,ho6,hb6⟩
 have m7 := m0.newR 3 hb6 (rowNil ho6)
 refine ⟨_,rfl,?_⟩; intro Y U
 refine gz hK0 U (.assign rfl .nil) fun Y U =>?_
 refine wsk fun K1 hK1 =>?_
 refine regS U (.move rfl<|.len rfl U36<|.move rfl .nil) fun Y U =>?_
 refine wp_block ?_
 refine wp_loop_ghost (fun g a w => ∃ (k : Nat) (p : Option Addr) (c : Nat),k ≤ es.length ∧ g = es.length - k ∧ Has 25 [(1,.func (.func 164) #[] #[]),(5,.slice p ((es.take k).map itD).length c),(11,.slice p0 es.length c0),(12,.int .i64 es.length),(13,.int .i64 k)] a ∧ MemOk (cn w0) w0 [(3,.row (.slice p ((es.take k).map itD).length c) 59 2 ((es.take k).map itD))] w) (es.length) ?_ ?_
 · exact ⟨0,_,_,Nat.zero_le _,rfl,U.only [1,5,11,12,13],m7.only [3]⟩
 clear U m7
 rintro g Y w13 ⟨k,p,c,hkl,hg,U,m13⟩
 refine regS U (.lss rfl rfl .nil) fun Y U =>?_
 refine wsk fun K2 hK2 =>?_
 refine bc U 14 ?_ ?_
 ·
  intro hb15 U; try simp only [QQ,Qax] at hb15
  have hk : k < es.length := by omega
  obtain ⟨⟨xb,xd⟩,hes⟩ : ∃ e,es[k]? = some e := ⟨_,List.getElem?_eq_getElem hk⟩
  have hed := hok _ (List.mem_of_getElem? hes)
  dsimp only at hed
  refine wct U ?_
  refine zss (hK2 _ _ ?_)
  refine wsk fun K3 hK3 =>?_
  refine wp_block ?_
  refine zsr fun K4 hK4 =>?_
  obtain ⟨gx17,ox17,vx17,hp17,hl17,hR17,hrg17⟩ := h0.extA (k) (r := [.v (.int .i64 xb),.ns .u8 xd]) (itD_get hes)
  revert U
  cases hp17
  rcases hR17 with _ | ⟨hd17_0,_ | ⟨hd17_1,_ | _⟩⟩
  obtain rfl := hd17_0.v_out
  clear hd17_0
  obtain ⟨p18,c18,hv18,hw18⟩ := hd17_1.ns_shape; subst hv18
  intro U
  refine goCh U (.c rfl (fun _ h_ => y_idx h_ rfl rfl U36 fct3 (k) rfl hk)<|.loadAt (hrg17 m13 rfl) rfl U59 rfl fct3 .nil) fun Y U =>?_
  refine plz (e_alloc U m13 101 fct4 rfl fun g21 Y w22 U m22 _ _ =>?_)
  refine plz (stw U m22 101 fct3 fun w23 m23 _ =>?_)
  refine znl (hK4 _ _ ?_)
  refine wp_region_lit ?_
  refine goCh U (.move rfl<|.move rfl<|.loadBR m23 (i := 101) rfl rfl U59 rfl fct3 (by simp) (by dsimp only [List.drop,List.take] <;> rfl) .nil) fun Y U =>?_
  refine plz (e_callV U rfl Tryz.func164 rfl rfl rfl rfl (item_any xb xd _ _ _ ((hd17_1.now' m23 rfl).any) hed) ?_)
  rintro e w27 ⟨p27,c27,rfl,hd27,hb27⟩
  have m28 := m23.callF 102 rfl hb27 hd27
  refine ⟨_,rfl,?_⟩; intro Y U
  refine plz (e_litR U m28 103 (mm := 2) rfl (.cons rfl rfl (.cons (.v _) (.cons (m28.rd (i := 102) rfl) .nil)) .nil) U36 fct5 rfl rfl rfl rfl rfl fun g30 Y w31 U m31 =>?_)
  have m33 := m31.freezeR 103 rfl
  refine plz (e_appR U m33 3 rfl rfl rfl (m33.rd (i := 103) rfl) U36 fct5 rfl rfl (by decide) (by simp; omega) rfl fun p32 c32 Y w34 U m34 =>?_)
  refine gz hK3 U (.assign rfl .nil) fun Y U =>?_
  replace U := U.oz [1,5,11,12,13]
  refine wp_region_lit ?_
  refine goCh U (.inc (k + 1)<|.move rfl .nil) fun Y U =>?_
  refine wpList_nil ?_
  show ∃ n',n' < _ ∧ _
  have hE : (es.take k).map itD ++ [[D.v (.int .i64 xb),.ns .u8 xd]] = (es.take (k + 1)).map itD := by rw [take_snoc hes,List.map_append]; rfl
  rw [hE] at m34 U
  exact ⟨es.length - (k + 1),by omega,k + 1,_,_,by omega,rfl,U.only [1,5,11,12,13],m34.only [3]⟩
 intro hb15 U; try simp only [QQ,Qax] at hb15
 revert U
 obtain rfl : k = es.length := by omega
 intro U
 refine wcf U ?_
 refine wp_exit ?_
 refine hK1 _ _ ?_
 refine regS U (.move rfl<|.assign rfl .nil) fun Y U =>?_
 refine rt1 U ?_
 rw [List.take_length] at *
 have m41 := m13.freezeR 3 rfl
 exact ⟨_,_,rfl,m41.outF (i := 3) rfl,m41.below⟩
theorem items_any (es : List (Int × List Int)) (p0 : Option Addr) (c0 nn : Nat) (w0 : World) (h0 : Rd (fun _ => True) w0 (.slice p0 nn c0) (.l 2 (es.map itD))) (hl : es.length ≤ 1000000) (hok : ItsOk es) :
   Calls Tryz.prog 137 #[.slice p0 nn c0] w0 fun e w' => ∃ p c,e = .returned (.slice p (es.map itD).length c) ∧ Rd (New w0) w' (.slice p (es.map itD).length c) (.l 2 (es.map itD)) ∧ Below w0.heap.size w0 w' := by
 refine ent1 Tryz.func137 rfl Tryz.ntmps137 fun Y U =>?_
 have m0 := MemOk.start (fun _ => False) w0
 refine regS U (.assign rfl .nil) fun Y U =>?_
 refine zsr fun K0 hK0 =>?_
 refine goCh U (.move rfl .nil) fun Y U =>?_
 refine plz (ecl U Tryz.func163 rfl (listI_any es _ _ _ _ ((h0.now' m0 rfl).any) hl hok) ?_)
 rintro e w4 ⟨p4,c4,rfl,hd4,hb4⟩
 have m5 := m0.callF 3 rfl hb4 hd4
 refine ⟨_,rfl,?_⟩; intro Y U
 refine gz hK0 U (.assign rfl .nil) fun Y U =>?_
 refine rt1 U ?_
 exact ⟨_,_,rfl,m5.outF (i := 3) rfl,m5.below⟩
theorem write_any (sq : Int) (es : List (Int × List Int)) (p0 : Option Addr) (c0 nn : Nat) (w0 : World) (h0 : Rd (fun _ => True) w0 (.slice p0 nn c0) (.l 2 (es.map itD))) (hl : es.length ≤ 1000000) (hok : ItsOk es) :
   Calls Tryz.prog 102 #[.agg #[.int .i64 sq,.slice p0 nn c0]] w0 fun e w' => ∃ p c,e = .returned (.agg #[.int .i64 sq,.slice p (es.map itD).length c]) ∧ Rd (New w0) w' (.slice p (es.map itD).length c) (.l 2 (es.map itD)) ∧ Below w0.heap.size w0 w' := by
 refine ent1 Tryz.func102 rfl Tryz.ntmps102 fun Y U =>?_
 have m0 := MemOk.start (fun _ => False) w0
 refine zsr fun K0 hK0 =>?_
 refine plz (e_box U m0 3 (cs := [_,_]) rfl rfl rfl fun g1 Y w2 U m2 _ _ =>?_)
 refine plz (e_alloc U m2 4 fct8 rfl fun g3 Y w4 U m4 _ _ =>?_)
 refine znl (hK0 _ _ ?_)
 refine zsr fun K1 hK1 =>?_
 refine goCh U (.fa 1 rfl U103<|.lb m4 3 U36 rfl rfl rfl .nil) fun Y U =>?_
 refine plz (ecl U Tryz.func137 rfl (items_any es _ _ _ _ ((h0.now' m4 rfl).any) hl hok) ?_)
 rintro e w9 ⟨p9,c9,rfl,hd9,hb9⟩
 have m10 := m4.callF 5 rfl hb9 hd9
 refine ⟨_,rfl,?_⟩; intro Y U
 refine goCh U (.fieldAddr (off := 1) rfl U103 rfl (s := 0) (by kernel_rfl) rfl .nil) fun Y U =>?_
 refine plz (st1 U m10 3 fct6 fun w13 m13 _ =>?_)
 refine znl (hK1 _ _ ?_)
 refine zsr fun K2 hK2 =>?_
 refine goCh U (.loadBR m13 (i := 3) rfl rfl U103 rfl fct7 (by simp) (by dsimp only [List.drop,List.take] <;> rfl) .nil) fun Y U =>?_
 refine plz (stw U m13 4 fct7 fun w16 m16 _ =>?_)
 refine znl (hK2 _ _ ?_)
 refine rtd (retC (fn := Tryz.f102) U m16 (i := 4) rfl rfl rfl U103 rfl fct7 ?_)
 exact ⟨_,_,rfl,m16.outF (i := 5) rfl,m16.below⟩
theorem listW_any (es : List (Int × List (Int × List Int))) (p0 : Option Addr) (c0 nn : Nat) (w0 : World) (h0 : Rd (fun _ => True) w0 (.slice p0 nn c0) (.l 2 (es.map wrD))) (hl : es.length ≤ 1000000) (hok : WrsOk es) :
   Calls Tryz.prog 101 #[.slice p0 nn c0,.func (.func 102) #[] #[]] w0 fun e w' => ∃ p c,e = .returned (.slice p (es.map wrD).length c) ∧ Rd (New w0) w' (.slice p (es.map wrD).length c) (.l 2 (es.map wrD)) ∧ Below w0.heap.size w0 w' := by
 obtain rfl : nn = es.length := by obtain ⟨pq,cq,hv,_⟩ := h0.l_shape; injection hv with _ e2 _; rw [List.length_map] at e2; exact e2
 refine ent2 Tryz.func101 rfl Tryz.ntmps101 fun Y U =>?_
 have m0 := MemOk.start (fun _ => False) w0
 refine regS U (.assign rfl .nil) fun Y U =>?_
 refine zsr fun K0 hK0 =>?_
 refine goCh U (.move rfl<|.len rfl U49 .nil) fun Y U =>?_
 refine plz (ecl U Tryz.func136 rfl (growW_any _ _ (by omega)) ?_)
 rintro e w6 ⟨p6,c6,rfl,ho6,hb6⟩
 have m7 := m0.newR 3 hb6 (rowNil ho6)
 refine ⟨_,rfl,?_⟩; intro Y U
 refine gz hK0 U (.assign rfl .nil) fun Y U =>?_
 refine wsk fun K1 hK1 =>?_
 refine regS U (.move rfl<|.len rfl U49<|.move rfl .nil) fun Y U =>?_
 refine wp_block ?_
 refine wp_loop_ghost (fun g a w => ∃ (k : Nat) (p : Option Addr) (c : Nat),k ≤ es.length ∧ g = es.length - k ∧ Has 25 [(1,.func (.func 102) #[] #[]),(5,.slice p ((es.take k).map wrD).length c),(11,.slice p0 es.length c0),(12,.int .i64 es.length),(13,.int .i64 k)] a ∧ MemOk (cn w0) w0 [(3,.row (.slice p ((es.take k).map wrD).length c) 103 2 ((es.take k).map wrD))] w) (es.length) ?_ ?_
 · exact ⟨0,_,_,Nat.zero_le _,rfl,U.only [1,5,11,12,13],m7.only [3]⟩
 clear U m7
 rintro g Y w13 ⟨k,p,c,hkl,hg,U,m13⟩
 refine regS U (.lss rfl rfl .nil) fun Y U =>?_
 refine wsk fun K2 hK2 =>?_
 refine bc U 14 ?_ ?_
 ·
  intro hb15 U; try simp only [QQ,Qax] at hb15
  have hk : k < es.length := by omega
  obtain ⟨⟨xs,xl⟩,hes⟩ : ∃ e,es[k]? = some e := ⟨_,List.getElem?_eq_getElem hk⟩
  have hed := hok _ (List.mem_of_getElem? hes)
  dsimp only at hed
  refine wct U ?_
  refine zss (hK2 _ _ ?_)
  refine wsk fun K3 hK3 =>?_
  refine wp_block ?_
  refine zsr fun K4 hK4 =>?_
  obtain ⟨gx17,ox17,vx17,hp17,hl17,hR17,hrg17⟩ := h0.extA (k) (r := [.v (.int .i64 xs),.l 2 (xl.map itD)]) (wrD_get hes)
  revert U
  cases hp17
  rcases hR17 with _ | ⟨hd17_0,_ | ⟨hd17_1,_ | _⟩⟩
  obtain rfl := hd17_0.v_out
  clear hd17_0
  obtain ⟨p18,c18,hv18,hw18⟩ := hd17_1.l_shape; subst hv18
  intro U
  refine goCh U (.c rfl (fun _ h_ => y_idx h_ rfl rfl U49 fct7 (k) rfl hk)<|.loadAt (hrg17 m13 rfl) rfl U103 rfl fct7 .nil) fun Y U =>?_
  refine plz (e_alloc U m13 101 fct8 rfl fun g21 Y w22 U m22 _ _ =>?_)
  refine plz (stw U m22 101 fct7 fun w23 m23 _ =>?_)
  refine znl (hK4 _ _ ?_)
  refine wp_region_lit ?_
  refine goCh U (.move rfl<|.move rfl<|.loadBR m23 (i := 101) rfl rfl U103 rfl fct7 (by simp) (by dsimp only [List.drop,List.take] <;> rfl) .nil) fun Y U =>?_
  refine plz (e_callV U rfl Tryz.func102 rfl rfl rfl rfl (write_any xs xl _ _ _ _ ((hd17_1.now' m23 rfl).any) hed.1 hed.2) ?_)
  rintro e w27 ⟨p27,c27,rfl,hd27,hb27⟩
  have m28 := m23.callF 102 rfl hb27 hd27
  refine ⟨_,rfl,?_⟩; intro Y U
  refine plz (e_litR U m28 103 (mm := 2) rfl (.cons rfl rfl (.cons (.v _) (.cons (m28.rd (i := 102) rfl) .nil)) .nil) U49 fct9 rfl rfl rfl rfl rfl fun g30 Y w31 U m31 =>?_)
  have m33 := m31.freezeR 103 rfl
  refine plz (e_appR U m33 3 rfl rfl rfl (m33.rd (i := 103) rfl) U49 fct9 rfl rfl (by decide) (by simp; omega) rfl fun p32 c32 Y w34 U m34 =>?_)
  refine gz hK3 U (.assign rfl .nil) fun Y U =>?_
  replace U := U.oz [1,5,11,12,13]
  refine wp_region_lit ?_
  refine goCh U (.inc (k + 1)<|.move rfl .nil) fun Y U =>?_
  refine wpList_nil ?_
  show ∃ n',n' < _ ∧ _
  have hE : (es.take k).map wrD ++ [[D.v (.int .i64 xs),.l 2 (xl.map itD)]] = (es.take (k + 1)).map wrD := by rw [take_snoc hes,List.map_append]; rfl
  rw [hE] at m34 U
  exact ⟨es.length - (k + 1),by omega,k + 1,_,_,by omega,rfl,U.only [1,5,11,12,13],m34.only [3]⟩
 intro hb15 U; try simp only [QQ,Qax] at hb15
 revert U
 obtain rfl : k = es.length := by omega
 intro U
 refine wcf U ?_
 refine wp_exit ?_
 refine hK1 _ _ ?_
 refine regS U (.move rfl<|.assign rfl .nil) fun Y U =>?_
 refine rt1 U ?_
 rw [List.take_length] at *
 have m41 := m13.freezeR 3 rfl
 exact ⟨_,_,rfl,m41.outF (i := 3) rfl,m41.below⟩
theorem volcopy_any (vo bl sz pe to ne fl : Int) (hi : Bool) (place pins : List Int) (ws : List (Int × List (Int × List Int))) (pp pn pw : Option Addr) (cp cn nw cw : Nat) (w0 : World) (h0 : Rd (fun _ => True) w0 (.slice pp place.length cp) (.ns .i64 place)) (h1 : Rd (fun _ => True) w0 (.slice pn pins.length cn) (.ns .i64 pins)) (h2 : Rd (fun _ => True) w0 (.slice pw nw cw) (.l 2 (ws.map wrD))) (hn : place.length ≤ 1000000) (hp : pins.length ≤ 1000000) (hl : ws.length ≤ 1000000) (hok : WrsOk ws) :
   Calls Tryz.prog 52 #[.agg #[.int .i64 vo,.int .i64 bl,.int .i64 sz,.int .i64 pe,.slice pp place.length cp,.int .i64 to,.int .i64 ne,.bool hi,.int .i64 fl,.slice pn pins.length cn,.slice pw nw cw]] w0 fun e w' => ∃ p1 c1 p2 c2 p3 c3,e = .returned (.agg #[.int .i64 vo,.int .i64 bl,.int .i64 sz,.int .i64 pe,.slice p1 place.length c1,.int .i64 to,.int .i64 ne,.bool hi,.int .i64 fl,.slice p2 pins.length c2,.slice p3 (ws.map wrD).length c3]) ∧ Rd (New w0) w' (.slice p1 place.length c1) (.ns .i64 place) ∧ Rd (New w0) w' (.slice p2 pins.length c2) (.ns .i64 pins) ∧ Rd (New w0) w' (.slice p3 (ws.map wrD).length c3) (.l 2 (ws.map wrD)) ∧ Below w0.heap.size w0 w' := by
 refine ent1 Tryz.func52 rfl Tryz.ntmps52 fun Y U =>?_
 have m0 := MemOk.start (fun _ => False) w0
 refine zsr fun K0 hK0 =>?_
 refine plz (e_box U m0 20 (cs := [_,_,_,_,_,_,_,_,_,_,_]) rfl rfl rfl fun g1 Y w2 U m2 _ _ =>?_)
 refine plz (e_alloc U m2 21 fct14 rfl fun g3 Y w4 U m4 _ _ =>?_)
 refine znl (hK0 _ _ ?_)
 refine wsk fun K1 hK1 =>?_
 have m5 := m4.oz [20,21]
 refine region_p 10 (B := [(20,_),(21,_)]) (m5.to ⟨il,il,trivial⟩) m5 (by kernel_rfl) (fun w6 hP6 m6 =>?_); clear m5
 refine goR hP6 [0,1,3,4,6,7] [1,4,7] 6 0 219 U (m6.to ⟨il,il,trivial⟩) (.fa 4 rfl U51<|.lb hh 20 U35 rfl rfl rfl<|.fa 9 rfl U51<|.lb hh 20 U48 rfl rfl rfl<|.fa 10 rfl U51<|.lb hh 20 U49 rfl rfl rfl .nil) fun Y U =>?_
 refine so 2 ?_
 refine ecl U Tryz.func99 rfl (plainI_any place _ _ _ ((h0.now' m6 rfl).any) hn) ?_
 rintro e w13 ⟨p13,c13,rfl,hd13,hb13⟩
 have m14 := m6.callF 22 rfl hb13 hd13
 refine ⟨_,rfl,?_⟩; intro Y U
 refine ⟨m14.to ⟨il,il,trivial⟩,?_⟩
 refine goA hP6 [9] 1 223 735 U (m14.to ⟨il,il,trivial⟩) (.fa 4 rfl U51 .nil) fun Y U =>?_
 refine so 5 ?_
 refine ecl U Tryz.func100 rfl (plain64_any pins _ _ _ ((h1.now' m14 rfl).any) hp) ?_
 rintro e w17 ⟨p17,c17,rfl,hd17,hb17⟩
 have m18 := m14.callF 23 rfl hb17 hd17
 refine ⟨_,rfl,?_⟩; intro Y U
 refine ⟨m18.to ⟨il,il,trivial⟩,?_⟩
 refine so 8 ?_
 refine ecl U Tryz.func101 rfl (listW_any ws _ _ _ _ ((h2.now' m18 rfl).any) hl hok) ?_
 rintro e w20 ⟨p20,c20,rfl,hd20,hb20⟩
 have m21 := m18.callF 24 rfl hb20 hd20
 refine ⟨_,rfl,?_⟩; intro Y U
 refine ⟨m21.to ⟨il,il,trivial⟩,?_⟩
 refine se 10 ?_
 refine st1 U m21 20 fct10 fun w23 m23 _ =>?_
 refine goB hP6 [11] 1 2047 4095 U (.fa 9 rfl U51 .nil) fun Y U =>?_
 refine se 12 ?_
 refine st1 U m23 20 fct11 fun w25 m25 _ =>?_
 refine goB hP6 [13] 1 8191 16383 U (.fa 10 rfl U51 .nil) fun Y U =>?_
 refine se 14 ?_
 refine st1 U m25 20 fct12 fun w27 m27 _ =>?_
 refine wpAnyE_done (by kernel_rfl) ?_ _
 refine hK1 _ _ ?_
 replace U := U.oz [1,2]
 refine zsr fun K2 hK2 =>?_
 refine goCh U (.loadBR m27 (i := 20) rfl rfl U51 rfl fct13 (by simp) (by dsimp only [List.drop,List.take] <;> rfl) .nil) fun Y U =>?_
 refine plz (stw U m27 21 fct13 fun w31 m31 _ =>?_)
 refine znl (hK2 _ _ ?_)
 refine rtd (retC (fn := Tryz.f52) U m31 (i := 21) rfl rfl rfl U51 rfl fct13 ?_)
 exact ⟨_,_,_,_,_,_,rfl,m31.outF (i := 22) rfl,m31.outF (i := 23) rfl,m31.outF (i := 24) rfl,m31.below⟩
end
section
abbrev i0 : Int × List Int := (0,[])
theorem getI {l : List (Int × List Int)} {k : Nat} {e : Int × List Int} (h : l[k]? = some e) : l.getD k i0 = e := by rw [List.getD,h]; rfl
theorem ne_snoc {l : List (Int × List Int)} {k : Nat} {xb yb : Int} {yd : List Int} (h : ∀ j,j < k → (l.getD j i0).1 ≠ xb) (hes : l[k]? = some (yb,yd)) (hne : ¬ yb = xb) : ∀ j,j < k + 1 → (l.getD j i0).1 ≠ xb := fun j hj => by
 rcases Nat.lt_or_ge j k with h1 | h1
 · exact h j h1
 obtain rfl : j = k := by omega
 rw [getI hes]; exact hne
def ItPre (bl sz : Int) (l : List (Int × List Int)) (k : Nat) : Prop := ∀ j,j < k → 0 ≤ (l.getD j i0).1 ∧ (l.getD j i0).1 < bl ∧ ((l.getD j i0).2.length : Int) = sz ∧ ¬ ∃ e ∈ l.take j,e.1 = (l.getD j i0).1
def ItemsR (bl sz : Int) (l : List (Int × List Int)) : Prop := 1 ≤ l.length ∧ l.length ≤ 8 ∧ ItPre bl sz l l.length
theorem itpre_snoc {bl sz : Int} {l : List (Int × List Int)} {k : Nat} {yb : Int} {yd : List Int} (h : ItPre bl sz l k) (hes : l[k]? = some (yb,yd)) (hb : 0 ≤ yb ∧ yb < bl) (hs : (yd.length : Int) = sz) (hn : ¬ ∃ e ∈ l.take k,e.1 = yb) : ItPre bl sz l (k + 1) := fun j hj => by
 rcases Nat.lt_or_ge j k with h1 | h1
 · exact h j h1
 obtain rfl : j = k := by omega
 rw [getI hes]; exact ⟨hb.1,hb.2,hs,hn⟩
set_option maxRecDepth 100000
set_option maxHeartbeats 4000000
theorem eqblk_fr (X : Cx) (B : Nat) (xb yb : Int) (px py : Option Addr) (nx cx ny cy : Nat) (w0 : World) (m0 : MemOk X w0 [(2,.box B 59 [.int .i64 xb,.slice px nx cx])] w0) :
   Calls Tryz.prog 166 #[.agg #[.int .i64 yb,.slice py ny cy],.pointer (some ⟨B,0,none⟩)] w0 fun e w' => e = .returned (.bool (decide (yb = xb))) ∧ MemOk X w0 [(2,.box B 59 [.int .i64 xb,.slice px nx cx])] w' := by
 refine ent2 Tryz.func166 rfl Tryz.ntmps166 fun Y U =>?_
 refine zsr fun K0 hK0 =>?_
 refine plz (e_box U m0 20 (cs := [_,_]) rfl rfl rfl fun g1 Y w2 U m2 _ _ =>?_)
 refine gz hK0 U (.assign rfl .nil) fun Y U =>?_
 refine regS U (.fa 0 rfl U59<|.lb m2 20 U3 rfl rfl rfl<|.fa 0 rfl U59<|.lb m2 2 U3 rfl rfl rfl<|.eql rfl rfl<|.assign rfl .nil) fun Y U =>?_
 refine rt1 U ?_
 exact ⟨rfl,m2.only [2]⟩
theorem ixfunc_fr (X : Cx) (B : Nat) (l : List (Int × List Int)) (xb : Int) (p px : Option Addr) (nn c nx cx : Nat) (w0 : World) (hl : l.length ≤ 1000000) (hnn : nn = l.length) (m0 : MemOk X w0 [(1,.dat (.slice p nn c) (.l 2 (l.map itD))),(2,.box B 59 [.int .i64 xb,.slice px nx cx])] w0) :
   Calls Tryz.prog 182 #[.slice p nn c,.func (.func 166) #[] #[.pointer (some ⟨B,0,none⟩)]] w0 fun e w' => ∃ q : Int,e = .returned (.int .i64 q) ∧ (0 ≤ q ↔ ∃ e ∈ l,e.1 = xb) ∧ MemOk X w0 [(1,.dat (.slice p nn c) (.l 2 (l.map itD))),(2,.box B 59 [.int .i64 xb,.slice px nx cx])] w' := by
 subst hnn
 refine ent2 Tryz.func182 rfl Tryz.ntmps182 fun Y U =>?_
 refine regS U (.assign rfl .nil) fun Y U =>?_
 refine wsk fun K0 hK0 =>?_
 refine regS U (.move rfl<|.len rfl U36<|.move rfl .nil) fun Y U =>?_
 refine wp_block ?_
 refine wp_loop_ghost (fun g a w => ∃ (k : Nat),k ≤ l.length ∧ g = l.length - k ∧ (∀ j,j < k → (l.getD j i0).1 ≠ xb) ∧ Has 19 [(0,.slice p l.length c),(1,.func (.func 166) #[] #[.pointer (some ⟨B,0,none⟩)]),(7,.int .i64 l.length),(8,.int .i64 k)] a ∧ MemOk X w0 [(1,.dat (.slice p l.length c) (.l 2 (l.map itD))),(2,.box B 59 [.int .i64 xb,.slice px nx cx])] w) (l.length) ?_ ?_
 · exact ⟨0,Nat.zero_le _,rfl,(fun j hj => by omega),U.only [0,1,7,8],m0.only [1,2]⟩
 clear U m0
 rintro g Y w5 ⟨k,hkl,hg,hall,U,m5⟩
 refine regS U (.lss rfl rfl .nil) fun Y U =>?_
 refine wsk fun K1 hK1 =>?_
 refine bc U 9 ?_ ?_
 ·
  intro hb7 U; try simp only [QQ,Qax] at hb7
  have hk : k < l.length := by omega
  obtain ⟨⟨yb,yd⟩,hes⟩ : ∃ e,l[k]? = some e := ⟨_,List.getElem?_eq_getElem hk⟩
  refine wct U ?_
  refine zss (hK1 _ _ ?_)
  refine wsk fun K2 hK2 =>?_
  refine wp_block ?_
  refine regS U (.move rfl<|.assign rfl .nil) fun Y U =>?_
  refine zsr fun K3 hK3 =>?_
  refine goCh U (.move rfl<|.move rfl<|.move rfl .nil) fun Y U =>?_
  obtain ⟨b17,o17,vs17,hp17,hR17,ho17,m17⟩ := m5.openR (i := 1) rfl (k) (r := [.v (.int .i64 yb),.ns .u8 yd]) (itD_get hes) 100 rfl
  revert U
  cases hp17; clear m5 ho17
  rcases hR17 with _ | ⟨hd17_0,_ | ⟨hd17_1,_ | _⟩⟩
  obtain rfl := hd17_0.v_out
  clear hd17_0
  obtain ⟨p18,c18,hv18,hc18⟩ := hd17_1.ns_shape; subst hv18
  intro U
  have m18 := m17.dat 101 rfl (hd17_1.cast (fun _ h => (free_add rfl h))); clear m17 hd17_1
  refine goCh U (.c rfl (fun _ h_ => y_idx h_ rfl rfl U36 fct3 (k) rfl hk)<|.loadCR m18 (i := 100) rfl rfl U59 rfl fct3 .nil) fun Y U =>?_
  refine plz (e_callC U rfl Tryz.func166 rfl rfl rfl rfl (eqblk_fr _ _ _ _ _ _ _ _ _ _ _ (m18.into [(2,2)] (by decide) rfl)) ?_)
  rintro e w21 ⟨rfl,hm21⟩
  have mx21 := m18.back hm21 [(2,2)] (by decide); clear hm21 m18
  have m21 := mx21.oz [2,1,100,101]
  refine ⟨_,rfl,?_⟩; intro Y U
  refine znl (hK3 _ _ ?_)
  refine bc U 16 ?_ ?_
  ·
   intro hb23 U; try simp only [QQ,Qax] at hb23
   refine wct U ?_
   replace U := U.oz [0,1,7,8,5,16]
   refine regS U (.move rfl<|.assign rfl .nil) fun Y U =>?_
   refine rt1 U ?_
   exact ⟨_,rfl,iff_of_true (by omega) ⟨_,List.mem_of_getElem? hes,hb23⟩,m21.only [1,2]⟩
  intro hb23 U; try simp only [QQ,Qax] at hb23
  refine wcf U ?_
  refine zss (hK2 _ _ ?_)
  replace U := U.oz [0,1,7,8,16]
  refine wp_region_lit ?_
  refine goCh U (.inc (k + 1)<|.move rfl .nil) fun Y U =>?_
  refine wpList_nil ?_
  show ∃ n',n' < _ ∧ _
  exact ⟨l.length - (k + 1),by omega,k + 1,by omega,rfl,ne_snoc hall hes hb23,U.only [0,1,7,8],m21.only [1,2]⟩
 intro hb7 U; try simp only [QQ,Qax] at hb7
 revert U
 obtain rfl : k = l.length := by omega
 intro U
 refine wcf U ?_
 refine wp_exit ?_
 refine hK0 _ _ ?_
 refine regS U (.assign rfl .nil) fun Y U =>?_
 refine rt1 U ?_
 exact ⟨_,rfl,iff_of_false (by omega) (fun h => by obtain ⟨e9,h1,h2⟩ := h; obtain ⟨j,hj,rfl⟩ := List.getElem_of_mem h1; have := hall j hj; rw [List.getD,List.getElem?_eq_getElem hj] at this; exact this h2),m5.only [1,2]⟩
theorem cfunc_fr (X : Cx) (B : Nat) (l : List (Int × List Int)) (xb : Int) (p px : Option Addr) (nn c nx cx : Nat) (w0 : World) (hl : l.length ≤ 1000000) (hnn : nn = l.length) (m0 : MemOk X w0 [(1,.dat (.slice p nn c) (.l 2 (l.map itD))),(2,.box B 59 [.int .i64 xb,.slice px nx cx])] w0) :
   Calls Tryz.prog 165 #[.slice p nn c,.func (.func 166) #[] #[.pointer (some ⟨B,0,none⟩)]] w0 fun e w' => ∃ b : Bool,e = .returned (.bool b) ∧ (b = true ↔ ∃ e ∈ l,e.1 = xb) ∧ MemOk X w0 [(1,.dat (.slice p nn c) (.l 2 (l.map itD))),(2,.box B 59 [.int .i64 xb,.slice px nx cx])] w' := by
 subst hnn
 refine ent2 Tryz.func165 rfl Tryz.ntmps165 fun Y U =>?_
 refine regS U (.assign rfl .nil) fun Y U =>?_
 refine zsr fun K0 hK0 =>?_
 refine goCh U (.move rfl<|.move rfl .nil) fun Y U =>?_
 refine plz (ecl U Tryz.func182 rfl (ixfunc_fr _ _ l _ _ _ _ _ _ _ _ (by omega) rfl (m0.into [(1,1),(2,2)] (by decide) rfl)) ?_)
 rintro e w6 ⟨q,rfl,hq,hm6⟩
 have mx6 := m0.back hm6 [(1,1),(2,2)] (by decide); clear hm6 m0
 have m6 := mx6.oz [1,2]
 refine ⟨_,rfl,?_⟩; intro Y U
 refine gz hK0 U (.geq rfl rfl<|.assign rfl<|.nil) fun Y U =>?_
 refine rt1 U ?_
 exact ⟨_,rfl,by rw [decide_eq_true_eq]; exact hq,m6.only [1,2]⟩
theorem pitems_any (bl sz : Int) (l : List (Int × List Int)) (p : Option Addr) (c : Nat) (w0 : World) (h0 : Rd (fun _ => True) w0 (.slice p l.length c) (.l 2 (l.map itD))) (hl : l.length ≤ 1000000) :
   Calls Tryz.prog 139 #[.int .i64 bl,.int .i64 sz,.slice p l.length c] w0 fun e w' => ∃ b : Bool,e = .returned (.bool b) ∧ (b = true ↔ ItemsR bl sz l) ∧ Below w0.heap.size w0 w' := by
 have hcap : l.length ≤ c := by obtain ⟨pq,cq,hv,hcap⟩ := h0.l_shape; injection hv with _ _ e3; rw [List.length_map] at hcap; omega
 refine ent3 Tryz.func139 rfl Tryz.ntmps139 fun Y U =>?_
 have m0 := (MemOk.start (fun _ => True) w0).dat 1 rfl (h0.cast (fun _ _ => free_nil (fun _ => trivial)))
 refine regS U (.assign rfl .nil) fun Y U =>?_
 refine wsk fun K0 hK0 =>?_
 refine regS U (.move rfl<|.len rfl U36<|.move rfl .nil) fun Y U =>?_
 refine wp_block ?_
 refine wp_loop_ghost (fun g a w => ∃ (k : Nat),k ≤ l.length ∧ g = l.length - k ∧ ItPre bl sz l k ∧ Has 46 [(0,.int .i64 bl),(1,.int .i64 sz),(2,.slice p l.length c),(9,.slice p l.length c),(10,.int .i64 l.length),(11,.int .i64 k)] a ∧ MemOk (cx (fun _ => True) w0) w0 [(1,.dat (.slice p l.length c) (.l 2 (l.map itD)))] w) (l.length) ?_ ?_
 · exact ⟨0,Nat.zero_le _,rfl,(fun j hj => by omega),U.only [0,1,2,9,10,11],m0.only [1]⟩
 clear U m0
 rintro g Y w5 ⟨k,hkl,hg,hall,U,m5⟩
 refine regS U (.lss rfl rfl .nil) fun Y U =>?_
 refine wsk fun K1 hK1 =>?_
 refine bc U 12 ?_ ?_
 ·
  intro hb7 U; try simp only [QQ,Qax] at hb7
  have hk : k < l.length := by omega
  obtain ⟨⟨yb,yd⟩,hes⟩ : ∃ e,l[k]? = some e := ⟨_,List.getElem?_eq_getElem hk⟩
  refine wct U ?_
  refine zss (hK1 _ _ ?_)
  refine wsk fun K2 hK2 =>?_
  refine wp_block ?_
  refine zsr fun K3 hK3 =>?_
  refine goCh U (.move rfl .nil) fun Y U =>?_
  obtain ⟨b11,o11,vs11,hp11,hR11,ho11,m11⟩ := m5.openR (i := 1) rfl (k) (r := [.v (.int .i64 yb),.ns .u8 yd]) (itD_get hes) 100 rfl
  revert U
  cases hp11; clear m5 ho11
  rcases hR11 with _ | ⟨hd11_0,_ | ⟨hd11_1,_ | _⟩⟩
  obtain rfl := hd11_0.v_out
  clear hd11_0
  obtain ⟨p12,c12,hv12,hc12⟩ := hd11_1.ns_shape; subst hv12
  intro U
  have m12 := m11.dat 101 rfl (hd11_1.cast (fun _ h => (free_add rfl h))); clear m11 hd11_1
  refine goCh U (.c rfl (fun _ h_ => y_idx h_ rfl rfl U36 fct3 (k) rfl hk)<|.loadCR m12 (i := 100) rfl rfl U59 rfl fct3 .nil) fun Y U =>?_
  refine plz (e_alloc U m12 102 fct4 rfl fun g15 Y w16 U m16 _ _ =>?_)
  refine goCh U (.assign rfl .nil) fun Y U =>?_
  refine plz (stw U m16 102 fct3 fun w18 m18 _ =>?_)
  refine znl (hK3 _ _ ?_)
  refine wsk fun K4 hK4 =>?_
  refine zsr fun K5 hK5 =>?_
  refine goCh U (.fa 0 rfl U59<|.lb m18 102 U3 rfl rfl rfl<|.lss rfl rfl<|.move rfl .nil) fun Y U =>?_
  refine bc U 19 ?_ ?_
  ·
   intro hb27 U; try simp only [QQ,Qax] at hb27
   refine gz hK5 U (.sk<|.sk<|.sk<|.sk<|.pickT rfl rfl<|.move rfl<|.sk<|.sk<|.sk<|.sk<|.sk<|.pickT rfl rfl<|.nil) fun Y U =>?_
   refine wct U ?_
   replace U := U.oz [0,1,2,9,10,11,12,8,7]
   refine regS U (.assign rfl .nil) fun Y U =>?_
   refine rt1 U ?_
   exact ⟨_,rfl,iff_of_false (by simp) (fun h => by have h9 := h.2.2 k hk; rw [getI hes] at h9; dsimp only at h9; omega),m18.below⟩
  intro hb27 U; try simp only [QQ,Qax] at hb27
  refine goCh U (.faZ 0 rfl U59<|.loadB1Z m18 (i := 102) rfl rfl rfl U3 rfl<|.moveZ rfl<|.geqZ rfl rfl<|.pickF rfl rfl<|.move rfl .nil) fun Y U =>?_
  refine bc U 25 ?_ ?_
  ·
   intro hb48 U; try simp only [QQ,Qax] at hb48
   refine gz hK5 U (.sk<|.sk<|.sk<|.sk<|.sk<|.pickT rfl rfl<|.nil) fun Y U =>?_
   refine wct U ?_
   replace U := U.oz [0,1,2,9,10,11,12,8,7]
   refine regS U (.assign rfl .nil) fun Y U =>?_
   refine rt1 U ?_
   exact ⟨_,rfl,iff_of_false (by simp) (fun h => by have h9 := h.2.2 k hk; rw [getI hes] at h9; dsimp only at h9; omega),m18.below⟩
  intro hb48 U; try simp only [QQ,Qax] at hb48
  refine gz hK5 U (.faZ 1 rfl U59<|.loadB1Z m18 (i := 102) rfl rfl rfl U22 rfl<|.lenZ rfl U22<|.moveZ rfl<|.neqZ rfl rfl<|.pickF rfl rfl<|.nil) fun Y U =>?_
  refine bc U 31 ?_ ?_
  ·
   intro hb63 U; try simp only [QQ,Qax] at hb63
   refine wct U ?_
   replace U := U.oz [0,1,2,9,10,11,12,8,7]
   refine regS U (.assign rfl .nil) fun Y U =>?_
   refine rt1 U ?_
   exact ⟨_,rfl,iff_of_false (by simp) (fun h => by have h9 := h.2.2 k hk; rw [getI hes] at h9; dsimp only at h9; omega),m18.below⟩
  intro hb63 U; try simp only [QQ,Qax] at hb63
  refine wcf U ?_
  refine zss (hK4 _ _ ?_)
  replace U := U.oz [0,1,2,9,10,11,12,8,7]
  refine zsr fun K6 hK6 =>?_
  refine goCh U (.move rfl<|.move rfl<|.c rfl (fun _ h_ => y_sliceHn h_ k rfl rfl U36 fct3 rfl (by omega))<|.makeFunc rfl .nil) fun Y U =>?_
  have m75 := m18.takeR (i := 1) rfl k (by rw [List.length_map]; omega) 103 rfl
  rw [← List.map_take] at m75
  refine plz (ecl U Tryz.func165 rfl (cfunc_fr _ _ (l.take k) _ _ _ _ _ _ _ _ (by rw [List.length_take]; omega) (by rw [List.length_take]; omega) (m75.into [(1,103),(2,102)] (by decide) rfl)) ?_)
  rintro e w76 ⟨cb,rfl,hcb,hm76⟩
  have mx76 := m75.back hm76 [(103,1),(102,2)] (by decide); clear hm76 m75
  have m76 := mx76.oz [103,102,1,100,101]
  refine ⟨_,rfl,?_⟩; intro Y U
  refine znl (hK6 _ _ ?_)
  refine bc U 36 ?_ ?_
  ·
   intro hb78 U; try simp only [QQ,Qax] at hb78
   refine wct U ?_
   replace U := U.oz [0,1,2,9,10,11,12,36]
   refine regS U (.assign rfl .nil) fun Y U =>?_
   refine rt1 U ?_
   exact ⟨_,rfl,iff_of_false (by simp) (fun h => (h.2.2 k hk).2.2.2 (by rw [getI hes]; exact hcb.1 (by simp_all))),m76.below⟩
  intro hb78 U; try simp only [QQ,Qax] at hb78
  refine wcf U ?_
  refine zss (hK2 _ _ ?_)
  replace U := U.oz [0,1,2,9,10,11,12,36]
  refine wp_region_lit ?_
  refine goCh U (.inc (k + 1)<|.move rfl .nil) fun Y U =>?_
  refine wpList_nil ?_
  show ∃ n',n' < _ ∧ _
  exact ⟨l.length - (k + 1),by omega,k + 1,by omega,rfl,itpre_snoc hall hes (by omega) (by omega) (fun h => by have h9 := hcb.2 h; simp_all),U.only [0,1,2,9,10,11],m76.only [1]⟩
 intro hb7 U; try simp only [QQ,Qax] at hb7
 revert U
 obtain rfl : k = l.length := by omega
 intro U
 refine wcf U ?_
 refine wp_exit ?_
 refine hK0 _ _ ?_
 refine zsr fun K7 hK7 =>?_
 refine goCh U (.move rfl<|.len rfl U36<|.geq rfl rfl<|.move rfl .nil) fun Y U =>?_
 refine bc U 41 ?_ ?_
 ·
  intro hb92 U; try simp only [QQ,Qax] at hb92
  refine gz hK7 U (.moveZ rfl<|.lenZ rfl U36<|.leqZ rfl rfl<|.pickT rfl rfl<|.assign rfl<|.nil) fun Y U =>?_
  refine rt1 U ?_
  exact ⟨_,rfl,by unfold ItemsR; first | (simp; intros; first | exact hall | omega) | (refine iff_of_false (by simp) (fun h =>?_); omega) | (rw [decide_eq_true_eq]; exact ⟨fun h => ⟨by omega,by omega,hall⟩,fun h => by omega⟩),m5.below⟩
 intro hb92 U; try simp only [QQ,Qax] at hb92
 refine gz hK7 U (.sk<|.sk<|.sk<|.pickF rfl rfl<|.assign rfl<|.nil) fun Y U =>?_
 refine rt1 U ?_
 exact ⟨_,rfl,by unfold ItemsR; first | (simp; intros; first | exact hall | omega) | (refine iff_of_false (by simp) (fun h =>?_); omega) | (rw [decide_eq_true_eq]; exact ⟨fun h => ⟨by omega,by omega,hall⟩,fun h => by omega⟩),m5.below⟩
theorem vitems_any (bl sz : Int) (l : List (Int × List Int)) (p : Option Addr) (c : Nat) (w0 : World) (h0 : Rd (fun _ => True) w0 (.slice p l.length c) (.l 2 (l.map itD))) (hl : l.length ≤ 1000000) :
   Calls Tryz.prog 113 #[.int .i64 bl,.int .i64 sz,.slice p l.length c] w0 fun e w' => ∃ b : Bool,e = .returned (.bool b) ∧ (b = true ↔ ItemsR bl sz l) ∧ Below w0.heap.size w0 w' := by
 refine ent3 Tryz.func113 rfl Tryz.ntmps113 fun Y U =>?_
 have m0 := MemOk.start (fun _ => False) w0
 refine regS U (.assign rfl .nil) fun Y U =>?_
 refine zsr fun K0 hK0 =>?_
 refine goCh U (.move rfl<|.move rfl<|.move rfl .nil) fun Y U =>?_
 refine plz (ecl U Tryz.func139 rfl (pitems_any bl sz l _ _ _ ((h0.now' m0 rfl).any) hl) ?_)
 rintro e w8 ⟨b,rfl,hb9,hb8⟩
 have m9 := m0.later hb8
 refine ⟨_,rfl,?_⟩; intro Y U
 refine gz hK0 U (.assign rfl .nil) fun Y U =>?_
 refine rt1 U ?_
 exact ⟨_,rfl,hb9,m9.below⟩
end
end Go.Proofs.YtkehgingagggaaaGreat.K
