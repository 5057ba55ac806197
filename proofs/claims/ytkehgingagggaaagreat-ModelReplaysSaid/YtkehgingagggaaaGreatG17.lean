/- General laws of walks. -/
import Derived.Test.YtkehgingagggaaaGreatG16
import Derived.Laws.StructEq
import Derived.ChangeKeysEq
import Derived.Test.YtkehgingagggaaaGreatG15
namespace Go.Proofs.YtkehgingagggaaaGreat.K
open Go.ChangeShapes Go.WideShapes Go.ChangeAt Go.RowKit
set_option linter.unusedVariables false
set_option linter.unusedSimpArgs false
section
theorem fl129oO : flatS Tryz.prog 129 [.int .i64 0,.int .i64 0,.int .i64 0,.int .i64 0,.int .i64 0] = true := by kernel_rfl
def VolB (x : VolV) : Prop := x.place.length ≤ 1000000 ∧ x.pins.length ≤ 1000000 ∧ x.ws.length ≤ 1000000 ∧ ∀ e ∈ x.ws,e.2.length ≤ 1000000 ∧ ∀ z ∈ e.2,BytesL z.2
abbrev shpE (x y : VolV) : Prop := x.vo = y.vo ∧ x.bl = y.bl ∧ x.sz = y.sz ∧ x.pe = y.pe ∧ x.place = y.place ∧ x.to = y.to
abbrev preE (x y : VolV) : Prop := shpE x y ∧ x.ws.length ≤ y.ws.length ∧ x.ws = y.ws.take x.ws.length
abbrev samE (x y : VolV) : Prop := shpE x y ∧ x.ne = y.ne ∧ x.hi = y.hi ∧ x.fl = y.fl ∧ x.pins = y.pins ∧ x.ws = y.ws
abbrev samP (x y : VolV) : Prop := preE x y ∧ x.ws.length = y.ws.length ∧ x.ne = y.ne ∧ x.hi = y.hi ∧ x.fl = y.fl ∧ x.pins = y.pins
theorem samP_iff {x y : VolV} : samP x y ↔ samE x y := by
 constructor
 · rintro ⟨⟨h1,h2,h3⟩,h4,h5,h6,h7,h8⟩
   exact ⟨h1,h5,h6,h7,h8,by rw [h3,List.take_of_length_le (by omega)]⟩
 rintro ⟨h1,h5,h6,h7,h8,h9⟩
 exact ⟨⟨h1,by rw [h9]; exact Nat.le_refl _,by rw [h9,List.take_length]⟩,by rw [h9],h5,h6,h7,h8⟩
theorem takeW {w : World} {p : Option Addr} {l c : Nat} {ws : List (Int × List (Int × List Int))} {j : Nat} (h : Rd (fun _ => True) w (.slice p l c) (.l 2 (ws.map wrD))) (hj : j ≤ ws.length) : Rd (fun _ => True) w (.slice p j c) (.l 2 ((ws.take j).map wrD)) := by
 rw [List.map_take]; exact h.takeL j (by rw [List.length_map]; exact hj)
theorem Rd.capW {S : Nat → Prop} {w : World} {p : Option Addr} {l c : Nat} {ws : List (Int × List (Int × List Int))} (h : Rd S w (.slice p l c) (.l 2 (ws.map wrD))) : ws.length ≤ c := by
 have := h.capL; rwa [List.length_map] at this
theorem eqF_int {P : Program} (w : World) (d : Nat) (xs ys : Array Value) (f : Field) (fs : List Field) (hn : (f.name == "_") = false) {t o : Nat} {k k' : IntKind} (ht : f.type = t) (ho : f.offset = o) (hp : P.plainKey t = true) (hu : P.underlying t = some (.int k')) {x y : Int} (hx : xs[o]? = some (.int k x)) (hy : ys[o]? = some (.int k y)) :
   (Op.eqFields (d + 1) xs ys (f :: fs)).run P w = if x = y then (Op.eqFields (d + 1) xs ys fs).run P w else .ok false w := by
 have hne : f.name ≠ "_" := by simpa using hn
 subst ht; subst ho
 rw [Op.eqFields,if_pos hne]
 simp only [Sem.run_bind,run_part_plain w hp hx,run_part_plain w hp hy,Result.andThen_ok,run_equalIn_int w d _ k k' x y hu]
 by_cases h : x = y
 · subst h; simp
 have : (x == y) = false := by simpa using h
 simp [h,this]
theorem shp_fields : (Tryz.prog.fieldsOf 129).toList.map (fun f => (f.name == "_", f.type, f.offset)) = [(false, 3, 0), (false, 3, 1), (false, 3, 2), (false, 3, 3), (false, 3, 4)] := by kernel_rfl
theorem neq_shp (w : World) (a1 a2 a3 a4 a5 b1 b2 b3 b4 b5 : Int) : (binOp .neq 129 (.agg #[.int .i64 a1,.int .i64 a2,.int .i64 a3,.int .i64 a4,.int .i64 a5]) (.agg #[.int .i64 b1,.int .i64 b2,.int .i64 b3,.int .i64 b4,.int .i64 b5])).run Tryz.prog w = .ok (.bool (decide (¬ (a1 = b1 ∧ a2 = b2 ∧ a3 = b3 ∧ a4 = b4 ∧ a5 = b5)))) w := by
 rw [run_neq_struct,run_equalIn_agg w 9999 129 _ _ (by kernel_rfl) (by kernel_rfl)]
 have hf := shp_fields
 generalize (Tryz.prog.fieldsOf 129).toList = L at hf
 have hL : L.length = 5 := by have := congrArg List.length hf; simpa using this
 match L,hL,hf with
 | [f1,f2,f3,f4,f5],_,hf =>
   simp only [List.map_cons,List.map_nil,List.cons.injEq,Prod.mk.injEq,and_true] at hf
   obtain ⟨⟨n1,t1,o1⟩,⟨n2,t2,o2⟩,⟨n3,t3,o3⟩,⟨n4,t4,o4⟩,⟨n5,t5,o5⟩⟩ := hf
   rw [eqF_int w 9998 _ _ f1 _ n1 t1 o1 (by kernel_rfl) (k' := .i64) (by kernel_rfl) rfl rfl,eqF_int w 9998 _ _ f2 _ n2 t2 o2 (by kernel_rfl) (k' := .i64) (by kernel_rfl) rfl rfl,eqF_int w 9998 _ _ f3 _ n3 t3 o3 (by kernel_rfl) (k' := .i64) (by kernel_rfl) rfl rfl,eqF_int w 9998 _ _ f4 _ n4 t4 o4 (by kernel_rfl) (k' := .i64) (by kernel_rfl) rfl rfl,eqF_int w 9998 _ _ f5 _ n5 t5 o5 (by kernel_rfl) (k' := .i64) (by kernel_rfl) rfl rfl]
   by_cases h1 : a1 = b1 <;> by_cases h2 : a2 = b2 <;> by_cases h3 : a3 = b3 <;> by_cases h4 : a4 = b4 <;> by_cases h5 : a5 = b5 <;> simp [Op.eqFields,h1,h2,h3,h4,h5]
theorem y_neqH {T : List (Nat × Value)} {n : Nat} {a : Act} {w : World} {d : Option Tmp} {x y : Operand} {t2 tt : TypeId} {pos : String} {af : Array Edge} {gd : Option (Nat × Bool)} (h : Has n T a) {a1 a2 a3 a4 a5 b1 b2 b3 b4 b5 : Int} (hx : evT T x = some (.agg #[.int .i64 a1,.int .i64 a2,.int .i64 a3,.int .i64 a4,.int .i64 a5])) (hy : evT T y = some (.agg #[.int .i64 b1,.int .i64 b2,.int .i64 b3,.int .i64 b4,.int .i64 b5])) : Yl Tryz.prog a w ⟨d,.binOp .neq 129 x y t2,tt,pos,af,gd⟩ (.bool (decide (¬ (a1 = b1 ∧ a2 = b2 ∧ a3 = b3 ∧ a4 = b4 ∧ a5 = b5)))) := by
 show (execOp _ _).run _ w = _
 have hg := run_eqGuard_agg (P := Tryz.prog) w .neq 129 x y #[.int .i64 a1,.int .i64 a2,.int .i64 a3,.int .i64 a4,.int .i64 a5] #[.int .i64 b1,.int .i64 b2,.int .i64 b3,.int .i64 b4,.int .i64 b5] (by kernel_rfl)
 simp only [execOp,h.ev hx,h.ev hy,Sem.run_bind,hg,Result.andThen_ok,neq_shp,Sem.run_pure]
set_option maxRecDepth 100000
set_option maxHeartbeats 4000000
theorem rsit (xs ys : List (Int × List Int)) (p1 p2 : Option Addr) (n1 n2 c1 c2 : Nat) (w0 : World) (h1 : Rd (fun _ => True) w0 (.slice p1 n1 c1) (.l 2 (xs.map itD))) (h2 : Rd (fun _ => True) w0 (.slice p2 n2 c2) (.l 2 (ys.map itD))) (hl1 : xs.length ≤ 1000000) (hl2 : ys.length ≤ 1000000) (hi1 : ∀ e ∈ xs,BytesL e.2) (hi2 : ∀ e ∈ ys,BytesL e.2) :
   Calls Tryz.prog 80 #[.slice p1 n1 c1,.slice p2 n2 c2] w0 fun e w' => e = .returned (.bool (decide (xs = ys))) ∧ Below w0.heap.size w0 w' := by
 obtain rfl : n1 = xs.length := by obtain ⟨pq,cq,hv,_⟩ := h1.l_shape; injection hv with _ e2 _; rw [List.length_map] at e2; exact e2
 obtain rfl : n2 = ys.length := by obtain ⟨pq,cq,hv,_⟩ := h2.l_shape; injection hv with _ e2 _; rw [List.length_map] at e2; exact e2
 refine ent2 Tryz.func80 rfl Tryz.ntmps80 fun Y U =>?_
 have m0 := MemOk.start (fun _ => False) w0
 refine regS U (.assign rfl .nil) fun Y U =>?_
 refine wsk fun K0 hK0 =>?_
 refine regS U (.move rfl<|.len rfl U36<|.move rfl<|.len rfl U36<|.neq rfl rfl .nil) fun Y U =>?_
 refine bc U 10 ?_ ?_
 ·
  intro hb7 U; try simp only [QQ,Qax] at hb7
  have hR : decide (xs = ys) = false := eqL_no (by omega)
  refine wct U ?_
  refine regS U (.assign rfl .nil) fun Y U =>?_
  refine rt1 U ?_
  exact ⟨by rw [hR],m0.below⟩
 intro hb7 U; try simp only [QQ,Qax] at hb7
 have hlq : xs.length = ys.length := by omega
 refine wcf U ?_
 refine zss (hK0 _ _ ?_)
 refine wsk fun K1 hK1 =>?_
 refine regS U (.assign rfl .nil) fun Y U =>?_
 refine wp_block ?_
 refine wp_loop_ghost (fun g a w => ∃ k : Nat,k ≤ xs.length ∧ xs.length = ys.length ∧ xs.take k = ys.take k ∧ g = xs.length - k ∧ Has 43 [(0,.slice p1 xs.length c1),(1,.slice p2 ys.length c2),(5,.int .i64 k)] a ∧ MemOk (cn w0) w0 [] w) (xs.length) ?_ ?_
 · exact ⟨0,Nat.zero_le _,hlq,rfl,rfl,U.only [0,1,5],m0.only []⟩
 clear U m0
 rintro g Y w10 ⟨k,hkl,hlq,htk,hg,U,m10⟩
 refine wsk fun K2 hK2 =>?_
 refine regS U (.move rfl<|.move rfl<|.len rfl U36<|.lss rfl rfl .nil) fun Y U =>?_
 refine bc U 14 ?_ ?_
 ·
  intro hb15 U; try simp only [QQ,Qax] at hb15
  have hk : k < xs.length := by omega
  have hk2 : k < ys.length := by omega
  obtain ⟨⟨xb,xd⟩,hes⟩ : ∃ e,xs[k]? = some e := ⟨_,List.getElem?_eq_getElem hk⟩
  obtain ⟨⟨yb,yd⟩,hfs⟩ : ∃ e,ys[k]? = some e := ⟨_,List.getElem?_eq_getElem hk2⟩
  have hx1 := hi1 _ (List.mem_of_getElem? hes)
  have hy1 := hi2 _ (List.mem_of_getElem? hfs)
  refine wct U ?_
  refine zss (hK2 _ _ ?_)
  refine wsk fun K3 hK3 =>?_
  refine wp_block ?_
  refine wsk fun K4 hK4 =>?_
  obtain ⟨gx17,ox17,vx17,hp17,hl17,hR17,hrg17⟩ := h1.extA (k) (r := [.v (.int .i64 xb),.ns .u8 xd]) (itD_get hes)
  revert U
  cases hp17
  rcases hR17 with _ | ⟨hd17_0,_ | ⟨hd17_1,_ | _⟩⟩
  obtain rfl := hd17_0.v_out
  clear hd17_0
  obtain ⟨p18,c18,hv18,hw18⟩ := hd17_1.ns_shape; subst hv18
  intro U
  obtain ⟨gx20,ox20,vx20,hp20,hl20,hR20,hrg20⟩ := h2.extA (k) (r := [.v (.int .i64 yb),.ns .u8 yd]) (itD_get hfs)
  revert U
  cases hp20
  rcases hR20 with _ | ⟨hd20_0,_ | ⟨hd20_1,_ | _⟩⟩
  obtain rfl := hd20_0.v_out
  clear hd20_0
  obtain ⟨p21,c21,hv21,hw21⟩ := hd20_1.ns_shape; subst hv21
  intro U
  obtain ⟨gx23,ox23,vx23,hp23,hl23,hR23,hrg23⟩ := h1.extA (k) (r := [.v (.int .i64 xb),.ns .u8 xd]) (itD_get hes)
  revert U
  cases hp23
  rcases hR23 with _ | ⟨hd23_0,_ | ⟨hd23_1,_ | _⟩⟩
  obtain rfl := hd23_0.v_out
  clear hd23_0
  obtain ⟨p24,c24,hv24,hw24⟩ := hd23_1.ns_shape; subst hv24
  intro U
  obtain ⟨gx26,ox26,vx26,hp26,hl26,hR26,hrg26⟩ := h2.extA (k) (r := [.v (.int .i64 yb),.ns .u8 yd]) (itD_get hfs)
  revert U
  cases hp26
  rcases hR26 with _ | ⟨hd26_0,_ | ⟨hd26_1,_ | _⟩⟩
  obtain rfl := hd26_0.v_out
  clear hd26_0
  obtain ⟨p27,c27,hv27,hw27⟩ := hd26_1.ns_shape; subst hv27
  intro U
  have m28 : MemOk _ _ [] _ := m10.only []; clear m10
  refine region_p 26 (B := []) (m28.to trivial) m28 (by kernel_rfl) (fun w29 hP29 m29 =>?_); clear m28
  refine goR hP29 [0,1,2,3,4,5,6,7,8,9,10,11] [4,9] 12 0 4095 U (m29.to trivial) (.move rfl<|.move rfl<|.p (fun _ _ h_ => y_idx h_ rfl rfl U36 fct3 (k) rfl hk)<|.fieldAddrQ 0 rfl U59 rfl (s := 0) (by kernel_rfl) rfl<|.loadAt1 (fun _ h_ => (hrg17 h_ rfl)) (q := 0) rfl rfl rfl U3 rfl<|.move rfl<|.move rfl<|.p (fun _ _ h_ => y_idx h_ rfl rfl U36 fct3 (k) rfl hk2)<|.fieldAddrQ 0 rfl U59 rfl (s := 0) (by kernel_rfl) rfl<|.loadAt1 (fun _ h_ => (hrg20 h_ rfl)) (q := 0) rfl rfl rfl U3 rfl<|.neq rfl rfl<|.move rfl .nil) fun Y U =>?_
  refine bc U 28 ?_ ?_
  ·
   intro hb42 U; try simp only [QQ,Qax] at hb42
   have hR : decide (xs = ys) = false := eqL_neP hes hfs (fun e9 => hb42 (Prod.mk.inj e9).1)
   refine goA hP29 [12,13,14,15,16,17,18,19,20,21,22,23,24,25] 14 4095 67108863 U (m29.to trivial) (.s<|.s<|.s<|.s<|.s<|.s<|.s<|.s<|.s<|.s<|.s<|.s<|.s<|.pickT rfl rfl .nil) fun Y U =>?_
   refine wpAnyE_done (by kernel_rfl) ?_ _
   refine hK4 _ _ ?_
   refine wct U ?_
   replace U := U.oz [0,1,5]
   refine regS U (.assign rfl .nil) fun Y U =>?_
   refine rt1 U ?_
   exact ⟨by rw [hR],m29.below⟩
  intro hb42 U; try simp only [QQ,Qax] at hb42
  have hq1 := hb42
  refine goR hP29 [12,13,14,15,16,17,18,19,20,21,22,23,24,25] [16,17,22,23] 14 4095 67108863 U (m29.to trivial) (.move rfl<|.move rfl<|.p (fun _ _ h_ => y_idx h_ rfl rfl U36 fct3 (k) rfl hk)<|.fieldAddrQ 1 rfl U59 rfl (s := 0) (by kernel_rfl) rfl<|.loadAt1 (fun _ h_ => (hrg23 h_ rfl)) (q := 1) rfl rfl rfl U22 rfl<|.str rfl (fun _ h_ => (hd23_1.now' h_ rfl).ns_out.nums) U22 U5 U9<|.move rfl<|.move rfl<|.p (fun _ _ h_ => y_idx h_ rfl rfl U36 fct3 (k) rfl hk2)<|.fieldAddrQ 1 rfl U59 rfl (s := 0) (by kernel_rfl) rfl<|.loadAt1 (fun _ h_ => (hrg26 h_ rfl)) (q := 1) rfl rfl rfl U22 rfl<|.str rfl (fun _ h_ => (hd26_1.now' h_ rfl).ns_out.nums) U22 U5 U9<|.neqS rfl rfl<|.pickF rfl rfl .nil) fun Y U =>?_
  refine wpAnyE_done (by kernel_rfl) ?_ _
  refine hK4 _ _ ?_
  refine bc U 42 ?_ ?_
  ·
   intro hb73 U; try simp only [QQ,Qax] at hb73
   have hq2 : ¬ xd = yd := by rw [str_beq hx1 hy1] at hb73; exact of_decide_eq_false hb73
   have hR : decide (xs = ys) = false := eqL_neP hes hfs (fun e9 => hq2 (Prod.mk.inj e9).2)
   refine wct U ?_
   replace U := U.oz [0,1,5]
   refine regS U (.assign rfl .nil) fun Y U =>?_
   refine rt1 U ?_
   exact ⟨by rw [hR],m29.below⟩
  intro hb73 U; try simp only [QQ,Qax] at hb73
  have hq2 : xd = yd := by rw [str_beq hx1 hy1] at hb73; exact of_decide_eq_true hb73
  have htk2 := eqL_stepP htk hes hfs (by rw [hq1,hq2])
  refine wcf U ?_
  refine zss (hK3 _ _ ?_)
  replace U := U.oz [0,1,5]
  refine wp_region_lit ?_
  refine goCh U (.move rfl<|.inc (k + 1)<|.assign rfl .nil) fun Y U =>?_
  refine wpList_nil ?_
  show ∃ n',n' < _ ∧ _
  exact ⟨xs.length - (k + 1),by omega,k + 1,by omega,hlq,htk2,rfl,U.only [0,1,5],m29.only []⟩
 intro hb15 U; try simp only [QQ,Qax] at hb15
 have hR : decide (xs = ys) = true := eqL_all hlq (by omega) htk
 refine wcf U ?_
 refine wp_exit ?_
 refine hK1 _ _ ?_
 refine regS U (.assign rfl .nil) fun Y U =>?_
 refine rt1 U ?_
 exact ⟨by rw [hR],m10.below⟩
theorem rswr (xs ys : List (Int × List (Int × List Int))) (p1 p2 : Option Addr) (n1 n2 c1 c2 : Nat) (w0 : World) (h1 : Rd (fun _ => True) w0 (.slice p1 n1 c1) (.l 2 (xs.map wrD))) (h2 : Rd (fun _ => True) w0 (.slice p2 n2 c2) (.l 2 (ys.map wrD))) (hl1 : xs.length ≤ 1000000) (hl2 : ys.length ≤ 1000000) (hi1 : ∀ e ∈ xs,e.2.length ≤ 1000000 ∧ ∀ x ∈ e.2,BytesL x.2) (hi2 : ∀ e ∈ ys,e.2.length ≤ 1000000 ∧ ∀ x ∈ e.2,BytesL x.2) :
   Calls Tryz.prog 55 #[.slice p1 n1 c1,.slice p2 n2 c2] w0 fun e w' => e = .returned (.bool (decide (xs = ys))) ∧ Below w0.heap.size w0 w' := by
 obtain rfl : n1 = xs.length := by obtain ⟨pq,cq,hv,_⟩ := h1.l_shape; injection hv with _ e2 _; rw [List.length_map] at e2; exact e2
 obtain rfl : n2 = ys.length := by obtain ⟨pq,cq,hv,_⟩ := h2.l_shape; injection hv with _ e2 _; rw [List.length_map] at e2; exact e2
 refine ent2 Tryz.func55 rfl Tryz.ntmps55 fun Y U =>?_
 have m0 := MemOk.start (fun _ => False) w0
 refine regS U (.assign rfl .nil) fun Y U =>?_
 refine wsk fun K0 hK0 =>?_
 refine regS U (.move rfl<|.len rfl U49<|.move rfl<|.len rfl U49<|.neq rfl rfl .nil) fun Y U =>?_
 refine bc U 10 ?_ ?_
 ·
  intro hb7 U; try simp only [QQ,Qax] at hb7
  have hR : decide (xs = ys) = false := eqL_no (by omega)
  refine wct U ?_
  refine regS U (.assign rfl .nil) fun Y U =>?_
  refine rt1 U ?_
  exact ⟨by rw [hR],m0.below⟩
 intro hb7 U; try simp only [QQ,Qax] at hb7
 have hlq : xs.length = ys.length := by omega
 refine wcf U ?_
 refine zss (hK0 _ _ ?_)
 refine wsk fun K1 hK1 =>?_
 refine regS U (.assign rfl .nil) fun Y U =>?_
 refine wp_block ?_
 refine wp_loop_ghost (fun g a w => ∃ k : Nat,k ≤ xs.length ∧ xs.length = ys.length ∧ xs.take k = ys.take k ∧ g = xs.length - k ∧ Has 42 [(0,.slice p1 xs.length c1),(1,.slice p2 ys.length c2),(5,.int .i64 k)] a ∧ MemOk (cn w0) w0 [] w) (xs.length) ?_ ?_
 · exact ⟨0,Nat.zero_le _,hlq,rfl,rfl,U.only [0,1,5],m0.only []⟩
 clear U m0
 rintro g Y w10 ⟨k,hkl,hlq,htk,hg,U,m10⟩
 refine wsk fun K2 hK2 =>?_
 refine regS U (.move rfl<|.move rfl<|.len rfl U49<|.lss rfl rfl .nil) fun Y U =>?_
 refine bc U 14 ?_ ?_
 ·
  intro hb15 U; try simp only [QQ,Qax] at hb15
  have hk : k < xs.length := by omega
  have hk2 : k < ys.length := by omega
  obtain ⟨⟨xb,xd⟩,hes⟩ : ∃ e,xs[k]? = some e := ⟨_,List.getElem?_eq_getElem hk⟩
  obtain ⟨⟨yb,yd⟩,hfs⟩ : ∃ e,ys[k]? = some e := ⟨_,List.getElem?_eq_getElem hk2⟩
  have hx1 := hi1 _ (List.mem_of_getElem? hes)
  have hy1 := hi2 _ (List.mem_of_getElem? hfs)
  refine wct U ?_
  refine zss (hK2 _ _ ?_)
  refine wsk fun K3 hK3 =>?_
  refine wp_block ?_
  refine wsk fun K4 hK4 =>?_
  obtain ⟨gx17,ox17,vx17,hp17,hl17,hR17,hrg17⟩ := h1.extA (k) (r := [.v (.int .i64 xb),.l 2 (xd.map itD)]) (wrD_get hes)
  revert U
  cases hp17
  rcases hR17 with _ | ⟨hd17_0,_ | ⟨hd17_1,_ | _⟩⟩
  obtain rfl := hd17_0.v_out
  clear hd17_0
  obtain ⟨p18,c18,hv18,hw18⟩ := hd17_1.l_shape; subst hv18
  intro U
  obtain ⟨gx20,ox20,vx20,hp20,hl20,hR20,hrg20⟩ := h2.extA (k) (r := [.v (.int .i64 yb),.l 2 (yd.map itD)]) (wrD_get hfs)
  revert U
  cases hp20
  rcases hR20 with _ | ⟨hd20_0,_ | ⟨hd20_1,_ | _⟩⟩
  obtain rfl := hd20_0.v_out
  clear hd20_0
  obtain ⟨p21,c21,hv21,hw21⟩ := hd20_1.l_shape; subst hv21
  intro U
  obtain ⟨gx23,ox23,vx23,hp23,hl23,hR23,hrg23⟩ := h1.extA (k) (r := [.v (.int .i64 xb),.l 2 (xd.map itD)]) (wrD_get hes)
  revert U
  cases hp23
  rcases hR23 with _ | ⟨hd23_0,_ | ⟨hd23_1,_ | _⟩⟩
  obtain rfl := hd23_0.v_out
  clear hd23_0
  obtain ⟨p24,c24,hv24,hw24⟩ := hd23_1.l_shape; subst hv24
  intro U
  obtain ⟨gx26,ox26,vx26,hp26,hl26,hR26,hrg26⟩ := h2.extA (k) (r := [.v (.int .i64 yb),.l 2 (yd.map itD)]) (wrD_get hfs)
  revert U
  cases hp26
  rcases hR26 with _ | ⟨hd26_0,_ | ⟨hd26_1,_ | _⟩⟩
  obtain rfl := hd26_0.v_out
  clear hd26_0
  obtain ⟨p27,c27,hv27,hw27⟩ := hd26_1.l_shape; subst hv27
  intro U
  have m28 : MemOk _ _ [] _ := m10.only []; clear m10
  refine region_p 25 (B := []) (m28.to trivial) m28 (by kernel_rfl) (fun w29 hP29 m29 =>?_); clear m28
  refine goR hP29 [0,1,2,3,4,5,6,7,8,9,10,11] [4,9] 12 0 4095 U (m29.to trivial) (.move rfl<|.move rfl<|.p (fun _ _ h_ => y_idx h_ rfl rfl U49 fct7 (k) rfl hk)<|.fieldAddrQ 0 rfl U103 rfl (s := 0) (by kernel_rfl) rfl<|.loadAt1 (fun _ h_ => (hrg17 h_ rfl)) (q := 0) rfl rfl rfl U2 rfl<|.move rfl<|.move rfl<|.p (fun _ _ h_ => y_idx h_ rfl rfl U49 fct7 (k) rfl hk2)<|.fieldAddrQ 0 rfl U103 rfl (s := 0) (by kernel_rfl) rfl<|.loadAt1 (fun _ h_ => (hrg20 h_ rfl)) (q := 0) rfl rfl rfl U2 rfl<|.neq rfl rfl<|.move rfl .nil) fun Y U =>?_
  refine bc U 28 ?_ ?_
  ·
   intro hb42 U; try simp only [QQ,Qax] at hb42
   have hR : decide (xs = ys) = false := eqL_neP hes hfs (fun e9 => hb42 (Prod.mk.inj e9).1)
   refine goA hP29 [12,13,14,15,16,17,18,19,20,21,22,23,24] 13 4095 33554431 U (m29.to trivial) (.s<|.s<|.s<|.s<|.s<|.s<|.s<|.s<|.s<|.s<|.s<|.s<|.pickT rfl rfl .nil) fun Y U =>?_
   refine wpAnyE_done (by kernel_rfl) ?_ _
   refine hK4 _ _ ?_
   refine wct U ?_
   replace U := U.oz [0,1,5]
   refine regS U (.assign rfl .nil) fun Y U =>?_
   refine rt1 U ?_
   exact ⟨by rw [hR],m29.below⟩
  intro hb42 U; try simp only [QQ,Qax] at hb42
  have hq1 := hb42
  refine goR hP29 [12,13,14,15,16,17,18,19,20,21] [16,21] 10 4095 4194303 U (m29.to trivial) (.move rfl<|.move rfl<|.p (fun _ _ h_ => y_idx h_ rfl rfl U49 fct7 (k) rfl hk)<|.fieldAddrQ 1 rfl U103 rfl (s := 0) (by kernel_rfl) rfl<|.loadAt1 (fun _ h_ => (hrg23 h_ rfl)) (q := 1) rfl rfl rfl U36 rfl<|.move rfl<|.move rfl<|.p (fun _ _ h_ => y_idx h_ rfl rfl U49 fct7 (k) rfl hk2)<|.fieldAddrQ 1 rfl U103 rfl (s := 0) (by kernel_rfl) rfl<|.loadAt1 (fun _ h_ => (hrg26 h_ rfl)) (q := 1) rfl rfl rfl U36 rfl .nil) fun Y U =>?_
  refine stepE_only 22 rfl (by kernel_rfl) (wantedG U rfl rfl rfl rfl) (fun K hK =>?_)
  refine e_call U Tryz.func80 rfl rfl rfl rfl (rsit xd yd _ _ _ _ _ _ _ ((hd23_1.now' m29 rfl).any) ((hd26_1.now' m29 rfl).any) hx1.1 hy1.1 hx1.2 hy1.2) ?_
  rintro e w68 ⟨rfl,hb68⟩
  have m69 := m29.later hb68
  refine ⟨_,rfl,?_⟩; intro Y U
  refine hK _ _ (m69.to trivial) ?_; clear hK K
  refine goA hP29 [23,24] 2 8388607 33554431 U (m69.to trivial) (.not rfl<|.pickF rfl rfl .nil) fun Y U =>?_
  refine wpAnyE_done (by kernel_rfl) ?_ _
  refine hK4 _ _ ?_
  refine bc U 41 ?_ ?_
  ·
   intro hb73 U; try simp only [QQ,Qax] at hb73
   have hR : decide (xs = ys) = false := eqL_neP hes hfs (fun e9 => hb73 (Prod.mk.inj e9).2)
   refine wct U ?_
   replace U := U.oz [0,1,5]
   refine regS U (.assign rfl .nil) fun Y U =>?_
   refine rt1 U ?_
   exact ⟨by rw [hR],m69.below⟩
  intro hb73 U; try simp only [QQ,Qax] at hb73
  have htk2 := eqL_stepP htk hes hfs (by rw [hq1,hb73])
  refine wcf U ?_
  refine zss (hK3 _ _ ?_)
  replace U := U.oz [0,1,5]
  refine wp_region_lit ?_
  refine goCh U (.move rfl<|.inc (k + 1)<|.assign rfl .nil) fun Y U =>?_
  refine wpList_nil ?_
  show ∃ n',n' < _ ∧ _
  exact ⟨xs.length - (k + 1),by omega,k + 1,by omega,hlq,htk2,rfl,U.only [0,1,5],m69.only []⟩
 intro hb15 U; try simp only [QQ,Qax] at hb15
 have hR : decide (xs = ys) = true := eqL_all hlq (by omega) htk
 refine wcf U ?_
 refine wp_exit ?_
 refine hK1 _ _ ?_
 refine regS U (.assign rfl .nil) fun Y U =>?_
 refine rt1 U ?_
 exact ⟨by rw [hR],m10.below⟩
theorem rshp (x y : VolV) (p1 p2 p3 q1 q2 q3 : Option Addr) (c1 c2 c3 d1 d2 d3 nx ny : Nat) (w0 : World) (hx : VolB x) (hy : VolB y) (h1 : Rd (fun _ => True) w0 (.slice p1 x.place.length c1) (.ns .i64 x.place)) (h4 : Rd (fun _ => True) w0 (.slice q1 y.place.length d1) (.ns .i64 y.place)) :
   Calls Tryz.prog 53 #[.agg #[.int .i64 x.vo,.int .i64 x.bl,.int .i64 x.sz,.int .i64 x.pe,.slice p1 x.place.length c1,.int .i64 x.to,.int .i64 x.ne,.bool x.hi,.int .i64 x.fl,.slice p2 x.pins.length c2,.slice p3 nx c3],.agg #[.int .i64 y.vo,.int .i64 y.bl,.int .i64 y.sz,.int .i64 y.pe,.slice q1 y.place.length d1,.int .i64 y.to,.int .i64 y.ne,.bool y.hi,.int .i64 y.fl,.slice q2 y.pins.length d2,.slice q3 ny d3]] w0 fun e w' => e = .returned (.bool (decide (shpE x y))) ∧ Below w0.heap.size w0 w' := by
 refine ent2 Tryz.func53 rfl Tryz.ntmps53 fun Y U =>?_
 have m0 := MemOk.start (fun _ => False) w0
 refine zsr fun K0 hK0 =>?_
 refine plz (e_box U m0 20 (cs := [_,_,_,_,_,_,_,_,_,_,_]) rfl rfl rfl fun g1 Y w2 U m2 _ _ =>?_)
 refine plz (e_box U m2 21 (cs := [_,_,_,_,_,_,_,_,_,_,_]) rfl rfl rfl fun g3 Y w4 U m4 _ _ =>?_)
 refine gz hK0 U (.assign rfl .nil) fun Y U =>?_
 refine zsr fun K1 hK1 =>?_
 refine goCh U (.fa 0 rfl U51<|.lb m4 20 U3 rfl rfl rfl<|.fa 0 rfl U51<|.lb m4 21 U3 rfl rfl rfl<|.eql rfl rfl<|.move rfl .nil) fun Y U =>?_
 refine bc U 10 ?_ ?_
 ·
  intro hb18 U; try simp only [QQ,Qax] at hb18
  refine goCh U (.faZ 1 rfl U51<|.loadB1Z m4 (i := 20) rfl rfl rfl U3 rfl<|.faZ 1 rfl U51<|.loadB1Z m4 (i := 21) rfl rfl rfl U3 rfl<|.eqlZ rfl rfl<|.pickT rfl rfl<|.move rfl .nil) fun Y U =>?_
  refine bc U 17 ?_ ?_
  ·
   intro hb26 U; try simp only [QQ,Qax] at hb26
   refine goCh U (.faZ 2 rfl U51<|.loadB1Z m4 (i := 20) rfl rfl rfl U3 rfl<|.faZ 2 rfl U51<|.loadB1Z m4 (i := 21) rfl rfl rfl U3 rfl<|.eqlZ rfl rfl<|.pickT rfl rfl<|.move rfl .nil) fun Y U =>?_
   refine bc U 24 ?_ ?_
   ·
    intro hb34 U; try simp only [QQ,Qax] at hb34
    refine goCh U (.faZ 3 rfl U51<|.loadB1Z m4 (i := 20) rfl rfl rfl U3 rfl<|.faZ 3 rfl U51<|.loadB1Z m4 (i := 21) rfl rfl rfl U3 rfl<|.eqlZ rfl rfl<|.pickT rfl rfl<|.move rfl .nil) fun Y U =>?_
    refine bc U 31 ?_ ?_
    ·
     intro hb42 U; try simp only [QQ,Qax] at hb42
     refine goCh U (.faZ 4 rfl U51<|.loadB1Z m4 (i := 20) rfl rfl rfl U35 rfl<|.faZ 4 rfl U51<|.loadB1Z m4 (i := 21) rfl rfl rfl U35 rfl .nil) fun Y U =>?_
     refine stz U (ecb U Tryz.func103 rfl m4 (msI x.place y.place _ _ _ _ _ hx.1 hy.1 ((h1.now' m4 rfl).any) ((h4.now' m4 rfl).any)) fun Y w47 U m48 =>?_)
     refine goCh U (.pickT rfl rfl<|.move rfl .nil) fun Y U =>?_
     refine bc U 38 ?_ ?_
     ·
      intro hb52 U; try simp only [QQ,Qax] at hb52
      refine gz hK1 U (.faZ 5 rfl U51<|.loadB1Z m48 (i := 20) rfl rfl rfl U3 rfl<|.faZ 5 rfl U51<|.loadB1Z m48 (i := 21) rfl rfl rfl U3 rfl<|.eqlZ rfl rfl<|.pickT rfl rfl<|.assign rfl<|.nil) fun Y U =>?_
      refine rt1 U ?_
      exact ⟨congrArg (fun b9 => Ending.returned (.bool b9)) (by simp [shpE,hb18,hb26,hb34,hb42,hb52]),m48.below⟩
     intro hb52 U; try simp only [QQ,Qax] at hb52
     refine gz hK1 U (.sk<|.sk<|.sk<|.sk<|.sk<|.pickF rfl rfl<|.assign rfl<|.nil) fun Y U =>?_
     refine rt1 U ?_
     exact ⟨congrArg (fun b9 => Ending.returned (.bool b9)) (by simp [shpE,hb18,hb26,hb34,hb42,hb52]),m48.below⟩
    intro hb42 U; try simp only [QQ,Qax] at hb42
    refine gz hK1 U (.sk<|.sk<|.sk<|.sk<|.sk<|.pickF rfl rfl<|.move rfl<|.sk<|.sk<|.sk<|.sk<|.sk<|.pickF rfl rfl<|.assign rfl<|.nil) fun Y U =>?_
    refine rt1 U ?_
    exact ⟨congrArg (fun b9 => Ending.returned (.bool b9)) (by simp [shpE,hb18,hb26,hb34,hb42]),m4.below⟩
   intro hb34 U; try simp only [QQ,Qax] at hb34
   refine gz hK1 U (.sk<|.sk<|.sk<|.sk<|.sk<|.pickF rfl rfl<|.move rfl<|.sk<|.sk<|.sk<|.sk<|.sk<|.pickF rfl rfl<|.move rfl<|.sk<|.sk<|.sk<|.sk<|.sk<|.pickF rfl rfl<|.assign rfl<|.nil) fun Y U =>?_
   refine rt1 U ?_
   exact ⟨congrArg (fun b9 => Ending.returned (.bool b9)) (by simp [shpE,hb18,hb26,hb34]),m4.below⟩
  intro hb26 U; try simp only [QQ,Qax] at hb26
  refine gz hK1 U (.sk<|.sk<|.sk<|.sk<|.sk<|.pickF rfl rfl<|.move rfl<|.sk<|.sk<|.sk<|.sk<|.sk<|.pickF rfl rfl<|.move rfl<|.sk<|.sk<|.sk<|.sk<|.sk<|.pickF rfl rfl<|.move rfl<|.sk<|.sk<|.sk<|.sk<|.sk<|.pickF rfl rfl<|.assign rfl<|.nil) fun Y U =>?_
  refine rt1 U ?_
  exact ⟨congrArg (fun b9 => Ending.returned (.bool b9)) (by simp [shpE,hb18,hb26]),m4.below⟩
 intro hb18 U; try simp only [QQ,Qax] at hb18
 refine gz hK1 U (.sk<|.sk<|.sk<|.sk<|.sk<|.pickF rfl rfl<|.move rfl<|.sk<|.sk<|.sk<|.sk<|.sk<|.pickF rfl rfl<|.move rfl<|.sk<|.sk<|.sk<|.sk<|.sk<|.pickF rfl rfl<|.move rfl<|.sk<|.sk<|.sk<|.sk<|.sk<|.pickF rfl rfl<|.move rfl<|.sk<|.sk<|.sk<|.sk<|.sk<|.pickF rfl rfl<|.assign rfl<|.nil) fun Y U =>?_
 refine rt1 U ?_
 exact ⟨congrArg (fun b9 => Ending.returned (.bool b9)) (by simp [shpE,hb18]),m4.below⟩
theorem rsme (x y : VolV) (p1 p2 p3 q1 q2 q3 : Option Addr) (c1 c2 c3 d1 d2 d3 nx ny : Nat) (w0 : World) (hx : VolB x) (hy : VolB y) (h1 : Rd (fun _ => True) w0 (.slice p1 x.place.length c1) (.ns .i64 x.place)) (h2 : Rd (fun _ => True) w0 (.slice p2 x.pins.length c2) (.ns .i64 x.pins)) (h3 : Rd (fun _ => True) w0 (.slice p3 nx c3) (.l 2 (x.ws.map wrD))) (h4 : Rd (fun _ => True) w0 (.slice q1 y.place.length d1) (.ns .i64 y.place)) (h5 : Rd (fun _ => True) w0 (.slice q2 y.pins.length d2) (.ns .i64 y.pins)) (h6 : Rd (fun _ => True) w0 (.slice q3 ny d3) (.l 2 (y.ws.map wrD))) :
   Calls Tryz.prog 20 #[.agg #[.int .i64 x.vo,.int .i64 x.bl,.int .i64 x.sz,.int .i64 x.pe,.slice p1 x.place.length c1,.int .i64 x.to,.int .i64 x.ne,.bool x.hi,.int .i64 x.fl,.slice p2 x.pins.length c2,.slice p3 nx c3],.agg #[.int .i64 y.vo,.int .i64 y.bl,.int .i64 y.sz,.int .i64 y.pe,.slice q1 y.place.length d1,.int .i64 y.to,.int .i64 y.ne,.bool y.hi,.int .i64 y.fl,.slice q2 y.pins.length d2,.slice q3 ny d3]] w0 fun e w' => e = .returned (.bool (decide (samE x y))) ∧ Below w0.heap.size w0 w' := by
 refine ent2 Tryz.func20 rfl Tryz.ntmps20 fun Y U =>?_
 have m0 := MemOk.start (fun _ => False) w0
 refine zsr fun K0 hK0 =>?_
 refine plz (e_box U m0 20 (cs := [_,_,_,_,_,_,_,_,_,_,_]) rfl rfl rfl fun g1 Y w2 U m2 _ _ =>?_)
 refine plz (e_box U m2 21 (cs := [_,_,_,_,_,_,_,_,_,_,_]) rfl rfl rfl fun g3 Y w4 U m4 _ _ =>?_)
 refine gz hK0 U (.assign rfl .nil) fun Y U =>?_
 refine zsr fun K1 hK1 =>?_
 refine goCh U (.loadBR m4 (i := 20) rfl rfl U51 rfl fct13 (by simp) (by dsimp only [List.drop,List.take] <;> rfl)<|.loadBR m4 (i := 21) rfl rfl U51 rfl fct13 (by simp) (by dsimp only [List.drop,List.take] <;> rfl) .nil) fun Y U =>?_
 refine plz (ecb U Tryz.func53 rfl m4 (rshp x y _ _ _ _ _ _ _ _ _ _ _ _ _ _ _ hx hy ((h1.now' m4 rfl).any) ((h4.now' m4 rfl).any)) fun Y w10 U m11 =>?_)
 refine goCh U (.move rfl .nil) fun Y U =>?_
 refine bc U 8 ?_ ?_
 ·
  intro hb14 U; try simp only [QQ,Qax] at hb14
  refine goCh U (.faZ 6 rfl U51<|.loadB1Z m11 (i := 20) rfl rfl rfl U3 rfl<|.faZ 6 rfl U51<|.loadB1Z m11 (i := 21) rfl rfl rfl U3 rfl<|.eqlZ rfl rfl<|.pickT rfl rfl<|.move rfl .nil) fun Y U =>?_
  refine bc U 15 ?_ ?_
  ·
   intro hb22 U; try simp only [QQ,Qax] at hb22
   refine goCh U (.faZ 7 rfl U51<|.loadB1Z m11 (i := 20) rfl rfl rfl U4 rfl<|.faZ 7 rfl U51<|.loadB1Z m11 (i := 21) rfl rfl rfl U4 rfl<|.eqlBZ rfl rfl U4<|.pickT rfl rfl<|.move rfl .nil) fun Y U =>?_
   refine bc U 22 ?_ ?_
   ·
    intro hb30 U; try simp only [QQ,Qax] at hb30
    replace hb30 := beq_iff_eq.1 hb30
    refine goCh U (.faZ 8 rfl U51<|.loadB1Z m11 (i := 20) rfl rfl rfl U2 rfl<|.faZ 8 rfl U51<|.loadB1Z m11 (i := 21) rfl rfl rfl U2 rfl<|.eqlZ rfl rfl<|.pickT rfl rfl<|.move rfl .nil) fun Y U =>?_
    refine bc U 29 ?_ ?_
    ·
     intro hb38 U; try simp only [QQ,Qax] at hb38
     refine goCh U (.faZ 9 rfl U51<|.loadB1Z m11 (i := 20) rfl rfl rfl U48 rfl<|.faZ 9 rfl U51<|.loadB1Z m11 (i := 21) rfl rfl rfl U48 rfl .nil) fun Y U =>?_
     refine stz U (ecb U Tryz.func54 rfl m11 (msP x.pins y.pins _ _ _ _ _ hx.2.1 hy.2.1 ((h2.now' m11 rfl).any) ((h5.now' m11 rfl).any)) fun Y w43 U m44 =>?_)
     refine goCh U (.pickT rfl rfl<|.move rfl .nil) fun Y U =>?_
     refine bc U 36 ?_ ?_
     ·
      intro hb48 U; try simp only [QQ,Qax] at hb48
      refine goCh U (.faZ 10 rfl U51<|.loadB1Z m44 (i := 20) rfl rfl rfl U49 rfl<|.faZ 10 rfl U51<|.loadB1Z m44 (i := 21) rfl rfl rfl U49 rfl .nil) fun Y U =>?_
      refine stz U (ecb U Tryz.func55 rfl m44 (rswr x.ws y.ws _ _ _ _ _ _ _ ((h3.now' m44 rfl).any) ((h6.now' m44 rfl).any) hx.2.2.1 hy.2.2.1 hx.2.2.2 hy.2.2.2) fun Y w53 U m54 =>?_)
      refine gz hK1 U (.pickT rfl rfl<|.assign rfl<|.nil) fun Y U =>?_
      refine rt1 U ?_
      exact ⟨congrArg (fun b9 => Ending.returned (.bool b9)) (by simp [samE,shpE,hb14,hb22,hb30,hb38,hb48]),m54.below⟩
     intro hb48 U; try simp only [QQ,Qax] at hb48
     refine gz hK1 U (.sk<|.sk<|.sk<|.sk<|.sk<|.pickF rfl rfl<|.assign rfl<|.nil) fun Y U =>?_
     refine rt1 U ?_
     exact ⟨congrArg (fun b9 => Ending.returned (.bool b9)) (by simp [samE,shpE,hb14,hb22,hb30,hb38,hb48]),m44.below⟩
    intro hb38 U; try simp only [QQ,Qax] at hb38
    refine gz hK1 U (.sk<|.sk<|.sk<|.sk<|.sk<|.pickF rfl rfl<|.move rfl<|.sk<|.sk<|.sk<|.sk<|.sk<|.pickF rfl rfl<|.assign rfl<|.nil) fun Y U =>?_
    refine rt1 U ?_
    exact ⟨congrArg (fun b9 => Ending.returned (.bool b9)) (by simp [samE,shpE,hb14,hb22,hb30,hb38]),m11.below⟩
   intro hb30 U; try simp only [QQ,Qax] at hb30
   replace hb30 := beq_eq_false_iff_ne.1 hb30
   refine gz hK1 U (.sk<|.sk<|.sk<|.sk<|.sk<|.pickF rfl rfl<|.move rfl<|.sk<|.sk<|.sk<|.sk<|.sk<|.pickF rfl rfl<|.move rfl<|.sk<|.sk<|.sk<|.sk<|.sk<|.pickF rfl rfl<|.assign rfl<|.nil) fun Y U =>?_
   refine rt1 U ?_
   exact ⟨congrArg (fun b9 => Ending.returned (.bool b9)) (by simp [samE,shpE,hb14,hb22,hb30]),m11.below⟩
  intro hb22 U; try simp only [QQ,Qax] at hb22
  refine gz hK1 U (.sk<|.sk<|.sk<|.sk<|.sk<|.pickF rfl rfl<|.move rfl<|.sk<|.sk<|.sk<|.sk<|.sk<|.pickF rfl rfl<|.move rfl<|.sk<|.sk<|.sk<|.sk<|.sk<|.pickF rfl rfl<|.move rfl<|.sk<|.sk<|.sk<|.sk<|.sk<|.pickF rfl rfl<|.assign rfl<|.nil) fun Y U =>?_
  refine rt1 U ?_
  exact ⟨congrArg (fun b9 => Ending.returned (.bool b9)) (by simp [samE,shpE,hb14,hb22]),m11.below⟩
 intro hb14 U; try simp only [QQ,Qax] at hb14
 refine gz hK1 U (.sk<|.sk<|.sk<|.sk<|.sk<|.pickF rfl rfl<|.move rfl<|.sk<|.sk<|.sk<|.sk<|.sk<|.pickF rfl rfl<|.move rfl<|.sk<|.sk<|.sk<|.sk<|.sk<|.pickF rfl rfl<|.move rfl<|.sk<|.sk<|.sk<|.sk<|.sk<|.pickF rfl rfl<|.move rfl<|.sk<|.sk<|.sk<|.sk<|.sk<|.pickF rfl rfl<|.assign rfl<|.nil) fun Y U =>?_
 refine rt1 U ?_
 exact ⟨congrArg (fun b9 => Ending.returned (.bool b9)) (by simp [samE,shpE,hb14]),m11.below⟩
theorem rpre (x y : VolV) (p1 p2 p3 q1 q2 q3 : Option Addr) (c1 c2 c3 d1 d2 d3 nx ny : Nat) (w0 : World) (hx : VolB x) (hy : VolB y) (h1 : Rd (fun _ => True) w0 (.slice p1 x.place.length c1) (.ns .i64 x.place)) (h3 : Rd (fun _ => True) w0 (.slice p3 nx c3) (.l 2 (x.ws.map wrD))) (h4 : Rd (fun _ => True) w0 (.slice q1 y.place.length d1) (.ns .i64 y.place)) (h6 : Rd (fun _ => True) w0 (.slice q3 ny d3) (.l 2 (y.ws.map wrD))) :
   Calls Tryz.prog 37 #[.agg #[.int .i64 x.vo,.int .i64 x.bl,.int .i64 x.sz,.int .i64 x.pe,.slice p1 x.place.length c1,.int .i64 x.to,.int .i64 x.ne,.bool x.hi,.int .i64 x.fl,.slice p2 x.pins.length c2,.slice p3 nx c3],.agg #[.int .i64 y.vo,.int .i64 y.bl,.int .i64 y.sz,.int .i64 y.pe,.slice q1 y.place.length d1,.int .i64 y.to,.int .i64 y.ne,.bool y.hi,.int .i64 y.fl,.slice q2 y.pins.length d2,.slice q3 ny d3]] w0 fun e w' => e = .returned (.bool (decide (preE x y))) ∧ Below w0.heap.size w0 w' := by
 obtain rfl : nx = x.ws.length := by obtain ⟨pq,cq,hv,_⟩ := h3.l_shape; injection hv with _ e2 _; rw [List.length_map] at e2; exact e2
 obtain rfl : ny = y.ws.length := by obtain ⟨pq,cq,hv,_⟩ := h6.l_shape; injection hv with _ e2 _; rw [List.length_map] at e2; exact e2
 refine ent2 Tryz.func37 rfl Tryz.ntmps37 fun Y U =>?_
 have m0 := MemOk.start (fun _ => False) w0
 refine zsr fun K0 hK0 =>?_
 refine plz (e_box U m0 20 (cs := [_,_,_,_,_,_,_,_,_,_,_]) rfl rfl rfl fun g1 Y w2 U m2 _ _ =>?_)
 refine plz (e_box U m2 21 (cs := [_,_,_,_,_,_,_,_,_,_,_]) rfl rfl rfl fun g3 Y w4 U m4 _ _ =>?_)
 refine gz hK0 U (.assign rfl .nil) fun Y U =>?_
 refine wsk fun K1 hK1 =>?_
 have m6 := m4.oz [20,21]
 refine region_p 24 (B := [(20,_),(21,_)]) (m6.to ⟨il,il,trivial⟩) m6 (by kernel_rfl) (fun w7 hP7 m7 =>?_); clear m6
 refine goR hP7 [0,1] [0,1] 2 0 3 U (m7.to ⟨il,il,trivial⟩) (.loadBR hh (i := 20) rfl rfl U51 rfl fct13 (by simp) (by dsimp only [List.drop,List.take] <;> rfl)<|.loadBR hh (i := 21) rfl rfl U51 rfl fct13 (by simp) (by dsimp only [List.drop,List.take] <;> rfl) .nil) fun Y U =>?_
 refine so 2 ?_
 refine ecb U Tryz.func53 rfl m7 (rshp x y _ _ _ _ _ _ _ _ _ _ _ _ _ _ _ hx hy ((h1.now' m7 rfl).any) ((h4.now' m7 rfl).any)) fun Y w10 U m11 =>?_
 refine ⟨m11.to ⟨il,il,trivial⟩,?_⟩
 refine goA hP7 [3] 1 7 15 U (m11.to ⟨il,il,trivial⟩) (.move rfl .nil) fun Y U =>?_
 refine bc U 8 ?_ ?_
 ·
  intro hb14 U; try simp only [QQ,Qax] at hb14
  refine goR hP7 [4,5,6,7,8,9,10,11,12] [5,8] 9 15 8191 U (m11.to ⟨il,il,trivial⟩) (.fa 10 rfl U51<|.lb hh 20 U49 rfl rfl rfl<|.len rfl U49<|.fa 10 rfl U51<|.lb hh 21 U49 rfl rfl rfl<|.len rfl U49<|.leq rfl rfl<|.pickT rfl rfl<|.move rfl .nil) fun Y U =>?_
  refine bc U 17 ?_ ?_
  ·
   intro hb24 U; try simp only [QQ,Qax] at hb24
   have hle : x.ws.length ≤ y.ws.length := by omega
   refine goR hP7 [13,14,15,16,17,18,19] [14,16,18] 7 8191 1048575 U (m11.to ⟨il,il,trivial⟩) (.fa 10 rfl U51<|.lb hh 20 U49 rfl rfl rfl<|.fa 10 rfl U51<|.lb hh 21 U49 rfl rfl rfl<|.fa 10 rfl U51<|.lb hh 20 U49 rfl rfl rfl<|.len rfl U49 .nil) fun Y U =>?_
   have h6t := takeW h6 hle
   refine goA hP7 [20] 1 1048575 2097151 U (m11.to ⟨il,il,trivial⟩) (.p (fun _ _ h_ => y_sliceHn h_ x.ws.length rfl rfl U49 fct7 rfl (Nat.le_trans hle h6.capW)) .nil) fun Y U =>?_
   refine stepE_only 21 rfl (by kernel_rfl) (wantedG U rfl rfl rfl rfl) (fun K hK =>?_)
   refine e_call U Tryz.func55 rfl rfl rfl rfl (rswr x.ws (y.ws.take x.ws.length) _ _ _ _ _ _ _ ((h3.now' m11 rfl).any) ((h6t.now' m11 rfl).any) hx.2.2.1 (Nat.le_trans (List.length_take_le _ _) hx.2.2.1) hx.2.2.2 (fun e he => hy.2.2.2 e (List.mem_of_mem_take he))) ?_
   rintro e w33 ⟨rfl,hb33⟩
   have m34 := m11.later hb33
   refine ⟨_,rfl,?_⟩; intro Y U
   refine hK _ _ (m34.to ⟨il,il,trivial⟩) ?_; clear hK K
   refine goA hP7 [22,23] 2 4194303 16777215 U (m34.to ⟨il,il,trivial⟩) (.pickT rfl rfl<|.assign rfl .nil) fun Y U =>?_
   refine wpAnyE_done (by kernel_rfl) ?_ _
   refine hK1 _ _ ?_
   refine rt1 U ?_
   exact ⟨congrArg (fun b9 => Ending.returned (.bool b9)) (decide_eq_decide.2 ⟨fun h9 => ⟨hb14,hle,h9⟩,fun h9 => h9.2.2⟩),m34.below⟩
  intro hb24 U; try simp only [QQ,Qax] at hb24
  refine goA hP7 [13,14,15,16,17,18,19,20,21,22,23] 11 8191 16777215 U (m11.to ⟨il,il,trivial⟩) (.s<|.s<|.s<|.s<|.s<|.s<|.s<|.s<|.s<|.pickF rfl rfl<|.assign rfl .nil) fun Y U =>?_
  refine wpAnyE_done (by kernel_rfl) ?_ _
  refine hK1 _ _ ?_
  refine rt1 U ?_
  exact ⟨congrArg (fun b9 => Ending.returned (.bool b9)) ((Eq.symm (decide_eq_false (by rintro ⟨⟨g1,g2,g3,g4,g5,g6⟩,g7,g8⟩; first | omega | contradiction | exact hb14 ⟨g1,g2,g3,g4,g5,g6⟩)))),m11.below⟩
 intro hb14 U; try simp only [QQ,Qax] at hb14
 refine goA hP7 [4,5,6,7,8,9,10,11,12,13,14,15,16,17,18,19,20,21,22,23] 20 15 16777215 U (m11.to ⟨il,il,trivial⟩) (.s<|.s<|.s<|.s<|.s<|.s<|.s<|.pickF rfl rfl<|.move rfl<|.s<|.s<|.s<|.s<|.s<|.s<|.s<|.s<|.s<|.pickF rfl rfl<|.assign rfl .nil) fun Y U =>?_
 refine wpAnyE_done (by kernel_rfl) ?_ _
 refine hK1 _ _ ?_
 refine rt1 U ?_
 exact ⟨congrArg (fun b9 => Ending.returned (.bool b9)) ((Eq.symm (decide_eq_false (by rintro ⟨⟨g1,g2,g3,g4,g5,g6⟩,g7,g8⟩; first | omega | contradiction | exact hb14 ⟨g1,g2,g3,g4,g5,g6⟩)))),m11.below⟩
theorem mshp (x : VolV) (p1 p2 p3 : Option Addr) (c1 c2 c3 nx : Nat) (w0 : World) :
   Calls Tryz.prog 82 #[.agg #[.int .i64 x.vo,.int .i64 x.bl,.int .i64 x.sz,.int .i64 x.pe,.slice p1 x.place.length c1,.int .i64 x.to,.int .i64 x.ne,.bool x.hi,.int .i64 x.fl,.slice p2 x.pins.length c2,.slice p3 nx c3]] w0 fun e w' => e = .returned (.agg #[.int .i64 x.vo,.int .i64 x.bl,.int .i64 x.sz,.int .i64 x.pe,.int .i64 x.to]) ∧ Below w0.heap.size w0 w' := by
 refine ent1 Tryz.func82 rfl Tryz.ntmps82 fun Y U =>?_
 have m0 := MemOk.start (fun _ => False) w0
 refine zsr fun K0 hK0 =>?_
 refine plz (e_box U m0 20 (cs := [_,_,_,_,_,_,_,_,_,_,_]) rfl rfl rfl fun g1 Y w2 U m2 _ _ =>?_)
 refine plz (e_alloc U m2 21 fct31 rfl fun g3 Y w4 U m4 _ _ =>?_)
 refine znl (hK0 _ _ ?_)
 refine zsr fun K1 hK1 =>?_
 refine goCh U (.fa 0 rfl U51<|.lb m4 20 U3 rfl rfl rfl<|.fa 1 rfl U51<|.lb m4 20 U3 rfl rfl rfl<|.fa 2 rfl U51<|.lb m4 20 U3 rfl rfl rfl<|.fa 3 rfl U51<|.lb m4 20 U3 rfl rfl rfl<|.fa 5 rfl U51<|.lb m4 20 U3 rfl rfl rfl<|.build rfl fct31 fl129oO rfl (by dsimp only [setL,List.set] <;> rfl) .nil) fun Y U =>?_
 refine plz (stw U m4 21 fct30 fun w27 m27 _ =>?_)
 refine znl (hK1 _ _ ?_)
 refine rtd (retC (fn := Tryz.f82) U m27 (i := 21) rfl rfl rfl U129 rfl fct30 ?_)
 exact ⟨rfl,m27.below⟩
theorem mpre (x y : VolV) (p1 p2 p3 q1 q2 q3 : Option Addr) (c1 c2 c3 d1 d2 d3 nx ny : Nat) (w0 : World) (hx : VolB x) (hy : VolB y) (h1 : Rd (fun _ => True) w0 (.slice p1 x.place.length c1) (.ns .i64 x.place)) (h3 : Rd (fun _ => True) w0 (.slice p3 nx c3) (.l 2 (x.ws.map wrD))) (h4 : Rd (fun _ => True) w0 (.slice q1 y.place.length d1) (.ns .i64 y.place)) (h6 : Rd (fun _ => True) w0 (.slice q3 ny d3) (.l 2 (y.ws.map wrD))) :
   Calls Tryz.prog 36 #[.agg #[.int .i64 x.vo,.int .i64 x.bl,.int .i64 x.sz,.int .i64 x.pe,.slice p1 x.place.length c1,.int .i64 x.to,.int .i64 x.ne,.bool x.hi,.int .i64 x.fl,.slice p2 x.pins.length c2,.slice p3 nx c3],.agg #[.int .i64 y.vo,.int .i64 y.bl,.int .i64 y.sz,.int .i64 y.pe,.slice q1 y.place.length d1,.int .i64 y.to,.int .i64 y.ne,.bool y.hi,.int .i64 y.fl,.slice q2 y.pins.length d2,.slice q3 ny d3]] w0 fun e w' => e = .returned (.bool (decide (preE x y))) ∧ Below w0.heap.size w0 w' := by
 obtain rfl : nx = x.ws.length := by obtain ⟨pq,cq,hv,_⟩ := h3.l_shape; injection hv with _ e2 _; rw [List.length_map] at e2; exact e2
 obtain rfl : ny = y.ws.length := by obtain ⟨pq,cq,hv,_⟩ := h6.l_shape; injection hv with _ e2 _; rw [List.length_map] at e2; exact e2
 refine ent2 Tryz.func36 rfl Tryz.ntmps36 fun Y U =>?_
 have m0 := MemOk.start (fun _ => False) w0
 refine zsr fun K0 hK0 =>?_
 refine plz (e_box U m0 20 (cs := [_,_,_,_,_,_,_,_,_,_,_]) rfl rfl rfl fun g1 Y w2 U m2 _ _ =>?_)
 refine plz (e_box U m2 21 (cs := [_,_,_,_,_,_,_,_,_,_,_]) rfl rfl rfl fun g3 Y w4 U m4 _ _ =>?_)
 refine gz hK0 U (.assign rfl .nil) fun Y U =>?_
 refine wsk fun K1 hK1 =>?_
 refine wsk fun K2 hK2 =>?_
 have m6 := m4.oz [20,21]
 refine region_p 22 (B := [(20,_),(21,_)]) (m6.to ⟨il,il,trivial⟩) m6 (by kernel_rfl) (fun w7 hP7 m7 =>?_); clear m6
 refine goR hP7 [0,2] [0,2] 2 0 5 U (m7.to ⟨il,il,trivial⟩) (.loadBR hh (i := 20) rfl rfl U51 rfl fct13 (by simp) (by dsimp only [List.drop,List.take] <;> rfl)<|.loadBR hh (i := 21) rfl rfl U51 rfl fct13 (by simp) (by dsimp only [List.drop,List.take] <;> rfl) .nil) fun Y U =>?_
 refine so 1 ?_
 refine ecb U Tryz.func82 rfl m7 (mshp x _ _ _ _ _ _ _ _) fun Y w10 U m11 =>?_
 refine ⟨m11.to ⟨il,il,trivial⟩,?_⟩
 refine so 3 ?_
 refine ecb U Tryz.func82 rfl m11 (mshp y _ _ _ _ _ _ _ _) fun Y w13 U m14 =>?_
 refine ⟨m14.to ⟨il,il,trivial⟩,?_⟩
 refine goA hP7 [4,5] 2 15 63 U (m14.to ⟨il,il,trivial⟩) (.p (fun _ _ h_ => y_neqH h_ rfl rfl)<|.move rfl .nil) fun Y U =>?_
 refine bc U 10 ?_ ?_
 ·
  intro hb18 U; try simp only [QQ,Qax] at hb18
  refine goA hP7 [6,7,8,9,10,11,12,13,14,15,16,17,18,19,20,21] 16 63 4194303 U (m14.to ⟨il,il,trivial⟩) (.s<|.s<|.s<|.s<|.s<|.s<|.pickT rfl rfl<|.move rfl<|.s<|.s<|.s<|.s<|.s<|.s<|.s<|.pickT rfl rfl .nil) fun Y U =>?_
  refine wpAnyE_done (by kernel_rfl) ?_ _
  refine hK2 _ _ ?_
  refine wct U ?_
  replace U := U.oz [2,3,4]
  refine regS U (.assign rfl .nil) fun Y U =>?_
  refine rt1 U ?_
  exact ⟨congrArg (fun b9 => Ending.returned (.bool b9)) ((Eq.symm (decide_eq_false (by rintro ⟨⟨g1,g2,g3,g4,g5,g6⟩,g7,g8⟩; first | omega | contradiction)))),m14.below⟩
 intro hb18 U; try simp only [QQ,Qax] at hb18
 have hsh := hb18
 refine goR hP7 [6,7,8,9] [7,9] 4 63 1023 U (m14.to ⟨il,il,trivial⟩) (.fa 4 rfl U51<|.lb hh 20 U35 rfl rfl rfl<|.fa 4 rfl U51<|.lb hh 21 U35 rfl rfl rfl .nil) fun Y U =>?_
 refine stepE_only 10 rfl (by kernel_rfl) (wantedG U rfl rfl rfl rfl) (fun K hK =>?_)
 refine e_call U Tryz.func83 rfl rfl rfl rfl (msE x.place y.place _ _ _ _ _ hx.1 hy.1 ((h1.now' m14 rfl).any) ((h4.now' m14 rfl).any)) ?_
 rintro e w41 ⟨rfl,hb41⟩
 have m42 := m14.later hb41
 refine ⟨_,rfl,?_⟩; intro Y U
 refine hK _ _ (m42.to ⟨il,il,trivial⟩) ?_; clear hK K
 refine goA hP7 [11,12,13] 3 2047 16383 U (m42.to ⟨il,il,trivial⟩) (.not rfl<|.pickF rfl rfl<|.move rfl .nil) fun Y U =>?_
 refine bc U 18 ?_ ?_
 ·
  intro hb47 U; try simp only [QQ,Qax] at hb47
  refine goA hP7 [14,15,16,17,18,19,20,21] 8 16383 4194303 U (m42.to ⟨il,il,trivial⟩) (.s<|.s<|.s<|.s<|.s<|.s<|.s<|.pickT rfl rfl .nil) fun Y U =>?_
  refine wpAnyE_done (by kernel_rfl) ?_ _
  refine hK2 _ _ ?_
  refine wct U ?_
  replace U := U.oz [2,3,4]
  refine regS U (.assign rfl .nil) fun Y U =>?_
  refine rt1 U ?_
  exact ⟨congrArg (fun b9 => Ending.returned (.bool b9)) ((Eq.symm (decide_eq_false (by rintro ⟨⟨g1,g2,g3,g4,g5,g6⟩,g7,g8⟩; first | omega | contradiction)))),m42.below⟩
 intro hb47 U; try simp only [QQ,Qax] at hb47
 have hpl := hb47
 refine goR hP7 [14,15,16,17,18,19,20,21] [15,18] 8 16383 4194303 U (m42.to ⟨il,il,trivial⟩) (.fa 10 rfl U51<|.lb hh 20 U49 rfl rfl rfl<|.len rfl U49<|.fa 10 rfl U51<|.lb hh 21 U49 rfl rfl rfl<|.len rfl U49<|.gtr rfl rfl<|.pickF rfl rfl .nil) fun Y U =>?_
 refine wpAnyE_done (by kernel_rfl) ?_ _
 refine hK2 _ _ ?_
 refine bc U 26 ?_ ?_
 ·
  intro hb66 U; try simp only [QQ,Qax] at hb66
  refine wct U ?_
  replace U := U.oz [2,3,4]
  refine regS U (.assign rfl .nil) fun Y U =>?_
  refine rt1 U ?_
  exact ⟨congrArg (fun b9 => Ending.returned (.bool b9)) ((Eq.symm (decide_eq_false (by rintro ⟨⟨g1,g2,g3,g4,g5,g6⟩,g7,g8⟩; first | omega | contradiction)))),m42.below⟩
 intro hb66 U; try simp only [QQ,Qax] at hb66
 have hle : x.ws.length ≤ y.ws.length := by omega
 refine wcf U ?_
 refine zss (hK1 _ _ ?_)
 refine wsk fun K3 hK3 =>?_
 replace U := U.oz [2,3,4]
 have m70 := m42.oz [20,21]
 refine region_p 10 (B := [(20,_),(21,_)]) (m70.to ⟨il,il,trivial⟩) m70 (by kernel_rfl) (fun w71 hP71 m71 =>?_); clear m70
 refine goR hP71 [0,1,2,3,4,5,6] [1,3,5] 7 0 127 U (m71.to ⟨il,il,trivial⟩) (.fa 10 rfl U51<|.lb hh 20 U49 rfl rfl rfl<|.fa 10 rfl U51<|.lb hh 21 U49 rfl rfl rfl<|.fa 10 rfl U51<|.lb hh 20 U49 rfl rfl rfl<|.len rfl U49 .nil) fun Y U =>?_
 have h6t := takeW h6 hle
 refine goA hP71 [7] 1 127 255 U (m71.to ⟨il,il,trivial⟩) (.p (fun _ _ h_ => y_sliceHn h_ x.ws.length rfl rfl U49 fct7 rfl (Nat.le_trans hle h6.capW)) .nil) fun Y U =>?_
 refine so 8 ?_
 refine ecb U Tryz.func84 rfl m71 (mpsw x.ws (y.ws.take x.ws.length) _ _ _ _ _ _ _ ((h3.now' m71 rfl).any) ((h6t.now' m71 rfl).any) hx.2.2.1 (Nat.le_trans (List.length_take_le _ _) hx.2.2.1) hx.2.2.2 (fun e he => hy.2.2.2 e (List.mem_of_mem_take he))) fun Y w80 U m81 =>?_
 refine ⟨m81.to ⟨il,il,trivial⟩,?_⟩
 refine goA hP71 [9] 1 511 1023 U (m81.to ⟨il,il,trivial⟩) (.assign rfl .nil) fun Y U =>?_
 refine wpAnyE_done (by kernel_rfl) ?_ _
 refine hK3 _ _ ?_
 refine rt1 U ?_
 exact ⟨congrArg (fun b9 => Ending.returned (.bool b9)) (decide_eq_decide.2 ⟨fun h9 => ⟨⟨hsh.1,hsh.2.1,hsh.2.2.1,hsh.2.2.2.1,hpl,hsh.2.2.2.2⟩,hle,h9⟩,fun h9 => h9.2.2⟩),m81.below⟩
theorem msmP (x y : VolV) (p1 p2 p3 q1 q2 q3 : Option Addr) (c1 c2 c3 d1 d2 d3 nx ny : Nat) (w0 : World) (hx : VolB x) (hy : VolB y) (h1 : Rd (fun _ => True) w0 (.slice p1 x.place.length c1) (.ns .i64 x.place)) (h2 : Rd (fun _ => True) w0 (.slice p2 x.pins.length c2) (.ns .i64 x.pins)) (h3 : Rd (fun _ => True) w0 (.slice p3 nx c3) (.l 2 (x.ws.map wrD))) (h4 : Rd (fun _ => True) w0 (.slice q1 y.place.length d1) (.ns .i64 y.place)) (h5 : Rd (fun _ => True) w0 (.slice q2 y.pins.length d2) (.ns .i64 y.pins)) (h6 : Rd (fun _ => True) w0 (.slice q3 ny d3) (.l 2 (y.ws.map wrD))) :
   Calls Tryz.prog 35 #[.agg #[.int .i64 x.vo,.int .i64 x.bl,.int .i64 x.sz,.int .i64 x.pe,.slice p1 x.place.length c1,.int .i64 x.to,.int .i64 x.ne,.bool x.hi,.int .i64 x.fl,.slice p2 x.pins.length c2,.slice p3 nx c3],.agg #[.int .i64 y.vo,.int .i64 y.bl,.int .i64 y.sz,.int .i64 y.pe,.slice q1 y.place.length d1,.int .i64 y.to,.int .i64 y.ne,.bool y.hi,.int .i64 y.fl,.slice q2 y.pins.length d2,.slice q3 ny d3]] w0 fun e w' => e = .returned (.bool (decide (samP x y))) ∧ Below w0.heap.size w0 w' := by
 obtain rfl : nx = x.ws.length := by obtain ⟨pq,cq,hv,_⟩ := h3.l_shape; injection hv with _ e2 _; rw [List.length_map] at e2; exact e2
 obtain rfl : ny = y.ws.length := by obtain ⟨pq,cq,hv,_⟩ := h6.l_shape; injection hv with _ e2 _; rw [List.length_map] at e2; exact e2
 refine ent2 Tryz.func35 rfl Tryz.ntmps35 fun Y U =>?_
 have m0 := MemOk.start (fun _ => False) w0
 refine zsr fun K0 hK0 =>?_
 refine plz (e_box U m0 20 (cs := [_,_,_,_,_,_,_,_,_,_,_]) rfl rfl rfl fun g1 Y w2 U m2 _ _ =>?_)
 refine plz (e_box U m2 21 (cs := [_,_,_,_,_,_,_,_,_,_,_]) rfl rfl rfl fun g3 Y w4 U m4 _ _ =>?_)
 refine gz hK0 U (.assign rfl .nil) fun Y U =>?_
 refine zsr fun K1 hK1 =>?_
 refine goCh U (.loadBR m4 (i := 20) rfl rfl U51 rfl fct13 (by simp) (by dsimp only [List.drop,List.take] <;> rfl)<|.loadBR m4 (i := 21) rfl rfl U51 rfl fct13 (by simp) (by dsimp only [List.drop,List.take] <;> rfl) .nil) fun Y U =>?_
 refine plz (ecb U Tryz.func36 rfl m4 (mpre x y _ _ _ _ _ _ _ _ _ _ _ _ _ _ _ hx hy ((h1.now' m4 rfl).any) ((h3.now' m4 rfl).any) ((h4.now' m4 rfl).any) ((h6.now' m4 rfl).any)) fun Y w10 U m11 =>?_)
 refine goCh U (.move rfl .nil) fun Y U =>?_
 refine bc U 8 ?_ ?_
 ·
  intro hb14 U; try simp only [QQ,Qax] at hb14
  refine goCh U (.faZ 10 rfl U51<|.loadB1Z m11 (i := 20) rfl rfl rfl U49 rfl<|.lenZ rfl U49<|.faZ 10 rfl U51<|.loadB1Z m11 (i := 21) rfl rfl rfl U49 rfl<|.lenZ rfl U49<|.eqlZ rfl rfl<|.pickT rfl rfl<|.move rfl .nil) fun Y U =>?_
  refine bc U 17 ?_ ?_
  ·
   intro hb24 U; try simp only [QQ,Qax] at hb24
   refine goCh U (.faZ 6 rfl U51<|.loadB1Z m11 (i := 20) rfl rfl rfl U3 rfl<|.faZ 6 rfl U51<|.loadB1Z m11 (i := 21) rfl rfl rfl U3 rfl<|.eqlZ rfl rfl<|.pickT rfl rfl<|.move rfl .nil) fun Y U =>?_
   refine bc U 24 ?_ ?_
   ·
    intro hb32 U; try simp only [QQ,Qax] at hb32
    refine goCh U (.faZ 7 rfl U51<|.loadB1Z m11 (i := 20) rfl rfl rfl U4 rfl<|.faZ 7 rfl U51<|.loadB1Z m11 (i := 21) rfl rfl rfl U4 rfl<|.eqlBZ rfl rfl U4<|.pickT rfl rfl<|.move rfl .nil) fun Y U =>?_
    refine bc U 31 ?_ ?_
    ·
     intro hb40 U; try simp only [QQ,Qax] at hb40
     replace hb40 := beq_iff_eq.1 hb40
     refine goCh U (.faZ 8 rfl U51<|.loadB1Z m11 (i := 20) rfl rfl rfl U2 rfl<|.faZ 8 rfl U51<|.loadB1Z m11 (i := 21) rfl rfl rfl U2 rfl<|.eqlZ rfl rfl<|.pickT rfl rfl<|.move rfl .nil) fun Y U =>?_
     refine bc U 38 ?_ ?_
     ·
      intro hb48 U; try simp only [QQ,Qax] at hb48
      refine goCh U (.faZ 9 rfl U51<|.loadB1Z m11 (i := 20) rfl rfl rfl U48 rfl<|.faZ 9 rfl U51<|.loadB1Z m11 (i := 21) rfl rfl rfl U48 rfl .nil) fun Y U =>?_
      refine stz U (ecb U Tryz.func81 rfl m11 (msF x.pins y.pins _ _ _ _ _ hx.2.1 hy.2.1 ((h2.now' m11 rfl).any) ((h5.now' m11 rfl).any)) fun Y w53 U m54 =>?_)
      refine gz hK1 U (.pickT rfl rfl<|.assign rfl<|.nil) fun Y U =>?_
      refine rt1 U ?_
      exact ⟨congrArg (fun b9 => Ending.returned (.bool b9)) (decide_eq_decide.2 ⟨fun h9 => ⟨hb14,(by omega),hb32,hb40,hb48,h9⟩,fun h9 => h9.2.2.2.2.2⟩),m54.below⟩
     intro hb48 U; try simp only [QQ,Qax] at hb48
     refine gz hK1 U (.sk<|.sk<|.sk<|.sk<|.sk<|.pickF rfl rfl<|.assign rfl<|.nil) fun Y U =>?_
     refine rt1 U ?_
     exact ⟨congrArg (fun b9 => Ending.returned (.bool b9)) ((Eq.symm (decide_eq_false (by rintro ⟨g1,g2,g3,g4,g5,g6⟩; first | omega | contradiction | exact hb14 ⟨g1,g2,g3,g4,g5,g6⟩)))),m11.below⟩
    intro hb40 U; try simp only [QQ,Qax] at hb40
    replace hb40 := beq_eq_false_iff_ne.1 hb40
    refine gz hK1 U (.sk<|.sk<|.sk<|.sk<|.sk<|.pickF rfl rfl<|.move rfl<|.sk<|.sk<|.sk<|.sk<|.sk<|.pickF rfl rfl<|.assign rfl<|.nil) fun Y U =>?_
    refine rt1 U ?_
    exact ⟨congrArg (fun b9 => Ending.returned (.bool b9)) ((Eq.symm (decide_eq_false (by rintro ⟨g1,g2,g3,g4,g5,g6⟩; first | omega | contradiction | exact hb14 ⟨g1,g2,g3,g4,g5,g6⟩)))),m11.below⟩
   intro hb32 U; try simp only [QQ,Qax] at hb32
   refine gz hK1 U (.sk<|.sk<|.sk<|.sk<|.sk<|.pickF rfl rfl<|.move rfl<|.sk<|.sk<|.sk<|.sk<|.sk<|.pickF rfl rfl<|.move rfl<|.sk<|.sk<|.sk<|.sk<|.sk<|.pickF rfl rfl<|.assign rfl<|.nil) fun Y U =>?_
   refine rt1 U ?_
   exact ⟨congrArg (fun b9 => Ending.returned (.bool b9)) ((Eq.symm (decide_eq_false (by rintro ⟨g1,g2,g3,g4,g5,g6⟩; first | omega | contradiction | exact hb14 ⟨g1,g2,g3,g4,g5,g6⟩)))),m11.below⟩
  intro hb24 U; try simp only [QQ,Qax] at hb24
  refine gz hK1 U (.sk<|.sk<|.sk<|.sk<|.sk<|.pickF rfl rfl<|.move rfl<|.sk<|.sk<|.sk<|.sk<|.sk<|.pickF rfl rfl<|.move rfl<|.sk<|.sk<|.sk<|.sk<|.sk<|.pickF rfl rfl<|.move rfl<|.sk<|.sk<|.sk<|.sk<|.sk<|.pickF rfl rfl<|.assign rfl<|.nil) fun Y U =>?_
  refine rt1 U ?_
  exact ⟨congrArg (fun b9 => Ending.returned (.bool b9)) ((Eq.symm (decide_eq_false (by rintro ⟨g1,g2,g3,g4,g5,g6⟩; first | omega | contradiction | exact hb14 ⟨g1,g2,g3,g4,g5,g6⟩)))),m11.below⟩
 intro hb14 U; try simp only [QQ,Qax] at hb14
 refine gz hK1 U (.sk<|.sk<|.sk<|.sk<|.sk<|.sk<|.sk<|.pickF rfl rfl<|.move rfl<|.sk<|.sk<|.sk<|.sk<|.sk<|.pickF rfl rfl<|.move rfl<|.sk<|.sk<|.sk<|.sk<|.sk<|.pickF rfl rfl<|.move rfl<|.sk<|.sk<|.sk<|.sk<|.sk<|.pickF rfl rfl<|.move rfl<|.sk<|.sk<|.sk<|.sk<|.sk<|.pickF rfl rfl<|.assign rfl<|.nil) fun Y U =>?_
 refine rt1 U ?_
 exact ⟨congrArg (fun b9 => Ending.returned (.bool b9)) ((Eq.symm (decide_eq_false (by rintro ⟨g1,g2,g3,g4,g5,g6⟩; first | omega | contradiction | exact hb14 ⟨g1,g2,g3,g4,g5,g6⟩)))),m11.below⟩
end
section
set_option maxRecDepth 100000
set_option maxHeartbeats 4000000
theorem pnums_x (xs : List Int) (q : Option Addr) (cq : Nat) (w0 : World) (h0 : Rd (fun _ => True) w0 (.slice q xs.length cq) (.ns .i64 xs)) (hl : xs.length ≤ 1000000) (hxb : ∀ k,k < xs.length → 0 ≤ xs.getD k 0 ∧ xs.getD k 0 ≤ 9223372036854775807) :
   Calls Tryz.prog 57 #[.slice q xs.length cq] w0 fun e w' => ∃ (p : Option Addr) (c : Nat),e = .returned (.slice p (encs xs).length c) ∧ w'.ownsRow w0.heap.size 5 1 (.slice p (encs xs).length c) (encs xs).length ((encs xs).map (Value.int .u8)) ∧ Below w0.heap.size w0 w' := by
 refine ent1 Tryz.func57 rfl Tryz.ntmps57 fun Y U =>?_
 have m0 := MemOk.start (fun _ => False) w0
 refine regS U (.assign rfl .nil) fun Y U =>?_
 refine regS U (.assign rfl .nil) fun Y U =>?_
 refine wsk fun K0 hK0 =>?_
 refine regS U (.move rfl<|.len rfl U35<|.move rfl .nil) fun Y U =>?_
 refine wp_block ?_
 refine wp_loop_ghost (fun g a w => ∃ (k : Nat) (b : List Int) (p : Option Addr) (c : Nat),k ≤ xs.length ∧ g = xs.length - k ∧ b = encs (xs.take k) ∧ Has 20 [(3,.slice p b.length c),(6,.slice q xs.length cq),(7,.int .i64 xs.length),(8,.int .i64 k)] a ∧ MemOk (cn w0) w0 [(9,.num (.slice p b.length c) 5 .u8 b)] w) (xs.length) ?_ ?_
 · have mz := m0.nilN 9 5 .u8
   exact ⟨0,[],_,_,Nat.zero_le _,rfl,rfl,U.only [3,6,7,8],mz.only [9]⟩
 clear U m0
 rintro g Y w6 ⟨k,b,p,c,hkl,hg,hbe,U,m6⟩
 refine regS U (.lss rfl rfl .nil) fun Y U =>?_
 refine wsk fun K1 hK1 =>?_
 refine bc U 9 ?_ ?_
 ·
  intro hb8 U; try simp only [QQ,Qax] at hb8
  have hk : k < xs.length := by have := hb8; first | omega | (simp at this; omega)
  have hxk := hxb k hk
  refine wct U ?_
  refine zss (hK1 _ _ ?_)
  refine wsk fun K2 hK2 =>?_
  refine wp_block ?_
  refine zsr fun K3 hK3 =>?_
  obtain ⟨gx10,ox10,hp10,hl10,hrg10⟩ := h0.extN (k) hk
  revert U
  cases hp10
  intro U
  refine gz hK3 U (.c rfl (fun _ h_ => y_idx h_ rfl rfl U35 fct15 (k) rfl hk)<|.loadAt1 (hrg10 m6 rfl) (q := 0) rfl rfl rfl U3 rfl<|.assign rfl<|.nil) fun Y U =>?_
  refine wp_region_lit ?_
  refine goCh U (.move rfl<|.move rfl<|.conv rfl U3 U108 (r := xs.getD k 0) (IntWalk.u64_in _ (by omega)) .nil) fun Y U =>?_
  refine plz (e_litN U m6 100 (k := .u64) rfl rfl U168 fct27 rfl rfl rfl rfl fun g17 Y w18 U m18 =>?_)
  have m19 := m18.freezeN 100 rfl
  refine plz (ecn U Tryz.func104 rfl m19 101 (pput_x _ [xs.getD k 0] _ ((m19.rd (i := 100) rfl).any) (by simp) (one63 (by omega))) fun p20 c20 Y w20 U m21 =>?_)
  refine plz (e_appN U m21 9 rfl rfl rfl (m21.numsO (i := 101) rfl) U22 fct0 (by decide) (by rw [hbe]; have h8 := encs_len (xs.take k); rw [List.length_take] at h8; have h9 := encs_len [xs.getD k 0]; rw [List.length_singleton] at h9; omega) rfl fun p23 c23 Y w24 U m24 =>?_)
  refine gz hK2 U (.assign rfl .nil) fun Y U =>?_
  replace U := U.oz [3,6,7,8]
  refine wp_region_lit ?_
  refine goCh U (.inc (k + 1)<|.move rfl .nil) fun Y U =>?_
  refine wpList_nil ?_
  show ∃ n',n' < _ ∧ _
  exact ⟨xs.length - (k + 1),by omega,k + 1,_,_,_,by omega,rfl,by rw [encs_snoc _ _ hk,← hbe,encs_one],U.only [3,6,7,8],m24.only [9]⟩
 intro hb8 U; try simp only [QQ,Qax] at hb8
 revert U
 obtain rfl : k = xs.length := by have := hb8; first | omega | (simp at this; omega)
 intro U
 refine wcf U ?_
 refine wp_exit ?_
 refine hK0 _ _ ?_
 refine regS U (.move rfl<|.assign rfl .nil) fun Y U =>?_
 refine rt1 U ?_
 rw [List.take_length] at hbe
 revert U
 subst hbe
 intro U
 exact ⟨_,_,rfl,m6.ok 9 _ rfl,m6.below⟩
end
end Go.Proofs.YtkehgingagggaaaGreat.K
