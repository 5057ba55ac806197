/- General laws of walks. -/
import Derived.Test.YtkehgingagggaaaGreatG8
import Derived.Test.YtkehgingagggaaaGreatG4
import Derived.Sort.OwnSortedInts
import Derived.Shelf.SlGeneric
import Derived.Shelf.SortG.Plain
import Derived.Shelf.SortG.SortNone
import Derived.Shelf.SlicesG.Delete
import Derived.Shelf.SlicesG.Turned
import Derived.Ground.SlgnProg
import Derived.Test.YtkehgingagggaaaGreatProg
namespace Go.Proofs.YtkehgingagggaaaGreat.K
open Go.ChangeShapes Go.WideShapes Go.ChangeAt Go.RowKit
set_option linter.unusedVariables false
set_option linter.unusedSimpArgs false
section
theorem fl51rn : flatS Tryz.prog 51 [.int .i64 0,.int .i64 0,.int .i64 0,.int .i64 0,.slice none 0 0,.int .i64 0,.int .i64 0,.bool false,.int .i64 0,.slice none 0 0,.slice none 0 0] = true := by kernel_rfl
theorem fl59is2 : flatS Tryz.prog 59 [.int .i64 0,.slice none 0 0] = true := by kernel_rfl
def BytesL (d : List Int) : Prop := ∀ x ∈ d,0 ≤ x ∧ x ≤ 255
theorem bytes_snoc {d : List Int} {z : Int} (h : BytesL d) (hz : 0 ≤ z ∧ z ≤ 255) : BytesL (d ++ [z]) := fun x hx => by
 rcases List.mem_append.1 hx with h1 | h1
 · exact h x h1
 simp at h1; subst h1; exact hz
def crL (px : Int) (i : Nat) : List Int := (List.range i).map (fun j : Nat => 1 + ((j : Int) + px) % 2)
theorem crL_len (px : Int) (i : Nat) : (crL px i).length = i := by simp [crL]
theorem crL_snoc (px : Int) (i : Nat) : crL px (i + 1) = crL px i ++ [1 + ((i : Int) + px) % 2] := by simp [crL,List.range_succ]
theorem crL_ok (px : Int) (i : Nat) : ∀ g ∈ crL px i,1 ≤ g ∧ g ≤ 7 := fun g hg => by
 obtain ⟨j,-,rfl⟩ := List.mem_map.1 hg
 omega
def ItsB (es : List (Int × List Int)) : Prop := ∀ e ∈ es,e.2.length ≤ 1000000 ∧ BytesL e.2
theorem ItsB.ok {es : List (Int × List Int)} (h : ItsB es) : ItsOk es := fun e he => Nat.le_trans (h e he).1 (by decide)
theorem itsB_snoc {es : List (Int × List Int)} {b : Int} {d : List Int} (h : ItsB es) (h1 : d.length ≤ 1000000) (h2 : BytesL d) : ItsB (es ++ [(b,d)]) := fun e he => by
 rcases List.mem_append.1 he with h3 | h3
 · exact h e h3
 simp at h3; subst h3; exact ⟨h1,h2⟩
theorem itpre_app {bl sz : Int} {it : List (Int × List Int)} {b : Int} {d : List Int} (h : ItPre bl sz it it.length) (hb : 0 ≤ b ∧ b < bl) (hs : (d.length : Int) = sz) (hn : ¬ ∃ e ∈ it,e.1 = b) : ItPre bl sz (it ++ [(b,d)]) (it.length + 1) := fun j hj => by
 rcases Nat.lt_or_ge j it.length with h1 | h1
 · have h2 := h j h1
   rw [show (it ++ [(b,d)]).getD j i0 = it.getD j i0 by simp [List.getD,List.getElem?_append,h1],List.take_append_of_le_length (by omega)]
   exact h2
 obtain rfl : j = it.length := by omega
 rw [show (it ++ [(b,d)]).getD it.length i0 = (b,d) by simp [List.getD],List.take_left]
 exact ⟨hb.1,hb.2,hs,hn⟩
theorem there_snoc {it : List (Int × List Int)} {j : Nat} {b yb : Int} {yd : List Int} {tb : Bool} (h : tb = true ↔ ∃ e ∈ it.take j,e.1 = b) (hit : it[j]? = some (yb,yd)) : (tb || decide (yb = b)) = true ↔ ∃ e ∈ it.take (j + 1),e.1 = b := by
 rw [take_snoc hit,Bool.or_eq_true,h,decide_eq_true_eq]
 constructor
 · rintro (⟨e,h1,h2⟩ | h1)
   · exact ⟨e,List.mem_append_left _ h1,h2⟩
   exact ⟨_,List.mem_append_right _ (List.mem_singleton.2 rfl),h1⟩
 rintro ⟨e,h1,h2⟩
 rcases List.mem_append.1 h1 with h3 | h3
 · exact .inl ⟨e,h3,h2⟩
 simp at h3; subst h3; exact .inr h2
set_option maxRecDepth 100000
set_option maxHeartbeats 4000000
theorem sitems_any (es : List (Int × List Int)) (p1 p2 : Option Addr) (n1 n2 c1 c2 : Nat) (w0 : World) (h1 : Rd (fun _ => True) w0 (.slice p1 n1 c1) (.l 2 (es.map itD))) (h2 : Rd (fun _ => True) w0 (.slice p2 n2 c2) (.l 2 (es.map itD))) (hl : es.length ≤ 1000000) :
   Calls Tryz.prog 80 #[.slice p1 n1 c1,.slice p2 n2 c2] w0 fun e w' => e = .returned (.bool true) ∧ Below w0.heap.size w0 w' := by
 obtain rfl : n1 = es.length := by obtain ⟨pq,cq,hv,_⟩ := h1.l_shape; injection hv with _ e2 _; rw [List.length_map] at e2; exact e2
 obtain rfl : n2 = es.length := by obtain ⟨pq,cq,hv,_⟩ := h2.l_shape; injection hv with _ e2 _; rw [List.length_map] at e2; exact e2
 refine ent2 Tryz.func80 rfl Tryz.ntmps80 fun Y U =>?_
 have m0 := MemOk.start (fun _ => False) w0
 refine regS U (.assign rfl .nil) fun Y U =>?_
 refine wsk fun K0 hK0 =>?_
 refine regS U (.move rfl<|.len rfl U36<|.move rfl<|.len rfl U36<|.neq rfl rfl .nil) fun Y U =>?_
 refine bc U 10 ?_ ?_
 · intro hb _; exact absurd hb (by simp)
 clear U; intro _ U
 refine wcf U ?_
 refine zss (hK0 _ _ ?_)
 refine wsk fun K1 hK1 =>?_
 refine regS U (.assign rfl .nil) fun Y U =>?_
 refine wp_block ?_
 refine wp_loop_ghost (fun g a w => ∃ k : Nat,k ≤ es.length ∧ g = es.length - k ∧ Has 43 [(0,.slice p1 es.length c1),(1,.slice p2 es.length c2),(5,.int .i64 k)] a ∧ MemOk (cn w0) w0 [] w) (es.length) ?_ ?_
 · exact ⟨0,Nat.zero_le _,rfl,U.only [0,1,5],m0.only []⟩
 clear U m0
 rintro g Y w9 ⟨k,hkl,hg,U,m9⟩
 refine wsk fun K2 hK2 =>?_
 refine regS U (.move rfl<|.move rfl<|.len rfl U36<|.lss rfl rfl .nil) fun Y U =>?_
 refine bc U 14 ?_ ?_
 ·
  intro hb14 U; try simp only [QQ,Qax] at hb14
  have hk : k < es.length := by omega
  obtain ⟨⟨xb,xd⟩,hes⟩ : ∃ e,es[k]? = some e := ⟨_,List.getElem?_eq_getElem hk⟩
  refine wct U ?_
  refine zss (hK2 _ _ ?_)
  refine wsk fun K3 hK3 =>?_
  refine wp_block ?_
  refine wsk fun K4 hK4 =>?_
  obtain ⟨gx16,ox16,vx16,hp16,hl16,hR16,hrg16⟩ := h1.extA (k) (r := [.v (.int .i64 xb),.ns .u8 xd]) (itD_get hes)
  revert U
  cases hp16
  rcases hR16 with _ | ⟨hd16_0,_ | ⟨hd16_1,_ | _⟩⟩
  obtain rfl := hd16_0.v_out
  clear hd16_0
  obtain ⟨p17,c17,hv17,hw17⟩ := hd16_1.ns_shape; subst hv17
  intro U
  obtain ⟨gx19,ox19,vx19,hp19,hl19,hR19,hrg19⟩ := h2.extA (k) (r := [.v (.int .i64 xb),.ns .u8 xd]) (itD_get hes)
  revert U
  cases hp19
  rcases hR19 with _ | ⟨hd19_0,_ | ⟨hd19_1,_ | _⟩⟩
  obtain rfl := hd19_0.v_out
  clear hd19_0
  obtain ⟨p20,c20,hv20,hw20⟩ := hd19_1.ns_shape; subst hv20
  intro U
  obtain ⟨gx22,ox22,vx22,hp22,hl22,hR22,hrg22⟩ := h1.extA (k) (r := [.v (.int .i64 xb),.ns .u8 xd]) (itD_get hes)
  revert U
  cases hp22
  rcases hR22 with _ | ⟨hd22_0,_ | ⟨hd22_1,_ | _⟩⟩
  obtain rfl := hd22_0.v_out
  clear hd22_0
  obtain ⟨p23,c23,hv23,hw23⟩ := hd22_1.ns_shape; subst hv23
  intro U
  obtain ⟨gx25,ox25,vx25,hp25,hl25,hR25,hrg25⟩ := h2.extA (k) (r := [.v (.int .i64 xb),.ns .u8 xd]) (itD_get hes)
  revert U
  cases hp25
  rcases hR25 with _ | ⟨hd25_0,_ | ⟨hd25_1,_ | _⟩⟩
  obtain rfl := hd25_0.v_out
  clear hd25_0
  obtain ⟨p26,c26,hv26,hw26⟩ := hd25_1.ns_shape; subst hv26
  intro U
  have m27 : MemOk _ _ [] _ := m9.only []; clear m9
  refine region_p 26 (B := []) (m27.to trivial) m27 (by kernel_rfl) (fun w28 hP28 m28 =>?_); clear m27
  refine goR hP28 [0,1,2,3,4,5,6,7,8,9,10,11] [4,9] 12 0 4095 U (m28.to trivial) (.move rfl<|.move rfl<|.p (fun _ _ h_ => y_idx h_ rfl rfl U36 fct3 (k) rfl hk)<|.fieldAddrQ 0 rfl U59 rfl (s := 0) (by kernel_rfl) rfl<|.loadAt1 (fun _ h_ => (hrg16 h_ rfl)) (q := 0) rfl rfl rfl U3 rfl<|.move rfl<|.move rfl<|.p (fun _ _ h_ => y_idx h_ rfl rfl U36 fct3 (k) rfl hk)<|.fieldAddrQ 0 rfl U59 rfl (s := 0) (by kernel_rfl) rfl<|.loadAt1 (fun _ h_ => (hrg19 h_ rfl)) (q := 0) rfl rfl rfl U3 rfl<|.neq rfl rfl<|.move rfl .nil) fun Y U =>?_
  refine bc U 28 ?_ ?_
  · intro hb _; exact absurd hb (by simp)
  clear U; intro _ U
  refine goR hP28 [12,13,14,15,16,17,18,19,20,21,22,23,24,25] [16,17,22,23] 14 4095 67108863 U (m28.to trivial) (.move rfl<|.move rfl<|.p (fun _ _ h_ => y_idx h_ rfl rfl U36 fct3 (k) rfl hk)<|.fieldAddrQ 1 rfl U59 rfl (s := 0) (by kernel_rfl) rfl<|.loadAt1 (fun _ h_ => (hrg22 h_ rfl)) (q := 1) rfl rfl rfl U22 rfl<|.str rfl (fun _ h_ => (hd22_1.now' h_ rfl).ns_out.nums) U22 U5 U9<|.move rfl<|.move rfl<|.p (fun _ _ h_ => y_idx h_ rfl rfl U36 fct3 (k) rfl hk)<|.fieldAddrQ 1 rfl U59 rfl (s := 0) (by kernel_rfl) rfl<|.loadAt1 (fun _ h_ => (hrg25 h_ rfl)) (q := 1) rfl rfl rfl U22 rfl<|.str rfl (fun _ h_ => (hd25_1.now' h_ rfl).ns_out.nums) U22 U5 U9<|.neqS rfl rfl<|.pickF rfl rfl .nil) fun Y U =>?_
  refine wpAnyE_done (by kernel_rfl) ?_ _
  refine hK4 _ _ ?_
  refine bc U 42 ?_ ?_
  · intro hb _; exact absurd hb (by simp)
  clear U; intro _ U
  refine wcf U ?_
  refine zss (hK3 _ _ ?_)
  replace U := U.oz [0,1,5]
  refine wp_region_lit ?_
  refine goCh U (.move rfl<|.inc (k + 1)<|.assign rfl .nil) fun Y U =>?_
  refine wpList_nil ?_
  show ∃ n',n' < _ ∧ _
  exact ⟨es.length - (k + 1),by omega,k + 1,by omega,rfl,U.only [0,1,5],m28.only []⟩
 intro hb14 U; try simp only [QQ,Qax] at hb14
 revert U
 obtain rfl : k = es.length := by omega
 intro U
 refine wcf U ?_
 refine wp_exit ?_
 refine hK1 _ _ ?_
 refine regS U (.assign rfl .nil) fun Y U =>?_
 refine rt1 U ?_
 exact ⟨by simp,m9.below⟩
theorem rshape_any (kd vo bl sz pe to at0 ix : Int) (place : List Int) (pp pi : Option Addr) (cp ni ci : Nat) (w0 : World) (h0 : Rd (fun _ => True) w0 (.slice pp place.length cp) (.ns .i64 place)) (hn : place.length ≤ 1000000) :
   Calls Tryz.prog 97 #[.agg #[.int .i64 kd,.int .i64 vo,.int .i64 bl,.int .i64 sz,.int .i64 pe,.slice pp place.length cp,.int .i64 to,.int .i64 at0,.int .i64 ix,.slice pi ni ci]] w0 fun e w' => ∃ b : Bool,e = .returned (.bool b) ∧ (b = true ↔ NewOk vo bl sz pe to place) ∧ Below w0.heap.size w0 w' := by
 refine ent1 Tryz.func97 rfl Tryz.ntmps97 fun Y U =>?_
 have m0 := MemOk.start (fun _ => False) w0
 refine zsr fun K0 hK0 =>?_
 refine plz (e_box U m0 20 (cs := [_,_,_,_,_,_,_,_,_,_]) rfl rfl rfl fun g1 Y w2 U m2 _ _ =>?_)
 refine gz hK0 U (.assign rfl .nil) fun Y U =>?_
 refine wsk fun K1 hK1 =>?_
 refine wsk fun K2 hK2 =>?_
 have m4 := m2.oz [20]
 refine region_p 61 (B := [(20,_)]) (m4.to ⟨il,trivial⟩) m4 (by kernel_rfl) (fun w5 hP5 m5 =>?_); clear m4
 refine goR hP5 [0,1,2,3] [1] 4 0 15 U (m5.to ⟨il,trivial⟩) (.fa 1 rfl U38<|.lb hh 20 U3 rfl rfl rfl<|.lss rfl rfl<|.move rfl .nil) fun Y U =>?_
 refine bc U 7 ?_ ?_
 ·
  intro hb10 U; try simp only [QQ,Qax] at hb10
  refine goA hP5 [4,5,6,7,8,9,10,11,12,13,14,15,16,17,18,19,20,21,22,23,24,25,26,27,28,29,30,31,32,33,34,35,36,37,38,39,40,41,42,43,44,45,46,47,48,49,50,51,52,53,54,55,56,57,58,59,60] 57 15 2305843009213693951 U (m5.to ⟨il,trivial⟩) (.s<|.s<|.s<|.pickT rfl rfl<|.move rfl<|.s<|.s<|.s<|.pickT rfl rfl<|.move rfl<|.s<|.s<|.s<|.pickT rfl rfl<|.move rfl<|.s<|.s<|.s<|.pickT rfl rfl<|.move rfl<|.s<|.s<|.s<|.pickT rfl rfl<|.move rfl<|.s<|.s<|.s<|.pickT rfl rfl<|.move rfl<|.s<|.s<|.s<|.s<|.s<|.pickT rfl rfl<|.move rfl<|.s<|.s<|.s<|.s<|.s<|.s<|.s<|.s<|.s<|.pickT rfl rfl<|.move rfl<|.s<|.s<|.s<|.pickT rfl rfl<|.move rfl<|.s<|.s<|.s<|.pickT rfl rfl .nil) fun Y U =>?_
  refine wpAnyE_done (by kernel_rfl) ?_ _
  refine hK2 _ _ ?_
  refine wct U ?_
  replace U := U.oz [1,2]
  refine regS U (.assign rfl .nil) fun Y U =>?_
  refine rt1 U ?_
  exact ⟨false,rfl,iff_of_false (by simp) (fun h => by obtain ⟨h1,h2,h3,h4,h5,h6,h7,h8,⟨h9,h10⟩,h11,h12⟩ := h; first | omega | (have h13 := h9 _ (getD_mem hk); omega)),m5.below⟩
 intro hb10 U; try simp only [QQ,Qax] at hb10
 refine goR hP5 [4,5,6,7,8] [5] 5 15 511 U (m5.to ⟨il,trivial⟩) (.fa 1 rfl U38<|.lb hh 20 U3 rfl rfl rfl<|.geq rfl rfl<|.pickF rfl rfl<|.move rfl .nil) fun Y U =>?_
 refine bc U 12 ?_ ?_
 ·
  intro hb75 U; try simp only [QQ,Qax] at hb75
  refine goA hP5 [9,10,11,12,13,14,15,16,17,18,19,20,21,22,23,24,25,26,27,28,29,30,31,32,33,34,35,36,37,38,39,40,41,42,43,44,45,46,47,48,49,50,51,52,53,54,55,56,57,58,59,60] 52 511 2305843009213693951 U (m5.to ⟨il,trivial⟩) (.s<|.s<|.s<|.pickT rfl rfl<|.move rfl<|.s<|.s<|.s<|.pickT rfl rfl<|.move rfl<|.s<|.s<|.s<|.pickT rfl rfl<|.move rfl<|.s<|.s<|.s<|.pickT rfl rfl<|.move rfl<|.s<|.s<|.s<|.pickT rfl rfl<|.move rfl<|.s<|.s<|.s<|.s<|.s<|.pickT rfl rfl<|.move rfl<|.s<|.s<|.s<|.s<|.s<|.s<|.s<|.s<|.s<|.pickT rfl rfl<|.move rfl<|.s<|.s<|.s<|.pickT rfl rfl<|.move rfl<|.s<|.s<|.s<|.pickT rfl rfl .nil) fun Y U =>?_
  refine wpAnyE_done (by kernel_rfl) ?_ _
  refine hK2 _ _ ?_
  refine wct U ?_
  replace U := U.oz [1,2]
  refine regS U (.assign rfl .nil) fun Y U =>?_
  refine rt1 U ?_
  exact ⟨false,rfl,iff_of_false (by simp) (fun h => by obtain ⟨h1,h2,h3,h4,h5,h6,h7,h8,⟨h9,h10⟩,h11,h12⟩ := h; first | omega | (have h13 := h9 _ (getD_mem hk); omega)),m5.below⟩
 intro hb75 U; try simp only [QQ,Qax] at hb75
 refine goR hP5 [9,10,11,12,13] [10] 5 511 16383 U (m5.to ⟨il,trivial⟩) (.fa 2 rfl U38<|.lb hh 20 U3 rfl rfl rfl<|.lss rfl rfl<|.pickF rfl rfl<|.move rfl .nil) fun Y U =>?_
 refine bc U 17 ?_ ?_
 ·
  intro hb135 U; try simp only [QQ,Qax] at hb135
  refine goA hP5 [14,15,16,17,18,19,20,21,22,23,24,25,26,27,28,29,30,31,32,33,34,35,36,37,38,39,40,41,42,43,44,45,46,47,48,49,50,51,52,53,54,55,56,57,58,59,60] 47 16383 2305843009213693951 U (m5.to ⟨il,trivial⟩) (.s<|.s<|.s<|.pickT rfl rfl<|.move rfl<|.s<|.s<|.s<|.pickT rfl rfl<|.move rfl<|.s<|.s<|.s<|.pickT rfl rfl<|.move rfl<|.s<|.s<|.s<|.pickT rfl rfl<|.move rfl<|.s<|.s<|.s<|.s<|.s<|.pickT rfl rfl<|.move rfl<|.s<|.s<|.s<|.s<|.s<|.s<|.s<|.s<|.s<|.pickT rfl rfl<|.move rfl<|.s<|.s<|.s<|.pickT rfl rfl<|.move rfl<|.s<|.s<|.s<|.pickT rfl rfl .nil) fun Y U =>?_
  refine wpAnyE_done (by kernel_rfl) ?_ _
  refine hK2 _ _ ?_
  refine wct U ?_
  replace U := U.oz [1,2]
  refine regS U (.assign rfl .nil) fun Y U =>?_
  refine rt1 U ?_
  exact ⟨false,rfl,iff_of_false (by simp) (fun h => by obtain ⟨h1,h2,h3,h4,h5,h6,h7,h8,⟨h9,h10⟩,h11,h12⟩ := h; first | omega | (have h13 := h9 _ (getD_mem hk); omega)),m5.below⟩
 intro hb135 U; try simp only [QQ,Qax] at hb135
 refine goR hP5 [14,15,16,17,18] [15] 5 16383 524287 U (m5.to ⟨il,trivial⟩) (.fa 2 rfl U38<|.lb hh 20 U3 rfl rfl rfl<|.gtr rfl rfl<|.pickF rfl rfl<|.move rfl .nil) fun Y U =>?_
 refine bc U 22 ?_ ?_
 ·
  intro hb190 U; try simp only [QQ,Qax] at hb190
  refine goA hP5 [19,20,21,22,23,24,25,26,27,28,29,30,31,32,33,34,35,36,37,38,39,40,41,42,43,44,45,46,47,48,49,50,51,52,53,54,55,56,57,58,59,60] 42 524287 2305843009213693951 U (m5.to ⟨il,trivial⟩) (.s<|.s<|.s<|.pickT rfl rfl<|.move rfl<|.s<|.s<|.s<|.pickT rfl rfl<|.move rfl<|.s<|.s<|.s<|.pickT rfl rfl<|.move rfl<|.s<|.s<|.s<|.s<|.s<|.pickT rfl rfl<|.move rfl<|.s<|.s<|.s<|.s<|.s<|.s<|.s<|.s<|.s<|.pickT rfl rfl<|.move rfl<|.s<|.s<|.s<|.pickT rfl rfl<|.move rfl<|.s<|.s<|.s<|.pickT rfl rfl .nil) fun Y U =>?_
  refine wpAnyE_done (by kernel_rfl) ?_ _
  refine hK2 _ _ ?_
  refine wct U ?_
  replace U := U.oz [1,2]
  refine regS U (.assign rfl .nil) fun Y U =>?_
  refine rt1 U ?_
  exact ⟨false,rfl,iff_of_false (by simp) (fun h => by obtain ⟨h1,h2,h3,h4,h5,h6,h7,h8,⟨h9,h10⟩,h11,h12⟩ := h; first | omega | (have h13 := h9 _ (getD_mem hk); omega)),m5.below⟩
 intro hb190 U; try simp only [QQ,Qax] at hb190
 refine goR hP5 [19,20,21,22,23] [20] 5 524287 16777215 U (m5.to ⟨il,trivial⟩) (.fa 3 rfl U38<|.lb hh 20 U3 rfl rfl rfl<|.lss rfl rfl<|.pickF rfl rfl<|.move rfl .nil) fun Y U =>?_
 refine bc U 27 ?_ ?_
 ·
  intro hb240 U; try simp only [QQ,Qax] at hb240
  refine goA hP5 [24,25,26,27,28,29,30,31,32,33,34,35,36,37,38,39,40,41,42,43,44,45,46,47,48,49,50,51,52,53,54,55,56,57,58,59,60] 37 16777215 2305843009213693951 U (m5.to ⟨il,trivial⟩) (.s<|.s<|.s<|.pickT rfl rfl<|.move rfl<|.s<|.s<|.s<|.pickT rfl rfl<|.move rfl<|.s<|.s<|.s<|.s<|.s<|.pickT rfl rfl<|.move rfl<|.s<|.s<|.s<|.s<|.s<|.s<|.s<|.s<|.s<|.pickT rfl rfl<|.move rfl<|.s<|.s<|.s<|.pickT rfl rfl<|.move rfl<|.s<|.s<|.s<|.pickT rfl rfl .nil) fun Y U =>?_
  refine wpAnyE_done (by kernel_rfl) ?_ _
  refine hK2 _ _ ?_
  refine wct U ?_
  replace U := U.oz [1,2]
  refine regS U (.assign rfl .nil) fun Y U =>?_
  refine rt1 U ?_
  exact ⟨false,rfl,iff_of_false (by simp) (fun h => by obtain ⟨h1,h2,h3,h4,h5,h6,h7,h8,⟨h9,h10⟩,h11,h12⟩ := h; first | omega | (have h13 := h9 _ (getD_mem hk); omega)),m5.below⟩
 intro hb240 U; try simp only [QQ,Qax] at hb240
 refine goR hP5 [24,25,26,27,28] [25] 5 16777215 536870911 U (m5.to ⟨il,trivial⟩) (.fa 3 rfl U38<|.lb hh 20 U3 rfl rfl rfl<|.gtr rfl rfl<|.pickF rfl rfl<|.move rfl .nil) fun Y U =>?_
 refine bc U 32 ?_ ?_
 ·
  intro hb285 U; try simp only [QQ,Qax] at hb285
  refine goA hP5 [29,30,31,32,33,34,35,36,37,38,39,40,41,42,43,44,45,46,47,48,49,50,51,52,53,54,55,56,57,58,59,60] 32 536870911 2305843009213693951 U (m5.to ⟨il,trivial⟩) (.s<|.s<|.s<|.pickT rfl rfl<|.move rfl<|.s<|.s<|.s<|.s<|.s<|.pickT rfl rfl<|.move rfl<|.s<|.s<|.s<|.s<|.s<|.s<|.s<|.s<|.s<|.pickT rfl rfl<|.move rfl<|.s<|.s<|.s<|.pickT rfl rfl<|.move rfl<|.s<|.s<|.s<|.pickT rfl rfl .nil) fun Y U =>?_
  refine wpAnyE_done (by kernel_rfl) ?_ _
  refine hK2 _ _ ?_
  refine wct U ?_
  replace U := U.oz [1,2]
  refine regS U (.assign rfl .nil) fun Y U =>?_
  refine rt1 U ?_
  exact ⟨false,rfl,iff_of_false (by simp) (fun h => by obtain ⟨h1,h2,h3,h4,h5,h6,h7,h8,⟨h9,h10⟩,h11,h12⟩ := h; first | omega | (have h13 := h9 _ (getD_mem hk); omega)),m5.below⟩
 intro hb285 U; try simp only [QQ,Qax] at hb285
 refine goR hP5 [29,30,31,32,33] [30] 5 536870911 17179869183 U (m5.to ⟨il,trivial⟩) (.fa 4 rfl U38<|.lb hh 20 U3 rfl rfl rfl<|.lss rfl rfl<|.pickF rfl rfl<|.move rfl .nil) fun Y U =>?_
 refine bc U 37 ?_ ?_
 ·
  intro hb325 U; try simp only [QQ,Qax] at hb325
  refine goA hP5 [34,35,36,37,38,39,40,41,42,43,44,45,46,47,48,49,50,51,52,53,54,55,56,57,58,59,60] 27 17179869183 2305843009213693951 U (m5.to ⟨il,trivial⟩) (.s<|.s<|.s<|.s<|.s<|.pickT rfl rfl<|.move rfl<|.s<|.s<|.s<|.s<|.s<|.s<|.s<|.s<|.s<|.pickT rfl rfl<|.move rfl<|.s<|.s<|.s<|.pickT rfl rfl<|.move rfl<|.s<|.s<|.s<|.pickT rfl rfl .nil) fun Y U =>?_
  refine wpAnyE_done (by kernel_rfl) ?_ _
  refine hK2 _ _ ?_
  refine wct U ?_
  replace U := U.oz [1,2]
  refine regS U (.assign rfl .nil) fun Y U =>?_
  refine rt1 U ?_
  exact ⟨false,rfl,iff_of_false (by simp) (fun h => by obtain ⟨h1,h2,h3,h4,h5,h6,h7,h8,⟨h9,h10⟩,h11,h12⟩ := h; first | omega | (have h13 := h9 _ (getD_mem hk); omega)),m5.below⟩
 intro hb325 U; try simp only [QQ,Qax] at hb325
 refine goR hP5 [34,35,36,37,38,39,40] [35,37] 7 17179869183 2199023255551 U (m5.to ⟨il,trivial⟩) (.fa 4 rfl U38<|.lb hh 20 U3 rfl rfl rfl<|.fa 2 rfl U38<|.lb hh 20 U3 rfl rfl rfl<|.gtr rfl rfl<|.pickF rfl rfl<|.move rfl .nil) fun Y U =>?_
 refine bc U 44 ?_ ?_
 ·
  intro hb362 U; try simp only [QQ,Qax] at hb362
  refine goA hP5 [41,42,43,44,45,46,47,48,49,50,51,52,53,54,55,56,57,58,59,60] 20 2199023255551 2305843009213693951 U (m5.to ⟨il,trivial⟩) (.s<|.s<|.s<|.s<|.s<|.s<|.s<|.s<|.s<|.pickT rfl rfl<|.move rfl<|.s<|.s<|.s<|.pickT rfl rfl<|.move rfl<|.s<|.s<|.s<|.pickT rfl rfl .nil) fun Y U =>?_
  refine wpAnyE_done (by kernel_rfl) ?_ _
  refine hK2 _ _ ?_
  refine wct U ?_
  replace U := U.oz [1,2]
  refine regS U (.assign rfl .nil) fun Y U =>?_
  refine rt1 U ?_
  exact ⟨false,rfl,iff_of_false (by simp) (fun h => by obtain ⟨h1,h2,h3,h4,h5,h6,h7,h8,⟨h9,h10⟩,h11,h12⟩ := h; first | omega | (have h13 := h9 _ (getD_mem hk); omega)),m5.below⟩
 intro hb362 U; try simp only [QQ,Qax] at hb362
 refine goR hP5 [41,42,43,44,45,46,47] [42,45,47] 7 2199023255551 281474976710655 U (m5.to ⟨il,trivial⟩) (.fa 5 rfl U38<|.lb hh 20 U35 rfl rfl rfl<|.len rfl U35<|.fa 2 rfl U38<|.lb hh 20 U3 rfl rfl rfl<|.fa 4 rfl U38<|.lb hh 20 U3 rfl rfl rfl .nil) fun Y U =>?_
 refine stepE_only 48 rfl (by kernel_rfl) (wantedG U rfl rfl rfl rfl) (fun K hK =>?_)
 refine e_call U Tryz.func91 rfl rfl rfl rfl (chunks_any bl pe _ (by omega) (by omega)) ?_
 rintro e w392 ⟨rfl,hb392⟩
 have m393 := m5.later hb392
 refine ⟨_,rfl,?_⟩; intro Y U
 refine hK _ _ (m393.to ⟨il,trivial⟩) ?_; clear hK K
 refine goA hP5 [49,50,51] 3 562949953421311 4503599627370495 U (m393.to ⟨il,trivial⟩) (.neq rfl rfl<|.pickF rfl rfl<|.move rfl .nil) fun Y U =>?_
 refine bc U 55 ?_ ?_
 ·
  intro hb398 U; try simp only [QQ,Qax] at hb398
  refine goA hP5 [52,53,54,55,56,57,58,59,60] 9 4503599627370495 2305843009213693951 U (m393.to ⟨il,trivial⟩) (.s<|.s<|.s<|.pickT rfl rfl<|.move rfl<|.s<|.s<|.s<|.pickT rfl rfl .nil) fun Y U =>?_
  refine wpAnyE_done (by kernel_rfl) ?_ _
  refine hK2 _ _ ?_
  refine wct U ?_
  replace U := U.oz [1,2]
  refine regS U (.assign rfl .nil) fun Y U =>?_
  refine rt1 U ?_
  exact ⟨false,rfl,iff_of_false (by simp) (fun h => by obtain ⟨h1,h2,h3,h4,h5,h6,h7,h8,⟨h9,h10⟩,h11,h12⟩ := h; first | omega | (have h13 := h9 _ (getD_mem hk); omega)),m393.below⟩
 intro hb398 U; try simp only [QQ,Qax] at hb398
 refine goR hP5 [52,53,54,55,56] [53] 5 4503599627370495 144115188075855871 U (m393.to ⟨il,trivial⟩) (.fa 6 rfl U38<|.lb hh 20 U3 rfl rfl rfl<|.lss rfl rfl<|.pickF rfl rfl<|.move rfl .nil) fun Y U =>?_
 refine bc U 60 ?_ ?_
 ·
  intro hb415 U; try simp only [QQ,Qax] at hb415
  refine goA hP5 [57,58,59,60] 4 144115188075855871 2305843009213693951 U (m393.to ⟨il,trivial⟩) (.s<|.s<|.s<|.pickT rfl rfl .nil) fun Y U =>?_
  refine wpAnyE_done (by kernel_rfl) ?_ _
  refine hK2 _ _ ?_
  refine wct U ?_
  replace U := U.oz [1,2]
  refine regS U (.assign rfl .nil) fun Y U =>?_
  refine rt1 U ?_
  exact ⟨false,rfl,iff_of_false (by simp) (fun h => by obtain ⟨h1,h2,h3,h4,h5,h6,h7,h8,⟨h9,h10⟩,h11,h12⟩ := h; first | omega | (have h13 := h9 _ (getD_mem hk); omega)),m393.below⟩
 intro hb415 U; try simp only [QQ,Qax] at hb415
 refine goR hP5 [57,58,59,60] [58] 4 144115188075855871 2305843009213693951 U (m393.to ⟨il,trivial⟩) (.fa 6 rfl U38<|.lb hh 20 U3 rfl rfl rfl<|.gtr rfl rfl<|.pickF rfl rfl .nil) fun Y U =>?_
 refine wpAnyE_done (by kernel_rfl) ?_ _
 refine hK2 _ _ ?_
 refine bc U 64 ?_ ?_
 ·
  intro hb426 U; try simp only [QQ,Qax] at hb426
  refine wct U ?_
  replace U := U.oz [1,2]
  refine regS U (.assign rfl .nil) fun Y U =>?_
  refine rt1 U ?_
  exact ⟨false,rfl,iff_of_false (by simp) (fun h => by obtain ⟨h1,h2,h3,h4,h5,h6,h7,h8,⟨h9,h10⟩,h11,h12⟩ := h; first | omega | (have h13 := h9 _ (getD_mem hk); omega)),m393.below⟩
 intro hb426 U; try simp only [QQ,Qax] at hb426
 refine wcf U ?_
 refine zss (hK1 _ _ ?_)
 refine wsk fun K3 hK3 =>?_
 replace U := U.oz [1,2]
 refine regS U (.assign rfl .nil) fun Y U =>?_
 refine wp_block ?_
 refine wp_loop_ghost (fun g a w => ∃ (k B : Nat),k ≤ place.length ∧ g = place.length - k ∧ (∀ j,j < k → 1 ≤ place.getD j 0 ∧ place.getD j 0 ≤ 7) ∧ Has 86 [(1,.pointer (some ⟨B,0,none⟩)),(3,.int .i64 k)] a ∧ MemOk (cn w0) w0 [(9,.box B 38 [.int .i64 kd,.int .i64 vo,.int .i64 bl,.int .i64 sz,.int .i64 pe,.slice pp place.length cp,.int .i64 to,.int .i64 at0,.int .i64 ix,.slice pi ni ci])] w) (place.length) ?_ ?_
 · exact ⟨0,_,Nat.zero_le _,rfl,(fun j hj => by omega),U.only [1,3],m393.ren [(9,20)] (by decide)⟩
 clear U m393
 rintro g Y w431 ⟨k,B,hkl,hg,hall,U,m431⟩
 refine wsk fun K4 hK4 =>?_
 refine regS U (.move rfl<|.fa 5 rfl U38<|.lb m431 9 U35 rfl rfl rfl<|.len rfl U35<|.lss rfl rfl .nil) fun Y U =>?_
 refine bc U 69 ?_ ?_
 ·
  intro hb437 U; try simp only [QQ,Qax] at hb437
  have hk : k < place.length := by omega
  refine wct U ?_
  refine zss (hK4 _ _ ?_)
  refine wsk fun K5 hK5 =>?_
  refine wp_block ?_
  refine zsr fun K6 hK6 =>?_
  refine goCh U (.fa 5 rfl U38<|.lb m431 9 U35 rfl rfl rfl<|.move rfl .nil) fun Y U =>?_
  obtain ⟨gx445,ox445,hp445,hl445,hrg445⟩ := h0.extN (k) hk
  revert U
  cases hp445
  intro U
  refine goCh U (.c rfl (fun _ h_ => y_idx h_ rfl rfl U35 fct17 (k) rfl hk)<|.loadAt1 (hrg445 m431 rfl) (q := 0) rfl rfl rfl U3 rfl<|.lss rfl rfl<|.move rfl .nil) fun Y U =>?_
  refine bc U 78 ?_ ?_
  ·
   intro hb450 U; try simp only [QQ,Qax] at hb450
   refine gz hK6 U (.sk<|.sk<|.sk<|.sk<|.sk<|.sk<|.pickT rfl rfl<|.nil) fun Y U =>?_
   refine wct U ?_
   replace U := U.oz [1,3]
   refine regS U (.assign rfl .nil) fun Y U =>?_
   refine rt1 U ?_
   exact ⟨false,rfl,iff_of_false (by simp) (fun h => by obtain ⟨h1,h2,h3,h4,h5,h6,h7,h8,⟨h9,h10⟩,h11,h12⟩ := h; first | omega | (have h13 := h9 _ (getD_mem hk); omega)),m431.below⟩
  intro hb450 U; try simp only [QQ,Qax] at hb450
  refine goCh U (.faZ 5 rfl U38<|.loadB1Z m431 (i := 9) rfl rfl rfl U35 rfl<|.moveZ rfl .nil) fun Y U =>?_
  obtain ⟨gx463,ox463,hp463,hl463,hrg463⟩ := h0.extN (k) hk
  revert U
  cases hp463
  intro U
  refine gz hK6 U (.g rfl rfl rfl rfl (fun _ h_ => y_idx h_ rfl rfl U35 fct17 (k) rfl hk)<|.loadAt1Z (hrg463 m431 rfl) (q := 0) rfl rfl rfl U3 rfl<|.geqZ rfl rfl<|.pickF rfl rfl<|.nil) fun Y U =>?_
  refine bc U 85 ?_ ?_
  ·
   intro hb468 U; try simp only [QQ,Qax] at hb468
   refine wct U ?_
   replace U := U.oz [1,3]
   refine regS U (.assign rfl .nil) fun Y U =>?_
   refine rt1 U ?_
   exact ⟨false,rfl,iff_of_false (by simp) (fun h => by obtain ⟨h1,h2,h3,h4,h5,h6,h7,h8,⟨h9,h10⟩,h11,h12⟩ := h; first | omega | (have h13 := h9 _ (getD_mem hk); omega)),m431.below⟩
  intro hb468 U; try simp only [QQ,Qax] at hb468
  refine wcf U ?_
  refine zss (hK5 _ _ ?_)
  replace U := U.oz [1,3]
  refine wp_region_lit ?_
  refine goCh U (.move rfl<|.inc (k + 1)<|.assign rfl .nil) fun Y U =>?_
  refine wpList_nil ?_
  show ∃ n',n' < _ ∧ _
  exact ⟨place.length - (k + 1),by omega,k + 1,_,by omega,rfl,(all_snoc (P := fun x => 1 ≤ x ∧ x ≤ 7) hall (by omega)),U.only [1,3],m431.only [9]⟩
 intro hb437 U; try simp only [QQ,Qax] at hb437
 revert U
 obtain rfl : k = place.length := by omega
 intro U
 refine wcf U ?_
 refine wp_exit ?_
 refine hK3 _ _ ?_
 refine regS U (.assign rfl .nil) fun Y U =>?_
 refine rt1 U ?_
 exact ⟨true,rfl,iff_of_true rfl ⟨by omega,by omega,by omega,by omega,by omega,by omega,by omega,by omega,⟨fun g hg9 => all_mem (P := fun x => 1 ≤ x ∧ x ≤ 7) hall g hg9,by omega⟩,by omega,by omega⟩,m431.below⟩
theorem rnew_any (kd vo bl sz pe to at0 ix : Int) (place : List Int) (pp pi : Option Addr) (cp ni ci : Nat) (w0 : World) (h0 : Rd (fun _ => True) w0 (.slice pp place.length cp) (.ns .i64 place)) (hn : place.length ≤ 1000000) :
   Calls Tryz.prog 50 #[.agg #[.int .i64 kd,.int .i64 vo,.int .i64 bl,.int .i64 sz,.int .i64 pe,.slice pp place.length cp,.int .i64 to,.int .i64 at0,.int .i64 ix,.slice pi ni ci]] w0 fun e w' => (NewOk vo bl sz pe to place ∧ ∃ p c,e = .returned (.tuple #[.agg #[.int .i64 vo,.int .i64 bl,.int .i64 sz,.int .i64 pe,.slice p place.length c,.int .i64 to,.int .i64 0,.bool (decide (0 < to)),.int .i64 0,.slice none 0 0,.slice none 0 0],.int .i64 0]) ∧ Rd (New w0) w' (.slice p place.length c) (.ns .i64 place) ∧ Below w0.heap.size w0 w') ∨ (¬ NewOk vo bl sz pe to place ∧ e = .returned (.tuple #[.agg #[.int .i64 0,.int .i64 0,.int .i64 0,.int .i64 0,.slice none 0 0,.int .i64 0,.int .i64 0,.bool false,.int .i64 0,.slice none 0 0,.slice none 0 0],.int .i64 23]) ∧ Below w0.heap.size w0 w') := by
 refine ent1 Tryz.func50 rfl Tryz.ntmps50 fun Y U =>?_
 have m0 := MemOk.start (fun _ => False) w0
 refine zsr fun K0 hK0 =>?_
 refine plz (e_box U m0 20 (cs := [_,_,_,_,_,_,_,_,_,_]) rfl rfl rfl fun g1 Y w2 U m2 _ _ =>?_)
 refine plz (e_alloc U m2 21 fct14 rfl fun g3 Y w4 U m4 _ _ =>?_)
 refine gz hK0 U (.assign rfl .nil) fun Y U =>?_
 refine wsk fun K1 hK1 =>?_
 refine zsr fun K2 hK2 =>?_
 refine goCh U (.loadBR m4 (i := 20) rfl rfl U38 rfl fct18 (by simp) (by dsimp only [List.drop,List.take] <;> rfl) .nil) fun Y U =>?_
 refine plz (ecl U Tryz.func97 rfl (rshape_any _ _ _ _ _ _ _ _ place _ _ _ _ _ _ ((h0.now' m4 rfl).any) hn) ?_)
 rintro e w8 ⟨sb,rfl,hsb,hb8⟩
 have m9 := m4.later hb8
 refine ⟨_,rfl,?_⟩; intro Y U
 refine gz hK2 U (.not rfl .nil) fun Y U =>?_
 refine bc U 6 ?_ ?_
 ·
  intro hb12 U; try simp only [QQ,Qax] at hb12
  refine wct U ?_
  refine zsr fun K3 hK3 =>?_
  refine goCh U (.build rfl fct14 fl51rn rfl (by dsimp only [setL,List.set] <;> rfl) .nil) fun Y U =>?_
  refine plz (stw U m9 21 fct13 fun w15 m15 _ =>?_)
  refine gz hK3 U (.assign rfl .nil) fun Y U =>?_
  refine rtd (retCT (fn := Tryz.f50) U m15 (i := 21) rfl rfl rfl rfl U51 rfl fct13 ?_)
  exact .inr ⟨fun h => by have h12 := hsb.2 h; simp_all,rfl,m15.below⟩
 intro hb12 U; try simp only [QQ,Qax] at hb12
 refine wcf U ?_
 refine zss (hK1 _ _ ?_)
 refine wsk fun K4 hK4 =>?_
 have m17 := m9.oz [20,21]
 refine region_p 19 (B := [(20,_)]) (m17.to ⟨il,trivial⟩) m17 (by kernel_rfl) (fun w18 hP18 m18 =>?_); clear m17
 refine goR hP18 [0,1,2,3,4,5,6,7,8,9,11,12,13,14,15] [1,3,5,7,9,12,14] 15 0 64511 U (m18.to ⟨il,trivial⟩) (.fa 1 rfl U38<|.lb hh 20 U3 rfl rfl rfl<|.fa 2 rfl U38<|.lb hh 20 U3 rfl rfl rfl<|.fa 3 rfl U38<|.lb hh 20 U3 rfl rfl rfl<|.fa 4 rfl U38<|.lb hh 20 U3 rfl rfl rfl<|.fa 5 rfl U38<|.lb hh 20 U35 rfl rfl rfl<|.fa 6 rfl U38<|.lb hh 20 U3 rfl rfl rfl<|.fa 6 rfl U38<|.lb hh 20 U3 rfl rfl rfl<|.gtr rfl rfl .nil) fun Y U =>?_
 refine so 10 ?_
 refine e_app0N U m18 22 rfl rfl (h0.now' m18 rfl).ns_out.nums U35 fct16 (by decide) (by omega) rfl fun p34 c34 Y w35 U m35 =>?_
 refine ⟨m35.to ⟨il,trivial⟩,?_⟩
 refine goA hP18 [16] 1 65535 131071 U (m35.to ⟨il,trivial⟩) (.build rfl fct14 fl51rn rfl (by dsimp only [setL,List.set] <;> rfl) .nil) fun Y U =>?_
 refine so 17 ?_
 refine stw U m35 21 fct13 fun w37 m37 _ =>?_
 refine ⟨m37.to ⟨il,trivial⟩,?_⟩
 refine goA hP18 [18] 1 262143 524287 U (m37.to ⟨il,trivial⟩) (.assign rfl .nil) fun Y U =>?_
 refine wpAnyE_done (by kernel_rfl) ?_ _
 refine hK4 _ _ ?_
 refine rtd (retCT (fn := Tryz.f50) U m37 (i := 21) rfl rfl rfl rfl U51 rfl fct13 ?_)
 have m39 := m37.freezeN 22 rfl
 exact .inl ⟨hsb.1 (by simp_all),_,_,rfl,m39.outF (i := 22) rfl,m39.below⟩
theorem rnew_yes (kd vo bl sz pe to at0 ix : Int) (place : List Int) (pp pi : Option Addr) (cp ni ci : Nat) (w0 : World) (h0 : Rd (fun _ => True) w0 (.slice pp place.length cp) (.ns .i64 place)) (hn : place.length ≤ 1000000) (hN : NewOk vo bl sz pe to place) :
   Calls Tryz.prog 50 #[.agg #[.int .i64 kd,.int .i64 vo,.int .i64 bl,.int .i64 sz,.int .i64 pe,.slice pp place.length cp,.int .i64 to,.int .i64 at0,.int .i64 ix,.slice pi ni ci]] w0 fun e w' => ∃ p c,e = .returned (.tuple #[.agg #[.int .i64 vo,.int .i64 bl,.int .i64 sz,.int .i64 pe,.slice p place.length c,.int .i64 to,.int .i64 0,.bool (decide (0 < to)),.int .i64 0,.slice none 0 0,.slice none 0 0],.int .i64 0]) ∧ Rd (New w0) w' (.slice p place.length c) (.ns .i64 place) ∧ Below w0.heap.size w0 w' :=
 (rnew_any kd vo bl sz pe to at0 ix place pp pi cp ni ci w0 h0 hn).mono (fun _ _ h => h.elim (fun h => h.2) (fun h => absurd hN h.1))
theorem data_any (n : Nat) (b : Int) (w0 : World) (hn : n ≤ 1000000) (hb : 0 ≤ b ∧ b ≤ 255) :
   Calls Tryz.prog 131 #[.int .i64 (n : Int),.int .u8 b] w0 fun e w' => ∃ (d : List Int) (p : Option Addr) (c : Nat),e = .returned (.slice p n c) ∧ d.length = n ∧ BytesL d ∧ Rd (New w0) w' (.slice p n c) (.ns .u8 d) ∧ Below w0.heap.size w0 w' := by
 refine ent2 Tryz.func131 rfl Tryz.ntmps131 fun Y U =>?_
 have m0 := MemOk.start (fun _ => False) w0
 refine regS U (.assign rfl .nil) fun Y U =>?_
 refine regS U (.assign rfl .nil) fun Y U =>?_
 refine wsk fun K0 hK0 =>?_
 refine regS U (.assign rfl .nil) fun Y U =>?_
 refine wp_block ?_
 refine wp_loop_ghost (fun g a w => ∃ (k : Nat) (d : List Int) (p : Option Addr) (c : Nat),k ≤ n ∧ g = n - k ∧ d.length = k ∧ BytesL d ∧ Has 21 [(0,.int .i64 (n : Int)),(1,.int .u8 b),(5,.slice p d.length c),(6,.int .i64 k)] a ∧ MemOk (cn w0) w0 [(9,.num (.slice p d.length c) 5 .u8 d)] w) (n) ?_ ?_
 · have mz := m0.nilN 9 5 .u8
   exact ⟨0,[],_,_,Nat.zero_le _,rfl,rfl,(fun _ h => by cases h),U.only [0,1,5,6],mz.only [9]⟩
 clear U m0
 rintro g Y w4 ⟨k,d,p,c,hkl,hg,hdl,hdb,U,m4⟩
 refine wsk fun K1 hK1 =>?_
 refine regS U (.move rfl<|.move rfl<|.lss rfl rfl .nil) fun Y U =>?_
 refine bc U 9 ?_ ?_
 ·
  intro hb8 U; try simp only [QQ,Qax] at hb8
  have hk : k < n := by omega
  obtain ⟨z,hz,hzb⟩ : ∃ z,IntKind.u8.wrap (b + IntKind.u8.wrap (IntKind.u8.wrap (k : Int) * 7)) = z ∧ 0 ≤ z ∧ z ≤ 255 := ⟨_,rfl,wrap_u8 _⟩
  refine wct U ?_
  refine zss (hK1 _ _ ?_)
  refine wsk fun K2 hK2 =>?_
  refine wp_block ?_
  refine wp_region_lit ?_
  refine goCh U (.move rfl<|.move rfl<|.move rfl<|.conv rfl U3 U5 rfl<|.mul rfl rfl rfl<|.add rfl rfl (r := z) hz .nil) fun Y U =>?_
  refine plz (e_litN U m4 100 (k := .u8) rfl rfl U22 fct0 rfl rfl rfl rfl fun g15 Y w16 U m16 =>?_)
  refine plz (e_appN U m16 9 rfl rfl rfl (m16.numsO (i := 100) rfl) U22 fct0 (by decide) (by simp; omega) rfl fun p17 c17 Y w18 U m18 =>?_)
  refine gz hK2 U (.assign rfl .nil) fun Y U =>?_
  replace U := U.oz [0,1,5,6]
  refine wp_region_lit ?_
  refine goCh U (.move rfl<|.inc (k + 1)<|.assign rfl .nil) fun Y U =>?_
  refine wpList_nil ?_
  show ∃ n',n' < _ ∧ _
  exact ⟨n - (k + 1),by omega,k + 1,d ++ [z],_,_,by omega,rfl,by simp [hdl],bytes_snoc hdb hzb,U.only [0,1,5,6],m18.only [9]⟩
 intro hb8 U; try simp only [QQ,Qax] at hb8
 revert U
 obtain rfl : k = n := by omega
 intro U
 refine wcf U ?_
 refine wp_exit ?_
 refine hK0 _ _ ?_
 refine regS U (.move rfl<|.assign rfl .nil) fun Y U =>?_
 refine rt1 U ?_
 have m26 := m4.freezeN 9 rfl
 exact ⟨_,_,_,by rw [hdl],hdl,hdb,by rw [← hdl]; exact m26.outF (i := 9) rfl,m26.below⟩
theorem sitem_any (bl : Int) (z : Nat) (l : List Int) (pl : Option Addr) (cl : Nat) (w0 : World) (h0 : Rd (fun _ => True) w0 (.slice pl l.length cl) (.ns .u8 l)) (hl : l.length ≤ 1000000) (hlb : ∀ j,j < l.length → 0 ≤ l.getD j 0 ∧ l.getD j 0 ≤ 255) (hz : z ≤ 1000) :
   Calls Tryz.prog 90 #[.int .i64 bl,.int .i64 (z : Int),.slice pl l.length cl] w0 fun e w' => ∃ (it : List (Int × List Int)) (p : Option Addr) (c : Nat),e = .returned (.slice p it.length c) ∧ it.length ≤ 8 ∧ ItPre (max bl 1) z it it.length ∧ ItsB it ∧ (l ≠ [] → 1 ≤ it.length) ∧ Rd (New w0) w' (.slice p it.length c) (.l 2 (it.map itD)) ∧ Below w0.heap.size w0 w' := by
 refine ent3 Tryz.func90 rfl Tryz.ntmps90 fun Y U =>?_
 have m0 := MemOk.start (fun _ => False) w0
 obtain ⟨bb,hbb⟩ : ∃ x : Int,max bl 1 = x := ⟨_,rfl⟩
 refine regS U (.assign rfl .nil) fun Y U =>?_
 refine regS U (.assign rfl .nil) fun Y U =>?_
 refine wsk fun K0 hK0 =>?_
 refine regS U (.assign rfl .nil) fun Y U =>?_
 refine wp_block ?_
 refine wp_loop_ghost (fun g a w => ∃ (k : Nat) (it : List (Int × List Int)) (p : Option Addr) (c : Nat),k ≤ l.length ∧ g = l.length - k ∧ it.length ≤ 8 ∧ ItPre bb z it it.length ∧ ItsB it ∧ (0 < k → 1 ≤ it.length) ∧ Has 61 [(0,.int .i64 bl),(1,.int .i64 (z : Int)),(2,.slice pl l.length cl),(7,.slice p (it.map itD).length c),(8,.int .i64 k)] a ∧ MemOk (cn w0) w0 [(9,.seg (.slice p (it.map itD).length c) 59 2 (it.map itD))] w) (l.length) ?_ ?_
 · have mz := (m0.nilR 9 59 2).rowS 9 rfl
   exact ⟨0,[],_,_,Nat.zero_le _,rfl,by simp,(fun j hj => by simp at hj),(fun _ h => by cases h),(fun h => by omega),U.only [0,1,2,7,8],mz.only [9]⟩
 clear U m0
 rintro g Y w4 ⟨k,it,p,c,hkl,hg,hit8,hpre,hitb,hne,U,m4⟩
 refine wsk fun K1 hK1 =>?_
 refine zsr fun K2 hK2 =>?_
 refine goCh U (.move rfl<|.move rfl<|.len rfl U22<|.lss rfl rfl<|.move rfl .nil) fun Y U =>?_
 refine bc U 16 ?_ ?_
 ·
  intro hb15 U; try simp only [QQ,Qax] at hb15
  have hk : k < l.length := by omega
  have hx := hlb k hk
  obtain ⟨b9,hb9e,hb9⟩ : ∃ x : Int,(l.getD k 0).tmod bb = x ∧ (0 ≤ x ∧ x < bb) := ⟨_,rfl,by rw [Int.tmod_eq_emod_of_nonneg (by omega)]; exact Int.emod_nonneg _ (by omega),by rw [Int.tmod_eq_emod_of_nonneg (by omega)]; exact Int.emod_lt_of_pos _ (by omega)⟩
  refine gz hK2 U (.moveZ rfl<|.lenZ rfl U36<|.lssZ rfl rfl<|.pickT rfl rfl<|.nil) fun Y U =>?_
  refine bc U 20 ?_ ?_
  ·
   intro hb20 U; try simp only [QQ,Qax] at hb20
   rw [List.length_map] at hb20
   refine wct U ?_
   refine zss (hK1 _ _ ?_)
   refine wsk fun K3 hK3 =>?_
   refine wp_block ?_
   replace U := U.oz [0,1,2,7,8]
   refine zsr fun K4 hK4 =>?_
   refine goCh U (.move rfl<|.move rfl .nil) fun Y U =>?_
   obtain ⟨gx27,ox27,hp27,hl27,hrg27⟩ := h0.extN (k) hk
   revert U
   cases hp27
   intro U
   refine gz hK4 U (.c rfl (fun _ h_ => y_idx h_ rfl rfl U22 fct15 (k) rfl hk)<|.loadAt1 (hrg27 m4 rfl) (q := 0) rfl rfl rfl U5 rfl<|.conv rfl U5 U3 (r := l.getD k 0) (IntWalk.i64_in _ (by omega))<|.move rfl<|.c rfl (fun _ h_ => y_max h_ rfl rfl (r := bb) hbb)<|.rem rfl rfl (by omega) (r := b9) hb9e<|.assign rfl<|.nil) fun Y U =>?_
   replace U := U.oz [0,1,2,7,8,9]
   refine regS U (.assign rfl .nil) fun Y U =>?_
   refine wsk fun K5 hK5 =>?_
   refine regS U (.assign rfl .nil) fun Y U =>?_
   refine wp_block ?_
   refine wp_loop_ghost (fun g a w => ∃ (j : Nat) (tb : Bool) (p : Option Addr) (c : Nat),j ≤ it.length ∧ g = it.length - j ∧ (tb = true ↔ ∃ e ∈ it.take j,e.1 = b9) ∧ Has 61 [(0,.int .i64 bl),(1,.int .i64 (z : Int)),(2,.slice (some ⟨gx27,ox27,none⟩) l.length cl),(7,.slice p (it.map itD).length c),(8,.int .i64 k),(9,.int .i64 b9),(10,.bool tb),(11,.int .i64 j)] a ∧ MemOk (cn w0) w0 [(9,.seg (.slice p (it.map itD).length c) 59 2 (it.map itD))] w) (it.length) ?_ ?_
   · exact ⟨0,false,_,_,Nat.zero_le _,rfl,by simp,U.only [0,1,2,7,8,9,10,11],m4.only [9]⟩
   clear U m4
   rintro g Y w38 ⟨j,tb,p,c,hjl,hg2,htb,U,m38⟩
   refine wsk fun K6 hK6 =>?_
   refine regS U (.move rfl<|.move rfl<|.len rfl U36<|.lss rfl rfl .nil) fun Y U =>?_
   refine bc U 34 ?_ ?_
   ·
    intro hb43 U; try simp only [QQ,Qax] at hb43
    rw [List.length_map] at hb43
    have hj : j < it.length := by omega
    obtain ⟨⟨yb,yd⟩,hit⟩ : ∃ e,it[j]? = some e := ⟨_,List.getElem?_eq_getElem hj⟩
    refine wct U ?_
    refine zss (hK6 _ _ ?_)
    refine wsk fun K7 hK7 =>?_
    refine wp_block ?_
    refine wp_region_lit ?_
    refine goCh U (.move rfl<|.move rfl .nil) fun Y U =>?_
    refine bc U 38 ?_ ?_
    ·
     intro hb46 U; try simp only [QQ,Qax] at hb46
     refine gz hK7 U (.sk<|.sk<|.sk<|.sk<|.sk<|.sk<|.sk<|.pickT rfl rfl<|.assign rfl<|.nil) fun Y U =>?_
     replace U := U.oz [0,1,2,7,8,9,10,11,38]
     refine wp_region_lit ?_
     refine goCh U (.move rfl<|.inc (j + 1)<|.assign rfl .nil) fun Y U =>?_
     refine wpList_nil ?_
     show ∃ n',n' < _ ∧ _
     exact ⟨it.length - (j + 1),by omega,j + 1,_,_,_,by omega,rfl,there_snoc (tb := true) (hb46 ▸ htb) hit,U.only [0,1,2,7,8,9,10,11],m38.only [9]⟩
    intro hb46 U; try simp only [QQ,Qax] at hb46
    refine goCh U (.moveZ rfl<|.moveZ rfl .nil) fun Y U =>?_
    obtain ⟨gs62,os62,vs62,hp62,hl62,hR62,hrg62⟩ := m38.openS (i := 9) rfl (j) (r := [.v (.int .i64 yb),.ns .u8 yd]) (itD_get hit)
    revert U
    cases hp62; clear hl62 hR62 hrg62 vs62
    intro U
    refine gz hK7 U (.g rfl rfl rfl rfl (fun _ h_ => y_idx h_ rfl rfl U36 fct3 (j) rfl (by rw [List.length_map]; exact hj))<|.fieldAddrQZ 0 rfl U59 rfl (s := 0) (by kernel_rfl) rfl<|.loadSVZ m38 (i := 9) rfl (j) (r := [.v (.int .i64 yb),.ns .u8 yd]) (itD_get hit) (q := 0) rfl rfl rfl U3 rfl<|.moveZ rfl<|.eqlZ rfl rfl<|.pickF rfl rfl<|.assign rfl<|.nil) fun Y U =>?_
    replace U := U.oz [0,1,2,7,8,9,10,11,38]
    refine wp_region_lit ?_
    refine goCh U (.move rfl<|.inc (j + 1)<|.assign rfl .nil) fun Y U =>?_
    refine wpList_nil ?_
    show ∃ n',n' < _ ∧ _
    exact ⟨it.length - (j + 1),by omega,j + 1,_,_,_,by omega,rfl,there_snoc (tb := false) (hb46 ▸ htb) hit,U.only [0,1,2,7,8,9,10,11],m38.only [9]⟩
   intro hb43 U; try simp only [QQ,Qax] at hb43
   rw [List.length_map] at hb43
   revert U
   obtain rfl : j = it.length := by omega
   intro U
   rw [List.take_length] at htb
   refine wcf U ?_
   refine wp_exit ?_
   refine hK5 _ _ ?_
   refine regS U (.move rfl<|.not rfl .nil) fun Y U =>?_
   refine bc U 48 ?_ ?_
   ·
    intro hb76 U; try simp only [QQ,Qax] at hb76
    have hno : ¬ ∃ e ∈ it,e.1 = b9 := fun h => by have h9 := htb.2 h; simp_all
    refine wct U ?_
    refine wp_region_lit ?_
    refine goCh U (.move rfl<|.move rfl<|.move rfl<|.move rfl<|.move rfl .nil) fun Y U =>?_
    obtain ⟨gx82,ox82,hp82,hl82,hrg82⟩ := h0.extN (k) hk
    revert U
    cases hp82
    intro U
    refine goCh U (.c rfl (fun _ h_ => y_idx h_ rfl rfl U22 fct15 (k) rfl hk)<|.loadAt1 (hrg82 m38 rfl) (q := 0) rfl rfl rfl U5 rfl .nil) fun Y U =>?_
    refine plz (ecl U Tryz.func131 rfl (data_any z (l.getD k 0) _ (by omega) (by omega)) ?_)
    rintro e w85 ⟨d9,p85,c85,rfl,hd9l,hd9b,hd85,hb85⟩
    have m86 := m38.callF 200 rfl hb85 hd85
    refine ⟨_,rfl,?_⟩; intro Y U
    refine goCh U (.build rfl fct4 fl59is2 rfl (by dsimp only [setL,List.set] <;> rfl) .nil) fun Y U =>?_
    refine plz (e_litR U m86 201 (mm := 2) rfl (.cons rfl rfl (.cons (.v _) (.cons (m86.rd (i := 200) rfl) .nil)) .nil) U36 fct5 rfl rfl rfl rfl rfl fun g89 Y w90 U m90 =>?_)
    have m92 := m90.freezeR 201 rfl
    refine plz (e_appSA U m92 9 rfl rfl rfl (m92.rd (i := 201) rfl).cells U36 fct5 rfl rfl (by decide) (by simp; omega) rfl fun p91 c91 Y w93 U m93 =>?_)
    refine gz hK3 U (.assign rfl .nil) fun Y U =>?_
    replace U := U.oz [0,1,2,7,8,9,10,11,48]
    refine wp_region_lit ?_
    refine goCh U (.move rfl<|.inc (k + 1)<|.assign rfl .nil) fun Y U =>?_
    refine wpList_nil ?_
    show ∃ n',n' < _ ∧ _
    have hE : it.map itD ++ [[D.v (.int .i64 b9),.ns .u8 d9]] = (it ++ [(b9,d9)]).map itD := by rw [List.map_append]; rfl
    rw [hE] at m93 U
    skip
    exact ⟨l.length - (k + 1),by omega,k + 1,it ++ [(b9,d9)],_,_,by omega,rfl,by simp; omega,by rw [List.length_append]; exact itpre_app hpre hb9 (by omega) hno,itsB_snoc hitb (by omega) hd9b,fun _ => by simp,U.only [0,1,2,7,8],m93.only [9]⟩
   intro hb76 U; try simp only [QQ,Qax] at hb76
   have hsome : 1 ≤ it.length := by
     obtain ⟨e9,h9,-⟩ := htb.1 (by simp_all)
     exact List.length_pos_of_mem h9
   refine wcf U ?_
   refine zss (hK3 _ _ ?_)
   refine wp_region_lit ?_
   refine goCh U (.move rfl<|.inc (k + 1)<|.assign rfl .nil) fun Y U =>?_
   refine wpList_nil ?_
   show ∃ n',n' < _ ∧ _
   exact ⟨l.length - (k + 1),by omega,k + 1,it,_,_,by omega,rfl,by omega,hpre,hitb,fun _ => hsome,U.only [0,1,2,7,8],m38.only [9]⟩
  intro hb20 U; try simp only [QQ,Qax] at hb20
  rw [List.length_map] at hb20
  refine wcf U ?_
  refine wp_exit ?_
  refine hK0 _ _ ?_
  replace U := U.oz [0,1,2,7,8]
  refine regS U (.move rfl<|.assign rfl .nil) fun Y U =>?_
  refine rt1 U ?_
  have mf := m4.freezeS 9 rfl (by simp [cx])
  exact ⟨it,_,_,by rw [List.length_map],hit8,(by rw [hbb]; exact hpre),hitb,(fun h => by first | omega | (have h9 := List.length_pos_iff.2 h; exact hne (by omega))),by simpa using mf.outF (i := 9) rfl,m4.below⟩
 intro hb15 U; try simp only [QQ,Qax] at hb15
 revert U
 obtain rfl : k = l.length := by omega
 intro U
 refine gz hK2 U (.sk<|.sk<|.sk<|.pickF rfl rfl<|.nil) fun Y U =>?_
 refine wcf U ?_
 refine wp_exit ?_
 refine hK0 _ _ ?_
 replace U := U.oz [0,1,2,7,8]
 refine regS U (.move rfl<|.assign rfl .nil) fun Y U =>?_
 refine rt1 U ?_
 have mf := m4.freezeS 9 rfl (by simp [cx])
 exact ⟨it,_,_,by rw [List.length_map],hit8,(by rw [hbb]; exact hpre),hitb,(fun h => by first | omega | (have h9 := List.length_pos_iff.2 h; exact hne (by omega))),by simpa using mf.outF (i := 9) rfl,m4.below⟩
end
section
open Classical in
noncomputable def wrR (bl sz : Int) (ws : List (Int × List (Int × List Int))) (it : List (Int × List Int)) : List (Int × List (Int × List Int)) × Int := if ItemsR bl sz it then (ws ++ [((ws.length : Int) + 1,it)],0) else (ws,23)
abbrev VolO := Int × Bool × Int × List (Int × List (Int × List Int)) × Int
noncomputable def putR (bl sz ne fl : Int) (hi : Bool) (ws : List (Int × List (Int × List Int))) (it : List (Int × List Int)) : VolO := if hi = true then (ne,hi,fl,ws,28) else (ne,hi,fl,(wrR bl sz ws it).1,(wrR bl sz ws it).2)
def reachR (hi : Bool) (fl at0 nd : Int) : Int := if hi = true then 28 else if at0 < fl then 30 else if nd < at0 then 31 else 0
def pruneR (ne fl : Int) (hi : Bool) (pins : List Int) (ws : List (Int × List (Int × List Int))) (at0 : Int) : VolO := if reachR hi fl at0 (lowL ws.length pins) = 0 then (ne,hi,at0,ws,0) else (ne,hi,fl,ws,reachR hi fl at0 (lowL ws.length pins))
noncomputable def takeR (bl sz to ne fl : Int) (hi : Bool) (ws : List (Int × List (Int × List Int))) (ix : Int) (it : List (Int × List Int)) : VolO :=
 if hi = false then (ne,hi,fl,ws,33) else if 0 ≤ ix ∧ ix ≤ ne - 1 then (ne,hi,fl,ws,0) else if ix ≠ ne ∨ ne = to then (ne,hi,fl,ws,33)
 else if (wrR bl sz ws it).2 = 0 then (ne + 1,hi,fl,(wrR bl sz ws it).1,0) else (ne,hi,fl,(wrR bl sz ws it).1,(wrR bl sz ws it).2)
def publishR (to ne fl : Int) (hi : Bool) (ws : List (Int × List (Int × List Int))) : VolO := if hi = false ∨ ne ≠ to then (ne,hi,fl,ws,33) else (ne,false,(ws.length : Int),ws,0)
noncomputable def doR (bl sz to ne fl : Int) (hi : Bool) (pins : List Int) (ws : List (Int × List (Int × List Int))) (kd at0 ix : Int) (it : List (Int × List Int)) : VolO :=
 if kd = 2 then putR bl sz ne fl hi ws it else if kd = 3 then pruneR ne fl hi pins ws at0 else if kd = 6 then takeR bl sz to ne fl hi ws ix it
 else if kd = 7 then publishR to ne fl hi ws else if kd = 8 then (ne,hi,fl,ws,0) else (ne,hi,fl,ws,23)
set_option maxRecDepth 100000
set_option maxHeartbeats 4000000
end
section
theorem RdL.cons_inv {S : Nat → Prop} {w : World} {vs : List Value} {d : D} {ds : List D} (h : RdL S w vs (d :: ds)) : ∃ v r,vs = v :: r ∧ Rd S w v d ∧ RdL S w r ds := by
 cases h with
 | cons h t => exact ⟨_,_,rfl,h,t⟩
theorem RdL.nil_inv {S : Nat → Prop} {w : World} {vs : List Value} (h : RdL S w vs []) : vs = [] := by
 cases h; rfl
end
end Go.Proofs.YtkehgingagggaaaGreat.K
section
namespace Go.Proofs.YtkehgingagggaaaGreat.K
open Go.ChangeShapes Go.WideShapes Go.ChangeAt Go.RowKit Go.Sort
set_option linter.unusedVariables false
set_option linter.unusedSimpArgs false
variable {P : Program} {X : Cx} {M : Mm} {w w0 : World}
def nD (z : Int) : List D := [.v (.int .i64 z)]
theorem seg_nums {S : Nat → Prop} {v : Value} {e : TypeId} {zs : List Int} (h : SegOk S w v e 1 (zs.map nD)) : OwnsAt w 0 e 1 v zs.length (zs.map (Value.int .i64)) := by
 obtain ⟨cs,h1,h2,h3,h4,h5⟩ := h
 rw [List.length_map] at h1 h2
 have hcs : cs = zs.map (fun z => [Value.int .i64 z]) := by
   apply List.ext_getElem (by simp [h2])
   intro j g1 g2
   have hz : j < zs.length := by omega
   obtain ⟨a1,-⟩ := h3 cs[j] (List.getElem_mem g1)
   match hc : cs[j],a1 with
   | [x],_ =>
     have h := h5 j 0 cs[j] (nD zs[j]) x (.v (.int .i64 zs[j])) (List.getElem?_eq_getElem g1) (by simp [hz]) (by rw [hc]; rfl) rfl
     simp [h.v_out]
 have hfl : cs.flatten = zs.map (Value.int .i64) := by
   rw [hcs]
   clear h1 h2 h3 h4 h5 hcs
   induction zs with
   | nil => rfl
   | cons z r ih => simpa using ih
 rwa [hfl] at h1
theorem nums_seg {S : Nat → Prop} {v : Value} {e : TypeId} {zs : List Int} (h : OwnsAt w 0 e 1 v zs.length (zs.map (Value.int .i64))) : SegOk S w v e 1 (zs.map nD) := by
 refine ⟨zs.map (fun z => [Value.int .i64 z]),?_,by simp,?_,?_,?_⟩
 · have : (zs.map (fun z => [Value.int .i64 z])).flatten = zs.map (Value.int .i64) := by
     clear h
     induction zs with
     | nil => rfl
     | cons z r ih => simpa using ih
   rw [this,List.length_map]; exact h
 · intro c hc
   obtain ⟨z,-,rfl⟩ := List.mem_map.1 hc
   exact ⟨rfl,fun x hx => by simp at hx; subst hx; rfl⟩
 · intro r hr
   obtain ⟨z,-,rfl⟩ := List.mem_map.1 hr
   rfl
 intro j q c r x d a1 a2 a3 a4
 rw [List.getElem?_map] at a1 a2
 cases hz : zs[j]? with
 | none => rw [hz] at a1; cases a1
 | some z =>
   rw [hz] at a1 a2
   injection a1 with a1; injection a2 with a2
   subst a1; subst a2
   match q with
   | 0 =>
     injection a3 with a3; injection a4 with a4
     subst a3; subst a4; exact .v _
   | q + 1 => cases a3
theorem cell_at {g off n : Nat} {cur : Array Value} {e : TypeId} {zs : List Int} (hb : w.heap[g]? = some (.cells cur e (0,0))) (htk : (cur.toList.drop off).take n = zs.map (Value.int .i64)) (hn : n = zs.length) {j : Nat} (hj : j < zs.length) : w.cell? ⟨g,off + j,none⟩ = some (.int .i64 (zs.getD j 0)) := by
 subst hn
 have h1 : ((cur.toList.drop off).take zs.length)[j]? = (zs.map (Value.int .i64))[j]? := by rw [htk]
 rw [List.getElem?_take_of_lt hj,List.getElem?_drop] at h1
 simp only [World.cell?,hb]
 simp only [Option.isSome_none,Bool.false_eq_true,if_false]
 rw [← Array.getElem?_toList,h1]
 simp [hj,List.getD]
theorem holds_at {g off n : Nat} {cur : Array Value} {e : TypeId} {zs : List Int} (hb : w.heap[g]? = some (.cells cur e (0,0))) (htk : (cur.toList.drop off).take n = zs.map (Value.int .i64)) (hn : n = zs.length) : Holds (Value.int .i64) w g off zs.toArray := by
 intro j hj
 have hj' : j < zs.length := by simpa using hj
 refine ⟨?_,by simp [World.frozen?,hb]⟩
 rw [cell_at hb htk hn hj']
 simp [hj',List.getD]
theorem heap_at {g off n : Nat} {os : Array Obj} {cur : Array Value} {e : TypeId} {fr : Nat × Nat} (d : Array Int) (hb : w.heap[g]? = some (.cells cur e fr)) :
   (grow (putRow (Value.int .i64) (Sort.ahead w n) g off d) os).heap[g]? = some (.cells (putCells (Value.int .i64) off d cur) e fr) := by
 have hg : g < w.heap.size := (Array.getElem?_eq_some_iff.1 hb).1
 rw [heap_grow_old _ _ (by simpa using hg)]
 simp [putRow,mapBlock,Sort.ahead,Array.getElem?_modify,hb,onCells]
theorem grown_at {g off n : Nat} {os : Array Obj} (d : Array Int) : w.grownBy (grow (putRow (Value.int .i64) (Sort.ahead w n) g off d) os) (some g) := by
 refine ⟨rfl,rfl,rfl,by simp,fun k hk hne =>?_⟩
 rw [heap_grow_old _ _ (by simpa using hk)]
 have : g ≠ k := fun e => hne (by rw [e])
 simp [putRow,mapBlock,Sort.ahead,Array.getElem?_modify,this]
theorem put_at (cur : Array Value) (off : Nat) (ts : List Int) (h : off + ts.length ≤ cur.size) : ((putCells (Value.int .i64) off ts.toArray cur).toList.drop off).take ts.length = ts.map (Value.int .i64) := by
 apply List.ext_getElem?
 intro j
 by_cases hj : j < ts.length
 · rw [List.getElem?_take_of_lt hj,List.getElem?_drop,Array.getElem?_toList]
   simp [putCells,hj,show off + j < cur.size by omega]
 rw [List.getElem?_take_eq_none (by omega),List.getElem?_eq_none (by simp; omega)]
theorem MemOk.putN (m : MemOk X w0 M w) (i : Nat) {g off l c : Nat} {e : TypeId} {zs : List Int} (hm : lk M i = some (.seg (.slice (some ⟨g,off,none⟩) l c) e 1 (zs.map nD))) (ts : List Int) (hl : ts.length = zs.length) (n : Nat) (os : Array Obj) :
   MemOk X w0 ((i,.seg (.slice (some ⟨g,off,none⟩) l c) e 1 (ts.map nD)) :: M) (grow (putRow (Value.int .i64) (Sort.ahead w n) g off ts.toArray) os) := by
 obtain ⟨h,hX⟩ := m.ok i _ hm
 have hkeep : Keep (fun b => ∃ r,lk M i = some r ∧ r.blk = some b) w (grow (putRow (Value.int .i64) (Sort.ahead w n) g off ts.toArray) os) := (keep_grown (v := .slice (some ⟨g,off,none⟩) l c) (grown_at ts.toArray)).mono (fun b hb => ⟨_,hm,hb⟩)
 refine m.upd i _ hkeep (fun b hb => .inl ⟨_,hm,hb⟩) (fun hf _ => ⟨nums_seg ?_,hX⟩)
 obtain ⟨h1,h2⟩ := seg_nums h
 refine ⟨by simp,?_⟩
 rcases h2 with ⟨e1,-⟩ | ⟨g',off',cap,cur,e1,-,hb,hnc,hcm,hcs,htk⟩
 · cases e1
 injection e1 with e1 e2 e3
 injection e1 with e1
 injection e1 with e1 e4
 subst e1; subst e4; subst e2; subst e3
 refine .inr ⟨g,off,c,_,by rw [hl],Nat.zero_le _,heap_at _ hb,by omega,hcm,by simp [putCells]; omega,?_⟩
 rw [Nat.mul_one]
 exact put_at cur off ts (by omega)
theorem MemOk.numS (m : MemOk X w0 M w) (i : Nat) {v : Value} {e : TypeId} {zs : List Int} (h : lk M i = some (.num v e .i64 zs)) : MemOk X w0 ((i,.seg v e 1 (zs.map nD)) :: M) w := by
 have h1 : w.ownsRow w0.heap.size e 1 v zs.length (zs.map (Value.int .i64)) := m.ok i _ h
 have hl := World.ownsRow.lt h1
 refine m.upd i _ (Keep.refl _ _) (fun b hb => .inl ⟨_,h,hb⟩) (fun hf _ => ⟨nums_seg ?_,fun b hb => .inl (hl b hb).1⟩)
 obtain ⟨a1,a2⟩ := OwnsAt.of h1
 refine ⟨a1,?_⟩
 rcases a2 with a2 | ⟨g,off,cap,cur,b1,_,rest⟩
 · exact .inl a2
 exact .inr ⟨g,off,cap,cur,b1,Nat.zero_le _,rest⟩
theorem MemOk.dropN (m : MemOk X w0 M w) {i : Nat} {p : Option Addr} {l c : Nat} {k : IntKind} {zs : List Int} (hm : lk M i = some (.dat (.slice p l c) (.ns k zs))) (j : Nat) (hj : j ≤ zs.length) (i2 : Nat) (hi2 : lk M i2 = none) : MemOk X w0 ((i2,.dat (.slice (if c = j then p else p.map (·.add (j * 1))) (l - j) (c - j)) (.ns k (zs.drop j))) :: M) w :=
 m.dat i2 hi2 (.ns ((m.rd hm).ns_out.drop j hj))
end Go.Proofs.YtkehgingagggaaaGreat.K
end
section
namespace Go.Proofs
open Go.Shelf
def Tryz.sort64_ren : Go.Shelf.Ren := ⟨fun | 53 => 171 | 64 => 135 | 63 => 183 | 78 => 161 | 79 => 162 | 70 => 185 | 71 => 186 | 72 => 187 | 73 => 188 | 74 => 189 | 75 => 190 | 59 => 191 | 76 => 192 | 77 => 193 | 88 => 194 | 89 => 175 | 90 => 176 | 91 => 195 | 92 => 196 | 68 => 197 | 96 => 198 | n => n, fun | 22 => 48 | 23 => 2 | 3 => 3 | 51 => 169 | 0 => 0 | 67 => 194 | 69 => 108 | 4 => 4 | 61 => 186 | 60 => 185 | 44 => 191 | 5 => 5 | 9 => 9 | 75 => 205 | 79 => 209 | 83 => 214 | 84 => 215 | n => n, fun | n => n⟩
theorem Tryz.sort64 : Go.Proofs.SlLaysN.n53 Tryz.prog Tryz.sort64_ren := {
  mixed := by kernel_rfl
  f53 := ⟨Tryz.f171.name, by decide, Tryz.func171.trans (congrArg some (by kernel_rfl))⟩
  f59 := ⟨Tryz.f191.name, by decide, Tryz.func191.trans (congrArg some (by kernel_rfl))⟩
  f63 := ⟨Tryz.f183.name, by decide, Tryz.func183.trans (congrArg some (by kernel_rfl))⟩
  f64 := Tryz.func135.trans (congrArg some (by kernel_rfl))
  f68 := ⟨Tryz.f197.name, by decide, Tryz.func197.trans (congrArg some (by kernel_rfl))⟩
  f70 := ⟨Tryz.f185.name, by decide, Tryz.func185.trans (congrArg some (by kernel_rfl))⟩
  f71 := ⟨Tryz.f186.name, by decide, Tryz.func186.trans (congrArg some (by kernel_rfl))⟩
  f72 := ⟨Tryz.f187.name, by decide, Tryz.func187.trans (congrArg some (by kernel_rfl))⟩
  f73 := ⟨Tryz.f188.name, by decide, Tryz.func188.trans (congrArg some (by kernel_rfl))⟩
  f74 := ⟨Tryz.f189.name, by decide, Tryz.func189.trans (congrArg some (by kernel_rfl))⟩
  f75 := ⟨Tryz.f190.name, by decide, Tryz.func190.trans (congrArg some (by kernel_rfl))⟩
  f76 := ⟨Tryz.f192.name, by decide, Tryz.func192.trans (congrArg some (by kernel_rfl))⟩
  f77 := ⟨Tryz.f193.name, by decide, Tryz.func193.trans (congrArg some (by kernel_rfl))⟩
  f78 := Tryz.func161.trans (congrArg some (by kernel_rfl))
  f79 := Tryz.func162.trans (congrArg some (by kernel_rfl))
  f88 := ⟨Tryz.f194.name, by decide, Tryz.func194.trans (congrArg some (by kernel_rfl))⟩
  f89 := Tryz.func175.trans (congrArg some (by kernel_rfl))
  f90 := Tryz.func176.trans (congrArg some (by kernel_rfl))
  f91 := ⟨Tryz.f195.name, by decide, Tryz.func195.trans (congrArg some (by kernel_rfl))⟩
  f92 := ⟨Tryz.f196.name, by decide, Tryz.func196.trans (congrArg some (by kernel_rfl))⟩
  f96 := ⟨Tryz.f198.name, by decide, Tryz.func198.trans (congrArg some (by kernel_rfl))⟩
  t0 := Tryz.underlying0
  a0 := Tryz.isAgg0
  z0 := Tryz.sizeOf0
  v0 := Tryz.zeroValue0
  t3 := Tryz.underlying3
  a3 := Tryz.isAgg3
  z3 := Tryz.sizeOf3
  v3 := Tryz.zeroValue3
  t4 := Tryz.underlying4
  a4 := Tryz.isAgg4
  z4 := Tryz.sizeOf4
  v4 := Tryz.zeroValue4
  t5 := Tryz.underlying5
  a5 := Tryz.isAgg5
  z5 := Tryz.sizeOf5
  v5 := Tryz.zeroValue5
  t9 := Tryz.underlying9
  a9 := Tryz.isAgg9
  z9 := Tryz.sizeOf9
  v9 := Tryz.zeroValue9
  t22 := Tryz.underlying48
  a22 := Tryz.isAgg48
  z22 := Tryz.sizeOf48
  v22 := Tryz.zeroValue48
  t23 := Tryz.underlying2
  a23 := Tryz.isAgg2
  z23 := Tryz.sizeOf2
  v23 := Tryz.zeroValue2
  t44 := Tryz.underlying191
  a44 := Tryz.isAgg191
  z44 := Tryz.sizeOf191
  v44 := Tryz.zeroValue191
  t51 := Tryz.underlying169
  a51 := Tryz.isAgg169
  z51 := Tryz.sizeOf169
  v51 := Tryz.zeroValue169
  t60 := Tryz.underlying185
  a60 := Tryz.isAgg185
  z60 := Tryz.sizeOf185
  v60 := Tryz.zeroValue185
  t61 := Tryz.underlying186
  a61 := Tryz.isAgg186
  z61 := Tryz.sizeOf186
  v61 := Tryz.zeroValue186
  t67 := Tryz.underlying194
  a67 := Tryz.isAgg194
  z67 := Tryz.sizeOf194
  v67 := Tryz.zeroValue194
  t69 := Tryz.underlying108
  a69 := Tryz.isAgg108
  z69 := Tryz.sizeOf108
  v69 := Tryz.zeroValue108
  t75 := Tryz.underlying205
  a75 := Tryz.isAgg205
  z75 := Tryz.sizeOf205
  v75 := Tryz.zeroValue205
  t79 := Tryz.underlying209
  a79 := Tryz.isAgg209
  z79 := Tryz.sizeOf209
  v79 := Tryz.zeroValue209
  t83 := Tryz.underlying214
  a83 := Tryz.isAgg214
  z83 := Tryz.sizeOf214
  v83 := Tryz.zeroValue214
  t84 := Tryz.underlying215
  a84 := Tryz.isAgg215
  z84 := Tryz.sizeOf215
  v84 := Tryz.zeroValue215 }
def Tryz.delete64_ren : Go.Shelf.Ren := ⟨fun | 45 => 173 | n => n, fun | 22 => 48 | 23 => 2 | 3 => 3 | 4 => 4 | 0 => 0 | n => n, fun | n => n⟩
theorem Tryz.delete64 : Go.Proofs.SlLaysN.n45 Tryz.prog Tryz.delete64_ren := {
  mixed := by kernel_rfl
  f45 := ⟨Tryz.f173.name, by decide, Tryz.func173.trans (congrArg some (by kernel_rfl))⟩
  t0 := Tryz.underlying0
  a0 := Tryz.isAgg0
  z0 := Tryz.sizeOf0
  v0 := Tryz.zeroValue0
  t3 := Tryz.underlying3
  a3 := Tryz.isAgg3
  z3 := Tryz.sizeOf3
  v3 := Tryz.zeroValue3
  t4 := Tryz.underlying4
  a4 := Tryz.isAgg4
  z4 := Tryz.sizeOf4
  v4 := Tryz.zeroValue4
  t22 := Tryz.underlying48
  a22 := Tryz.isAgg48
  z22 := Tryz.sizeOf48
  v22 := Tryz.zeroValue48
  t23 := Tryz.underlying2
  a23 := Tryz.isAgg2
  z23 := Tryz.sizeOf2
  v23 := Tryz.zeroValue2
  i23 := by kernel_rfl }
def Tryz.index64_ren : Go.Shelf.Ren := ⟨fun | 29 => 172 | n => n, fun | 22 => 48 | 23 => 2 | 3 => 3 | 0 => 0 | 4 => 4 | n => n, fun | n => n⟩
theorem Tryz.index64 : Go.Proofs.SlLaysN.n29 Tryz.prog Tryz.index64_ren := {
  mixed := by kernel_rfl
  f29 := ⟨Tryz.f172.name, by decide, Tryz.func172.trans (congrArg some (by kernel_rfl))⟩
  t0 := Tryz.underlying0
  a0 := Tryz.isAgg0
  z0 := Tryz.sizeOf0
  v0 := Tryz.zeroValue0
  t3 := Tryz.underlying3
  a3 := Tryz.isAgg3
  z3 := Tryz.sizeOf3
  v3 := Tryz.zeroValue3
  t4 := Tryz.underlying4
  a4 := Tryz.isAgg4
  z4 := Tryz.sizeOf4
  v4 := Tryz.zeroValue4
  t22 := Tryz.underlying48
  a22 := Tryz.isAgg48
  z22 := Tryz.sizeOf48
  v22 := Tryz.zeroValue48
  t23 := Tryz.underlying2
  a23 := Tryz.isAgg2
  z23 := Tryz.sizeOf2
  v23 := Tryz.zeroValue2 }
def Tryz.sortI_ren : Go.Shelf.Ren := ⟨fun | 53 => 98 | 64 => 135 | 63 => 134 | 78 => 161 | 79 => 162 | 70 => 152 | 71 => 153 | 72 => 154 | 73 => 155 | 74 => 156 | 75 => 157 | 59 => 158 | 76 => 159 | 77 => 160 | 88 => 174 | 89 => 175 | 90 => 176 | 91 => 177 | 92 => 178 | 68 => 179 | 96 => 184 | n => n, fun | 22 => 35 | 23 => 3 | 3 => 3 | 51 => 169 | 0 => 0 | 67 => 194 | 69 => 108 | 4 => 4 | 61 => 186 | 60 => 185 | 44 => 191 | 5 => 5 | 9 => 9 | 75 => 205 | 79 => 209 | 83 => 214 | 84 => 215 | n => n, fun | n => n⟩
theorem Tryz.sortI : Go.Proofs.SlLaysN.n53 Tryz.prog Tryz.sortI_ren := {
  mixed := by kernel_rfl
  f53 := ⟨Tryz.f98.name, by decide, Tryz.func98.trans (congrArg some (by kernel_rfl))⟩
  f59 := ⟨Tryz.f158.name, by decide, Tryz.func158.trans (congrArg some (by kernel_rfl))⟩
  f63 := ⟨Tryz.f134.name, by decide, Tryz.func134.trans (congrArg some (by kernel_rfl))⟩
  f64 := Tryz.func135.trans (congrArg some (by kernel_rfl))
  f68 := ⟨Tryz.f179.name, by decide, Tryz.func179.trans (congrArg some (by kernel_rfl))⟩
  f70 := ⟨Tryz.f152.name, by decide, Tryz.func152.trans (congrArg some (by kernel_rfl))⟩
  f71 := ⟨Tryz.f153.name, by decide, Tryz.func153.trans (congrArg some (by kernel_rfl))⟩
  f72 := ⟨Tryz.f154.name, by decide, Tryz.func154.trans (congrArg some (by kernel_rfl))⟩
  f73 := ⟨Tryz.f155.name, by decide, Tryz.func155.trans (congrArg some (by kernel_rfl))⟩
  f74 := ⟨Tryz.f156.name, by decide, Tryz.func156.trans (congrArg some (by kernel_rfl))⟩
  f75 := ⟨Tryz.f157.name, by decide, Tryz.func157.trans (congrArg some (by kernel_rfl))⟩
  f76 := ⟨Tryz.f159.name, by decide, Tryz.func159.trans (congrArg some (by kernel_rfl))⟩
  f77 := ⟨Tryz.f160.name, by decide, Tryz.func160.trans (congrArg some (by kernel_rfl))⟩
  f78 := Tryz.func161.trans (congrArg some (by kernel_rfl))
  f79 := Tryz.func162.trans (congrArg some (by kernel_rfl))
  f88 := ⟨Tryz.f174.name, by decide, Tryz.func174.trans (congrArg some (by kernel_rfl))⟩
  f89 := Tryz.func175.trans (congrArg some (by kernel_rfl))
  f90 := Tryz.func176.trans (congrArg some (by kernel_rfl))
  f91 := ⟨Tryz.f177.name, by decide, Tryz.func177.trans (congrArg some (by kernel_rfl))⟩
  f92 := ⟨Tryz.f178.name, by decide, Tryz.func178.trans (congrArg some (by kernel_rfl))⟩
  f96 := ⟨Tryz.f184.name, by decide, Tryz.func184.trans (congrArg some (by kernel_rfl))⟩
  t0 := Tryz.underlying0
  a0 := Tryz.isAgg0
  z0 := Tryz.sizeOf0
  v0 := Tryz.zeroValue0
  t3 := Tryz.underlying3
  a3 := Tryz.isAgg3
  z3 := Tryz.sizeOf3
  v3 := Tryz.zeroValue3
  t4 := Tryz.underlying4
  a4 := Tryz.isAgg4
  z4 := Tryz.sizeOf4
  v4 := Tryz.zeroValue4
  t5 := Tryz.underlying5
  a5 := Tryz.isAgg5
  z5 := Tryz.sizeOf5
  v5 := Tryz.zeroValue5
  t9 := Tryz.underlying9
  a9 := Tryz.isAgg9
  z9 := Tryz.sizeOf9
  v9 := Tryz.zeroValue9
  t22 := Tryz.underlying35
  a22 := Tryz.isAgg35
  z22 := Tryz.sizeOf35
  v22 := Tryz.zeroValue35
  t23 := Tryz.underlying3
  a23 := Tryz.isAgg3
  z23 := Tryz.sizeOf3
  v23 := Tryz.zeroValue3
  t44 := Tryz.underlying191
  a44 := Tryz.isAgg191
  z44 := Tryz.sizeOf191
  v44 := Tryz.zeroValue191
  t51 := Tryz.underlying169
  a51 := Tryz.isAgg169
  z51 := Tryz.sizeOf169
  v51 := Tryz.zeroValue169
  t60 := Tryz.underlying185
  a60 := Tryz.isAgg185
  z60 := Tryz.sizeOf185
  v60 := Tryz.zeroValue185
  t61 := Tryz.underlying186
  a61 := Tryz.isAgg186
  z61 := Tryz.sizeOf186
  v61 := Tryz.zeroValue186
  t67 := Tryz.underlying194
  a67 := Tryz.isAgg194
  z67 := Tryz.sizeOf194
  v67 := Tryz.zeroValue194
  t69 := Tryz.underlying108
  a69 := Tryz.isAgg108
  z69 := Tryz.sizeOf108
  v69 := Tryz.zeroValue108
  t75 := Tryz.underlying205
  a75 := Tryz.isAgg205
  z75 := Tryz.sizeOf205
  v75 := Tryz.zeroValue205
  t79 := Tryz.underlying209
  a79 := Tryz.isAgg209
  z79 := Tryz.sizeOf209
  v79 := Tryz.zeroValue209
  t83 := Tryz.underlying214
  a83 := Tryz.isAgg214
  z83 := Tryz.sizeOf214
  v83 := Tryz.zeroValue214
  t84 := Tryz.underlying215
  a84 := Tryz.isAgg215
  z84 := Tryz.sizeOf215
  v84 := Tryz.zeroValue215 }
end Go.Proofs
end
section
namespace Go.Proofs.YtkehgingagggaaaGreat.K
open Go.ChangeShapes Go.WideShapes Go.ChangeAt Go.RowKit Go.Sort
set_option linter.unusedVariables false
set_option linter.unusedSimpArgs false
def sortP (l : List Int) : List Int := l.mergeSort fun x y => decide (x ≤ y)
def pinR (hi : Bool) (fl at0 nd : Int) (pins : List Int) : List Int × Int := if reachR hi fl at0 nd = 0 then (sortP (pins ++ [at0]),0) else (pins,reachR hi fl at0 nd)
def unpinR (hi : Bool) (at0 : Int) (pins : List Int) : List Int × Int := if hi = true ∨ Lib.idxOf pins at0 < 0 then (pins,28) else (pins.take (Lib.idxOf pins at0).toNat ++ pins.drop ((Lib.idxOf pins at0).toNat + 1),0)
set_option maxRecDepth 100000
set_option maxHeartbeats 4000000
end Go.Proofs.YtkehgingagggaaaGreat.K
end
