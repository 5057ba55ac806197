/- General laws of walks. -/
import Derived.Test.YtkehgingagggaaaGreatG15
namespace Go.Proofs.YtkehgingagggaaaGreat.K
open Go.ChangeShapes Go.WideShapes Go.ChangeAt Go.RowKit
set_option linter.unusedVariables false
set_option linter.unusedSimpArgs false
section
structure Cm where
 kd : Int
 vo : Int
 bl : Int
 sz : Int
 pe : Int
 pl : List Int
 to : Int
 at0 : Int
 ix : Int
 its : List (Int × List Int)
structure CmdR (x : Cm) : Prop where
 kd : 1 ≤ x.kd ∧ x.kd ≤ 8
 vo : 0 ≤ x.vo ∧ x.vo ≤ 7
 t40 : (0 ≤ x.bl ∧ x.bl ≤ 1099511627776) ∧ (0 ≤ x.sz ∧ x.sz ≤ 1099511627776) ∧ (0 ≤ x.pe ∧ x.pe ≤ 1099511627776) ∧ (0 ≤ x.to ∧ x.to ≤ 1099511627776) ∧ (0 ≤ x.at0 ∧ x.at0 ≤ 1099511627776) ∧ (0 ≤ x.ix ∧ x.ix ≤ 1099511627776)
 pl : x.pl.length ≤ 256
 pb : ∀ z ∈ x.pl,0 ≤ z ∧ z ≤ 7
 il : x.its.length ≤ 8
 ib : ∀ e ∈ x.its,(0 ≤ e.1 ∧ e.1 ≤ 255) ∧ e.2.length ≤ 32
theorem CmdR.ok {x : Cm} (h : CmdR x) (hb : ∀ e ∈ x.its,BytesL e.2) : CmdOk x.kd x.vo x.bl x.sz x.pe x.to x.at0 x.ix x.pl x.its :=
 ⟨h.kd,h.vo,h.t40,h.pl,fun k hk => h.pb _ (by rw [List.getD,List.getElem?_eq_getElem hk]; exact List.getElem_mem hk),h.il,h.ib,hb⟩
theorem CmdOk.r {x : Cm} (h : CmdOk x.kd x.vo x.bl x.sz x.pe x.to x.at0 x.ix x.pl x.its) : CmdR x :=
 ⟨h.kd,h.vo,h.t40,h.pl,fun z hz => by obtain ⟨k,hk,e⟩ := List.mem_iff_getElem.1 hz; have := h.pb k hk; rw [List.getD,List.getElem?_eq_getElem hk,e] at this; exact this,h.il,h.ib⟩
def cmE (x : Cm) : List Int := cmdE x.kd x.vo x.bl x.sz x.pe x.to x.at0 x.ix x.pl x.its
def inB (mo : Int) (l : List Int) : Bool := l.all (fun z => decide (0 ≤ z) && decide (z ≤ mo))
theorem inB_iff {mo : Int} {l : List Int} : inB mo l = true ↔ ∀ z ∈ l,0 ≤ z ∧ z ≤ mo := by simp [inB,List.all_eq_true]
theorem inB_of {mo : Int} {l : List Int} (h : ∀ z ∈ l,0 ≤ z ∧ z ≤ mo) : inB mo l = true := inB_iff.2 h
theorem inB_out {mo : Int} {l : List Int} (h : inB mo l = true) : ∀ z ∈ l,0 ≤ z ∧ z ≤ mo := inB_iff.1 h
theorem inB_1 {mo a : Int} : inB mo [a] = true ↔ 0 ≤ a ∧ a ≤ mo := by simp [inB]
theorem inB_6 {mo a b c d e f : Int} : inB mo [a,b,c,d,e,f] = true ↔ (0 ≤ a ∧ a ≤ mo) ∧ (0 ≤ b ∧ b ≤ mo) ∧ (0 ≤ c ∧ c ≤ mo) ∧ (0 ≤ d ∧ d ≤ mo) ∧ (0 ≤ e ∧ e ≤ mo) ∧ 0 ≤ f ∧ f ≤ mo := by simp [inB]
theorem inB_no {mo : Int} {l : List Int} {k : Nat} (hk : k < l.length) (h : l.getD k 0 < 0 ∨ mo < l.getD k 0) : inB mo l = false := by
 cases hb : inB mo l with
 | false => rfl
 | true =>
   have := inB_iff.1 hb (l.getD k 0) (by rw [List.getD,List.getElem?_eq_getElem hk]; exact List.getElem_mem hk)
   omega
theorem inB_step {mo : Int} {l : List Int} {k : Nat} (h : inB mo (l.take k) = true) (hk : k < l.length) (h1 : 0 ≤ l.getD k 0) (h2 : l.getD k 0 ≤ mo) : inB mo (l.take (k + 1)) = true := by
 rw [List.getD,List.getElem?_eq_getElem hk] at h1 h2
 rw [List.take_add_one,List.getElem?_eq_getElem hk]
 refine inB_iff.2 (fun z hz =>?_)
 rcases List.mem_append.1 hz with hz | hz
 · exact inB_iff.1 h z hz
 simp at hz; subst hz; exact ⟨h1,h2⟩
theorem inB_all {mo : Int} {l : List Int} {k : Nat} (h : inB mo (l.take k) = true) (hk : l.length ≤ k) : inB mo l = true := by rwa [List.take_of_length_le hk] at h
theorem snoc_all {α : Type} {l : List α} {k : Nat} {x : α} {Q : α → Prop} (h : ∀ e ∈ l.take k,Q e) (hx : l[k]? = some x) (hq : Q x) : ∀ e ∈ l.take (k + 1),Q e := fun e he => by
 rw [List.take_add_one,hx] at he
 rcases List.mem_append.1 he with he | he
 · exact h e he
 simp at he; subst he; exact hq
theorem itE_len1 (xb : Int) (xd : List Int) (h : (0 ≤ xb ∧ xb ≤ 255) ∧ xd.length ≤ 32) : (itemE (xb,xd)).length ≤ 60 := by
 unfold itemE
 have := (enc_len xb).1
 have := (enc_len (xd.length : Int)).1
 simp only [List.length_append]
 omega
theorem itE_snoc {its : List (Int × List Int)} {k : Nat} {x : Int × List Int} (h : its[k]? = some x) : enc (its.length : Int) ++ itemsE (its.take k) ++ itemE x = enc (its.length : Int) ++ itemsE (its.take (k + 1)) := by
 rw [List.take_add_one,h,itemsE,itemsE,List.flatMap_append,List.append_assoc]; simp
theorem itemsE_le : ∀ (its : List (Int × List Int)),(∀ e ∈ its,(0 ≤ e.1 ∧ e.1 ≤ 255) ∧ e.2.length ≤ 32) → (itemsE its).length ≤ 60 * its.length
 | [],_ => by simp [itemsE]
 | e :: l,h => by
   have : (itemE e).length ≤ 60 := itE_len1 e.1 e.2 (h e List.mem_cons_self)
   have := itemsE_le l (fun e he => h e (List.mem_cons_of_mem _ he))
   simp only [itemsE,List.flatMap_cons,List.length_append,List.length_cons] at *
   omega
theorem itemsE_take (its : List (Int × List Int)) (k : Nat) (h : ∀ e ∈ its,(0 ≤ e.1 ∧ e.1 ≤ 255) ∧ e.2.length ≤ 32) : (enc (its.length : Int) ++ itemsE (its.take k)).length ≤ 60 * its.length + 10 := by
 have h1 := itemsE_le (its.take k) (fun e he => h e (List.mem_of_mem_take he))
 have := (enc_len (its.length : Int)).1
 rw [List.length_take] at h1
 simp only [List.length_append]
 omega
theorem cmE_flat (x : Cm) : [encs [x.kd,x.vo,x.bl,x.sz,x.pe,x.to,x.at0,x.ix],encs [(x.pl.length : Int)] ++ encs x.pl,enc (x.its.length : Int) ++ itemsE x.its].flatten = cmE x := by
 simp [cmE,cmdE,encs]
theorem cmE_sum {x : Cm} (h : CmdR x) : sumLen [encs [x.kd,x.vo,x.bl,x.sz,x.pe,x.to,x.at0,x.ix],encs [(x.pl.length : Int)] ++ encs x.pl,enc (x.its.length : Int) ++ itemsE x.its] ≤ 1000000 := by
 have h1 := encs_len [x.kd,x.vo,x.bl,x.sz,x.pe,x.to,x.at0,x.ix]
 have h2 := encs_len [(x.pl.length : Int)]
 have h3 := encs_len x.pl
 have h4 := itemsE_le x.its h.ib
 have h5 := (enc_len (x.its.length : Int)).1
 have := h.pl; have := h.il
 simp only [sumLen,List.flatten_cons,List.flatten_nil,List.length_append,List.length_nil,List.length_cons] at *
 omega
set_option maxRecDepth 100000
set_option maxHeartbeats 4000000
theorem within_b (mo : Int) (l : List Int) (p : Option Addr) (c : Nat) (w0 : World) (hl : l.length ≤ 1000000) (h0 : Rd (fun _ => True) w0 (.slice p l.length c) (.ns .i64 l)) :
   Calls Tryz.prog 71 #[.int .i64 mo,.slice p l.length c] w0 fun e w' => e = .returned (.bool (inB mo l)) ∧ Below w0.heap.size w0 w' := by
 refine ent2 Tryz.func71 rfl Tryz.ntmps71 fun Y U =>?_
 have m0 := MemOk.start (fun _ => False) w0
 refine regS U (.assign rfl .nil) fun Y U =>?_
 refine wsk fun K0 hK0 =>?_
 refine regS U (.move rfl<|.len rfl U35<|.move rfl .nil) fun Y U =>?_
 refine wp_block ?_
 refine wp_loop_ghost (fun g a w => ∃ k : Nat,k ≤ l.length ∧ inB mo (l.take k) = true ∧ g = l.length - k ∧ Has 21 [(0,.int .i64 mo),(1,.slice p l.length c),(7,.slice p l.length c),(8,.int .i64 l.length),(9,.int .i64 k)] a ∧ MemOk (cn w0) w0 [] w) (l.length) ?_ ?_
 · exact ⟨0,Nat.zero_le _,rfl,rfl,U.only [0,1,7,8,9],m0.only []⟩
 clear U m0
 rintro g Y w5 ⟨k,hkl,hin,hg,U,m5⟩
 refine regS U (.lss rfl rfl .nil) fun Y U =>?_
 refine wsk fun K1 hK1 =>?_
 refine bc U 10 ?_ ?_
 ·
  intro hb7 U; try simp only [QQ,Qax] at hb7
  have hk : k < l.length := by omega
  refine wct U ?_
  refine zss (hK1 _ _ ?_)
  refine wsk fun K2 hK2 =>?_
  refine wp_block ?_
  refine zsr fun K3 hK3 =>?_
  obtain ⟨gx9,ox9,hp9,hl9,hrg9⟩ := h0.extN (k) hk
  revert U
  cases hp9
  intro U
  refine gz hK3 U (.c rfl (fun _ h_ => y_idx h_ rfl rfl U35 fct17 (k) rfl hk)<|.loadAt1 (hrg9 m5 rfl) (q := 0) rfl rfl rfl U3 rfl<|.assign rfl<|.nil) fun Y U =>?_
  refine zsr fun K4 hK4 =>?_
  refine goCh U (.move rfl<|.lss rfl rfl<|.move rfl .nil) fun Y U =>?_
  refine bc U 15 ?_ ?_
  ·
   intro hb19 U; try simp only [QQ,Qax] at hb19
   have hR : inB mo l = false := inB_no hk (.inl hb19)
   refine gz hK4 U (.sk<|.sk<|.sk<|.pickT rfl rfl<|.nil) fun Y U =>?_
   refine wct U ?_
   replace U := U.oz [0,1,7,8,9]
   refine regS U (.assign rfl .nil) fun Y U =>?_
   refine rt1 U ?_
   exact ⟨by rw [hR],m5.below⟩
  intro hb19 U; try simp only [QQ,Qax] at hb19
  have h0k := hb19
  refine gz hK4 U (.moveZ rfl<|.moveZ rfl<|.gtrZ rfl rfl<|.pickF rfl rfl<|.nil) fun Y U =>?_
  refine bc U 19 ?_ ?_
  ·
   intro hb30 U; try simp only [QQ,Qax] at hb30
   have hR : inB mo l = false := inB_no hk (.inr hb30)
   refine wct U ?_
   replace U := U.oz [0,1,7,8,9]
   refine regS U (.assign rfl .nil) fun Y U =>?_
   refine rt1 U ?_
   exact ⟨by rw [hR],m5.below⟩
  intro hb30 U; try simp only [QQ,Qax] at hb30
  have hst := inB_step hin hk (by omega) (by omega)
  refine wcf U ?_
  refine zss (hK2 _ _ ?_)
  replace U := U.oz [0,1,7,8,9]
  refine wp_region_lit ?_
  refine goCh U (.inc (k + 1)<|.move rfl .nil) fun Y U =>?_
  refine wpList_nil ?_
  show ∃ n',n' < _ ∧ _
  exact ⟨l.length - (k + 1),by omega,k + 1,by omega,hst,rfl,U.only [0,1,7,8,9],m5.only []⟩
 intro hb7 U; try simp only [QQ,Qax] at hb7
 have hR : inB mo l = true := inB_all hin (by omega)
 refine wcf U ?_
 refine wp_exit ?_
 refine hK0 _ _ ?_
 refine regS U (.assign rfl .nil) fun Y U =>?_
 refine rt1 U ?_
 exact ⟨by rw [hR],m5.below⟩
theorem cmdRight_b (x : Cm) (pp pi : Option Addr) (cp ni ci : Nat) (w0 : World) (h0 : Rd (fun _ => True) w0 (.slice pp x.pl.length cp) (.ns .i64 x.pl)) (h1 : Rd (fun _ => True) w0 (.slice pi ni ci) (.l 2 (x.its.map itD))) :
   Calls Tryz.prog 26 #[.agg #[.int .i64 x.kd,.int .i64 x.vo,.int .i64 x.bl,.int .i64 x.sz,.int .i64 x.pe,.slice pp x.pl.length cp,.int .i64 x.to,.int .i64 x.at0,.int .i64 x.ix,.slice pi ni ci]] w0 fun e w' => ∃ b : Bool,e = .returned (.bool b) ∧ (b = true ↔ CmdR x) ∧ Below w0.heap.size w0 w' := by
 obtain rfl : ni = x.its.length := by obtain ⟨pq,cq,hv,_⟩ := h1.l_shape; injection hv with _ e2 _; rw [List.length_map] at e2; exact e2
 refine ent1 Tryz.func26 rfl Tryz.ntmps26 fun Y U =>?_
 have m0 := MemOk.start (fun _ => False) w0
 refine zsr fun K0 hK0 =>?_
 refine plz (e_box U m0 20 (cs := [_,_,_,_,_,_,_,_,_,_]) rfl rfl rfl fun g1 Y w2 U m2 _ _ =>?_)
 refine gz hK0 U (.assign rfl .nil) fun Y U =>?_
 refine wsk fun K1 hK1 =>?_
 refine zsr fun K2 hK2 =>?_
 refine goCh U (.fa 0 rfl U38<|.lb m2 20 U3 rfl rfl rfl<|.lss rfl rfl<|.move rfl .nil) fun Y U =>?_
 refine bc U 8 ?_ ?_
 ·
  intro hb12 U; try simp only [QQ,Qax] at hb12
  have hN : ¬ CmdR x := fun h9 => by have := h9.kd; omega
  refine gz hK2 U (.sk<|.sk<|.sk<|.pickT rfl rfl<|.move rfl<|.sk<|.sk<|.sk<|.sk<|.sk<|.pickT rfl rfl<|.nil) fun Y U =>?_
  refine wct U ?_
  replace U := U.oz [1,2]
  refine regS U (.assign rfl .nil) fun Y U =>?_
  refine rt1 U ?_
  exact ⟨false,rfl,⟨fun h9 => (Bool.false_ne_true h9).elim,fun h9 => (hN h9).elim⟩,m2.below⟩
 intro hb12 U; try simp only [QQ,Qax] at hb12
 have hk1 := hb12
 refine goCh U (.faZ 0 rfl U38<|.loadB1Z m2 (i := 20) rfl rfl rfl U3 rfl<|.gtrZ rfl rfl<|.pickF rfl rfl<|.move rfl .nil) fun Y U =>?_
 refine bc U 13 ?_ ?_
 ·
  intro hb31 U; try simp only [QQ,Qax] at hb31
  have hN : ¬ CmdR x := fun h9 => by have := h9.kd; omega
  refine gz hK2 U (.sk<|.sk<|.sk<|.sk<|.sk<|.pickT rfl rfl<|.nil) fun Y U =>?_
  refine wct U ?_
  replace U := U.oz [1,2]
  refine regS U (.assign rfl .nil) fun Y U =>?_
  refine rt1 U ?_
  exact ⟨false,rfl,⟨fun h9 => (Bool.false_ne_true h9).elim,fun h9 => (hN h9).elim⟩,m2.below⟩
 intro hb31 U; try simp only [QQ,Qax] at hb31
 have hk2 := hb31
 refine goCh U (.faZ 1 rfl U38<|.loadB1Z m2 (i := 20) rfl rfl rfl U3 rfl .nil) fun Y U =>?_
 refine stz U (e_litN U m2 21 (k := .i64) rfl rfl U35 fct16 rfl rfl rfl rfl fun g42 Y w43 U m43 =>?_)
 have m44 := m43.freezeN 21 rfl
 refine stz U (ecb U Tryz.func71 rfl m44 (within_b 7 [x.vo] _ _ _ (by first | exact hpl9 | simp) ((m44.rd (i := 21) rfl).any)) fun Y w45 U m46 =>?_)
 refine gz hK2 U (.notZ rfl<|.pickF rfl rfl<|.nil) fun Y U =>?_
 refine bc U 19 ?_ ?_
 ·
  intro hb50 U; try simp only [QQ,Qax] at hb50
  have hN : ¬ CmdR x := fun h9 => by rw [inB_1.2 h9.vo] at hb50; cases hb50
  refine wct U ?_
  replace U := U.oz [1,2]
  refine regS U (.assign rfl .nil) fun Y U =>?_
  refine rt1 U ?_
  exact ⟨false,rfl,⟨fun h9 => (Bool.false_ne_true h9).elim,fun h9 => (hN h9).elim⟩,m46.below⟩
 intro hb50 U; try simp only [QQ,Qax] at hb50
 have hvo := inB_1.1 hb50
 refine wcf U ?_
 refine zss (hK1 _ _ ?_)
 refine wsk fun K3 hK3 =>?_
 replace U := U.oz [1,2]
 refine zsr fun K4 hK4 =>?_
 refine goCh U (.fa 2 rfl U38<|.lb m46 20 U3 rfl rfl rfl<|.fa 3 rfl U38<|.lb m46 20 U3 rfl rfl rfl<|.fa 4 rfl U38<|.lb m46 20 U3 rfl rfl rfl<|.fa 6 rfl U38<|.lb m46 20 U3 rfl rfl rfl<|.fa 8 rfl U38<|.lb m46 20 U3 rfl rfl rfl<|.fa 7 rfl U38<|.lb m46 20 U2 rfl rfl rfl .nil) fun Y U =>?_
 refine plz (e_litN U m46 22 (k := .i64) rfl rfl U35 fct16 rfl rfl rfl rfl fun g78 Y w79 U m79 =>?_)
 have m80 := m79.freezeN 22 rfl
 refine plz (ecb U Tryz.func71 rfl m80 (within_b 1099511627776 [x.bl,x.sz,x.pe,x.to,x.ix,x.at0] _ _ _ (by first | exact hpl9 | simp) ((m80.rd (i := 22) rfl).any)) fun Y w81 U m82 =>?_)
 refine gz hK4 U (.not rfl .nil) fun Y U =>?_
 refine bc U 34 ?_ ?_
 ·
  intro hb85 U; try simp only [QQ,Qax] at hb85
  have hN : ¬ CmdR x := fun h9 => by have h6 := h9.t40; rw [inB_6.2 ⟨h6.1,h6.2.1,h6.2.2.1,h6.2.2.2.1,h6.2.2.2.2.2,h6.2.2.2.2.1⟩] at hb85; cases hb85
  refine wct U ?_
  replace U := U.oz [1,2]
  refine regS U (.assign rfl .nil) fun Y U =>?_
  refine rt1 U ?_
  exact ⟨false,rfl,⟨fun h9 => (Bool.false_ne_true h9).elim,fun h9 => (hN h9).elim⟩,m82.below⟩
 intro hb85 U; try simp only [QQ,Qax] at hb85
 have ht40 := inB_6.1 hb85
 refine wcf U ?_
 refine zss (hK3 _ _ ?_)
 refine wsk fun K5 hK5 =>?_
 replace U := U.oz [1,2]
 refine zsr fun K6 hK6 =>?_
 refine goCh U (.fa 5 rfl U38<|.lb m82 20 U35 rfl rfl rfl<|.len rfl U35<|.gtr rfl rfl<|.move rfl .nil) fun Y U =>?_
 refine bc U 39 ?_ ?_
 ·
  intro hb99 U; try simp only [QQ,Qax] at hb99
  have hN : ¬ CmdR x := fun h9 => by have := h9.pl; omega
  refine gz hK6 U (.sk<|.sk<|.sk<|.sk<|.pickT rfl rfl<|.move rfl<|.sk<|.sk<|.sk<|.sk<|.pickT rfl rfl<|.nil) fun Y U =>?_
  refine wct U ?_
  replace U := U.oz [1,2]
  refine regS U (.assign rfl .nil) fun Y U =>?_
  refine rt1 U ?_
  exact ⟨false,rfl,⟨fun h9 => (Bool.false_ne_true h9).elim,fun h9 => (hN h9).elim⟩,m82.below⟩
 intro hb99 U; try simp only [QQ,Qax] at hb99
 have hpl9 : x.pl.length ≤ 1000000 := by omega
 have hpl := hb99
 refine goCh U (.faZ 5 rfl U38<|.loadB1Z m82 (i := 20) rfl rfl rfl U35 rfl .nil) fun Y U =>?_
 refine stz U (ecb U Tryz.func71 rfl m82 (within_b 7 x.pl _ _ _ (by first | exact hpl9 | simp) ((h0.now' m82 rfl).any)) fun Y w115 U m116 =>?_)
 refine goCh U (.notZ rfl<|.pickF rfl rfl<|.move rfl .nil) fun Y U =>?_
 refine bc U 45 ?_ ?_
 ·
  intro hb121 U; try simp only [QQ,Qax] at hb121
  have hN : ¬ CmdR x := fun h9 => by rw [inB_of h9.pb] at hb121; cases hb121
  refine gz hK6 U (.sk<|.sk<|.sk<|.sk<|.pickT rfl rfl<|.nil) fun Y U =>?_
  refine wct U ?_
  replace U := U.oz [1,2]
  refine regS U (.assign rfl .nil) fun Y U =>?_
  refine rt1 U ?_
  exact ⟨false,rfl,⟨fun h9 => (Bool.false_ne_true h9).elim,fun h9 => (hN h9).elim⟩,m116.below⟩
 intro hb121 U; try simp only [QQ,Qax] at hb121
 have hpb := inB_out hb121
 refine gz hK6 U (.faZ 9 rfl U38<|.loadB1Z m116 (i := 20) rfl rfl rfl U36 rfl<|.lenZ rfl U36<|.gtrZ rfl rfl<|.pickF rfl rfl<|.nil) fun Y U =>?_
 refine bc U 50 ?_ ?_
 ·
  intro hb134 U; try simp only [QQ,Qax] at hb134
  have hN : ¬ CmdR x := fun h9 => by have := h9.il; omega
  refine wct U ?_
  replace U := U.oz [1,2]
  refine regS U (.assign rfl .nil) fun Y U =>?_
  refine rt1 U ?_
  exact ⟨false,rfl,⟨fun h9 => (Bool.false_ne_true h9).elim,fun h9 => (hN h9).elim⟩,m116.below⟩
 intro hb134 U; try simp only [QQ,Qax] at hb134
 have hil : x.its.length ≤ 8 := by omega
 refine wcf U ?_
 refine zss (hK5 _ _ ?_)
 refine wsk fun K7 hK7 =>?_
 replace U := U.oz [1,2]
 refine regS U (.fa 9 rfl U38<|.lb m116 20 U36 rfl rfl rfl<|.len rfl U36<|.move rfl .nil) fun Y U =>?_
 refine wp_block ?_
 refine wp_loop_ghost (fun g a w => ∃ (k B : Nat),k ≤ x.its.length ∧ (∀ e ∈ x.its.take k,(0 ≤ e.1 ∧ e.1 ≤ 255) ∧ e.2.length ≤ 32) ∧ g = x.its.length - k ∧ Has 70 [(1,.pointer (some ⟨B,0,none⟩)),(52,.slice pi x.its.length ci),(53,.int .i64 x.its.length),(54,.int .i64 k)] a ∧ MemOk (cn w0) w0 [(9,.box B 38 [.int .i64 x.kd,.int .i64 x.vo,.int .i64 x.bl,.int .i64 x.sz,.int .i64 x.pe,.slice pp x.pl.length cp,.int .i64 x.to,.int .i64 x.at0,.int .i64 x.ix,.slice pi x.its.length ci])] w) (x.its.length) ?_ ?_
 · exact ⟨0,_,Nat.zero_le _,(fun e he => by cases he),rfl,U.only [1,52,53,54],m116.ren [(9,20)] (by decide)⟩
 clear U m116
 rintro g Y w142 ⟨k,B,hkl,hib,hg,U,m142⟩
 refine regS U (.lss rfl rfl .nil) fun Y U =>?_
 refine wsk fun K8 hK8 =>?_
 refine bc U 55 ?_ ?_
 ·
  intro hb144 U; try simp only [QQ,Qax] at hb144
  have hk : k < x.its.length := by omega
  obtain ⟨⟨xb,xd⟩,hes⟩ : ∃ e,x.its[k]? = some e := ⟨_,List.getElem?_eq_getElem hk⟩
  refine wct U ?_
  refine zss (hK8 _ _ ?_)
  refine wsk fun K9 hK9 =>?_
  refine wp_block ?_
  refine zsr fun K10 hK10 =>?_
  obtain ⟨gx146,ox146,vx146,hp146,hl146,hR146,hrg146⟩ := h1.extA (k) (r := [.v (.int .i64 xb),.ns .u8 xd]) (itD_get hes)
  revert U
  cases hp146
  rcases hR146 with _ | ⟨hd146_0,_ | ⟨hd146_1,_ | _⟩⟩
  obtain rfl := hd146_0.v_out
  clear hd146_0
  obtain ⟨p147,c147,hv147,hw147⟩ := hd146_1.ns_shape; subst hv147
  intro U
  refine goCh U (.c rfl (fun _ h_ => y_idx h_ rfl rfl U36 fct3 (k) rfl hk)<|.loadAt (hrg146 m142 rfl) rfl U59 rfl fct3 .nil) fun Y U =>?_
  refine plz (e_alloc U m142 101 fct4 rfl fun g150 Y w151 U m151 _ _ =>?_)
  refine plz (stw U m151 101 fct3 fun w152 m152 _ =>?_)
  refine znl (hK10 _ _ ?_)
  refine zsr fun K11 hK11 =>?_
  refine goCh U (.fa 0 rfl U59<|.lb m152 101 U3 rfl rfl rfl .nil) fun Y U =>?_
  refine plz (e_litN U m152 102 (k := .i64) rfl rfl U35 fct16 rfl rfl rfl rfl fun g157 Y w158 U m158 =>?_)
  have m159 := m158.freezeN 102 rfl
  refine plz (ecb U Tryz.func71 rfl m159 (within_b 255 [xb] _ _ _ (by first | exact hpl9 | simp) ((m159.rd (i := 102) rfl).any)) fun Y w160 U m161 =>?_)
  refine goCh U (.not rfl<|.move rfl .nil) fun Y U =>?_
  refine bc U 63 ?_ ?_
  ·
   intro hb165 U; try simp only [QQ,Qax] at hb165
   have hN : ¬ CmdR x := fun h9 => by rw [inB_1.2 (h9.ib _ (List.mem_of_getElem? hes)).1] at hb165; cases hb165
   refine gz hK11 U (.sk<|.sk<|.sk<|.sk<|.pickT rfl rfl<|.nil) fun Y U =>?_
   refine wct U ?_
   replace U := U.oz [1,52,53,54]
   refine regS U (.assign rfl .nil) fun Y U =>?_
   refine rt1 U ?_
   exact ⟨false,rfl,⟨fun h9 => (Bool.false_ne_true h9).elim,fun h9 => (hN h9).elim⟩,m161.below⟩
  intro hb165 U; try simp only [QQ,Qax] at hb165
  have hbk := inB_1.1 hb165
  refine gz hK11 U (.faZ 1 rfl U59<|.loadB1Z m161 (i := 101) rfl rfl rfl U22 rfl<|.lenZ rfl U22<|.gtrZ rfl rfl<|.pickF rfl rfl<|.nil) fun Y U =>?_
  refine bc U 68 ?_ ?_
  ·
   intro hb178 U; try simp only [QQ,Qax] at hb178
   have hN : ¬ CmdR x := fun h9 => by have := h9.ib _ (List.mem_of_getElem? hes); dsimp only at this; omega
   refine wct U ?_
   replace U := U.oz [1,52,53,54]
   refine regS U (.assign rfl .nil) fun Y U =>?_
   refine rt1 U ?_
   exact ⟨false,rfl,⟨fun h9 => (Bool.false_ne_true h9).elim,fun h9 => (hN h9).elim⟩,m161.below⟩
  intro hb178 U; try simp only [QQ,Qax] at hb178
  have hxd := hb178
  refine wcf U ?_
  refine zss (hK9 _ _ ?_)
  replace U := U.oz [1,52,53,54]
  refine wp_region_lit ?_
  refine goCh U (.inc (k + 1)<|.move rfl .nil) fun Y U =>?_
  refine wpList_nil ?_
  show ∃ n',n' < _ ∧ _
  exact ⟨x.its.length - (k + 1),by omega,k + 1,_,by omega,snoc_all hib hes (by dsimp only; omega),rfl,U.only [1,52,53,54],m161.only [9]⟩
 intro hb144 U; try simp only [QQ,Qax] at hb144
 have hY : CmdR x := ⟨by omega,by omega,by omega,by omega,hpb,hil,fun e he => hib e (by rwa [List.take_of_length_le (by omega)])⟩
 refine wcf U ?_
 refine wp_exit ?_
 refine hK7 _ _ ?_
 refine regS U (.assign rfl .nil) fun Y U =>?_
 refine rt1 U ?_
 exact ⟨true,rfl,⟨fun _ => hY,fun _ => rfl⟩,m142.below⟩
theorem cmdRight_yes (x : Cm) (hR : CmdR x) (pp pi : Option Addr) (cp ni ci : Nat) (w0 : World) (h0 : Rd (fun _ => True) w0 (.slice pp x.pl.length cp) (.ns .i64 x.pl)) (h1 : Rd (fun _ => True) w0 (.slice pi ni ci) (.l 2 (x.its.map itD))) :
   Calls Tryz.prog 26 #[.agg #[.int .i64 x.kd,.int .i64 x.vo,.int .i64 x.bl,.int .i64 x.sz,.int .i64 x.pe,.slice pp x.pl.length cp,.int .i64 x.to,.int .i64 x.at0,.int .i64 x.ix,.slice pi ni ci]] w0 fun e w' => e = .returned (.bool true) ∧ Below w0.heap.size w0 w' :=
 (cmdRight_b x pp pi cp ni ci w0 h0 h1).mono fun e w' ⟨b,he,hb,hw⟩ => ⟨by rw [he,hb.2 hR],hw⟩
theorem cmdRight_no (x : Cm) (hR : ¬ CmdR x) (pp pi : Option Addr) (cp ni ci : Nat) (w0 : World) (h0 : Rd (fun _ => True) w0 (.slice pp x.pl.length cp) (.ns .i64 x.pl)) (h1 : Rd (fun _ => True) w0 (.slice pi ni ci) (.l 2 (x.its.map itD))) :
   Calls Tryz.prog 26 #[.agg #[.int .i64 x.kd,.int .i64 x.vo,.int .i64 x.bl,.int .i64 x.sz,.int .i64 x.pe,.slice pp x.pl.length cp,.int .i64 x.to,.int .i64 x.at0,.int .i64 x.ix,.slice pi ni ci]] w0 fun e w' => e = .returned (.bool false) ∧ Below w0.heap.size w0 w' :=
 (cmdRight_b x pp pi cp ni ci w0 h0 h1).mono fun e w' ⟨b,he,hb,hw⟩ => ⟨by cases b with | false => exact he | true => exact absurd (hb.1 rfl) hR,hw⟩
theorem plump_x (b : List Int) (p : Option Addr) (c : Nat) (w0 : World) (h0 : Rd (fun _ => True) w0 (.slice p b.length c) (.ns .u8 b)) (hl : b.length ≤ 1000000) :
   Calls Tryz.prog 117 #[.slice p b.length c] w0 fun e w' => ∃ (p : Option Addr) (c : Nat),e = .returned (.slice p (enc (b.length : Int) ++ b).length c) ∧ w'.ownsRow w0.heap.size 5 1 (.slice p (enc (b.length : Int) ++ b).length c) (enc (b.length : Int) ++ b).length ((enc (b.length : Int) ++ b).map (Value.int .u8)) ∧ Below w0.heap.size w0 w' := by
 refine ent1 Tryz.func117 rfl Tryz.ntmps117 fun Y U =>?_
 have m0 := MemOk.start (fun _ => False) w0
 refine regS U (.assign rfl .nil) fun Y U =>?_
 refine zsr fun K0 hK0 =>?_
 refine goCh U (.move rfl<|.len rfl U22<|.conv rfl U3 U108 (r := (b.length : Int)) (IntWalk.u64_in _ (by omega)) .nil) fun Y U =>?_
 refine plz (e_litN U m0 20 (k := .u64) rfl rfl U168 fct29 rfl rfl rfl rfl fun g8 Y w9 U m9 =>?_)
 have m10 := m9.freezeN 20 rfl
 refine plz (ecn U Tryz.func104 rfl m10 21 (pput_x _ [(b.length : Int)] _ ((m10.rd (i := 20) rfl).any) (by simp) (one63 (by omega))) fun p11 c11 Y w11 U m12 =>?_)
 refine goCh U (.move rfl .nil) fun Y U =>?_
 refine plz (e_appN U m12 21 rfl rfl rfl (h0.now' m12 rfl).ns_out.nums U22 fct0 (by decide) (by rw [encs_one]; have := (enc_len (b.length : Int)).1; omega) rfl fun p15 c15 Y w16 U m16 =>?_)
 refine gz hK0 U (.assign rfl .nil) fun Y U =>?_
 refine rt1 U ?_
 rw [encs_one] at m16
 rw [encs_one]
 exact ⟨_,_,rfl,m16.ok 21 _ rfl,m16.below⟩
theorem counted_x (l : List Int) (p : Option Addr) (c : Nat) (w0 : World) (h0 : Rd (fun _ => True) w0 (.slice p l.length c) (.ns .i64 l)) (hl : l.length ≤ 1000) (hb63 : ∀ z ∈ l,0 ≤ z ∧ z ≤ 9223372036854775807) :
   Calls Tryz.prog 69 #[.slice p l.length c] w0 fun e w' => ∃ (p : Option Addr) (c : Nat),e = .returned (.slice p (encs [(l.length : Int)] ++ encs l).length c) ∧ w'.ownsRow w0.heap.size 5 1 (.slice p (encs [(l.length : Int)] ++ encs l).length c) (encs [(l.length : Int)] ++ encs l).length ((encs [(l.length : Int)] ++ encs l).map (Value.int .u8)) ∧ Below w0.heap.size w0 w' := by
 refine ent1 Tryz.func69 rfl Tryz.ntmps69 fun Y U =>?_
 have m0 := MemOk.start (fun _ => False) w0
 refine regS U (.assign rfl .nil) fun Y U =>?_
 refine zsr fun K0 hK0 =>?_
 refine goCh U (.move rfl<|.len rfl U35 .nil) fun Y U =>?_
 refine plz (e_litN U m0 20 (k := .i64) rfl rfl U35 fct16 rfl rfl rfl rfl fun g6 Y w7 U m7 =>?_)
 have m8 := m7.freezeN 20 rfl
 refine plz (ecn U Tryz.func57 rfl m8 21 (pnums_x [(l.length : Int)] _ _ _ ((m8.rd (i := 20) rfl).any) (by simp) (l63 (fun z hz => by simp at hz; subst hz; omega))) fun p9 c9 Y w9 U m10 =>?_)
 refine goCh U (.move rfl .nil) fun Y U =>?_
 refine plz (ecn U Tryz.func57 rfl m10 22 (pnums_x l _ _ _ ((h0.now' m10 rfl).any) (by omega) (l63 hb63)) fun p13 c13 Y w13 U m14 =>?_)
 have m17 := m14.freezeN 21 rfl
 have m18 := m17.freezeN 22 rfl
 refine plz (e_litR U m18 23 (mm := 1) rfl (.cons rfl rfl (.cons (m18.rd (i := 21) rfl) .nil)<|.cons rfl rfl (.cons (m18.rd (i := 22) rfl) .nil) .nil) U23 fct19 rfl rfl rfl rfl rfl fun g16 Y w19 U m19 =>?_)
 have m20 := m19.freezeR 23 rfl
 refine plz (ecn U Tryz.func68 rfl m20 24 (pjoin_is (ls := [encs [(l.length : Int)],encs l]) (S := encs [(l.length : Int)] ++ encs l) ((m20.rd (i := 23) rfl).any) (by simp) (by simp only [sumLen,List.flatten_cons,List.flatten_nil,List.length_append,List.length_nil]; have := encs_len [(l.length : Int)]; have := encs_len l; simp only [List.length_singleton] at *; omega) (by simp [itemE,encs])) fun p21 c21 Y w21 U m22 =>?_)
 refine gz hK0 U (.assign rfl .nil) fun Y U =>?_
 refine rt1 U ?_
 exact ⟨_,_,rfl,m22.ok 24 _ rfl,m22.below⟩
theorem putIts_x (its : List (Int × List Int)) (pi : Option Addr) (ni ci : Nat) (w0 : World) (h1 : Rd (fun _ => True) w0 (.slice pi ni ci) (.l 2 (its.map itD))) (hil : its.length ≤ 8) (hib : ∀ e ∈ its,(0 ≤ e.1 ∧ e.1 ≤ 255) ∧ e.2.length ≤ 32) :
   Calls Tryz.prog 70 #[.slice pi ni ci] w0 fun e w' => ∃ (p : Option Addr) (c : Nat),e = .returned (.slice p (enc (its.length : Int) ++ itemsE its).length c) ∧ w'.ownsRow w0.heap.size 5 1 (.slice p (enc (its.length : Int) ++ itemsE its).length c) (enc (its.length : Int) ++ itemsE its).length ((enc (its.length : Int) ++ itemsE its).map (Value.int .u8)) ∧ Below w0.heap.size w0 w' := by
 obtain rfl : ni = its.length := by obtain ⟨pq,cq,hv,_⟩ := h1.l_shape; injection hv with _ e2 _; rw [List.length_map] at e2; exact e2
 refine ent1 Tryz.func70 rfl Tryz.ntmps70 fun Y U =>?_
 have m0 := MemOk.start (fun _ => False) w0
 refine regS U (.assign rfl .nil) fun Y U =>?_
 refine zsr fun K0 hK0 =>?_
 refine goCh U (.move rfl<|.len rfl U36 .nil) fun Y U =>?_
 refine plz (e_litN U m0 20 (k := .i64) rfl rfl U35 fct16 rfl rfl rfl rfl fun g6 Y w7 U m7 =>?_)
 have m8 := m7.freezeN 20 rfl
 refine plz (ecn U Tryz.func57 rfl m8 21 (pnums_x [(its.length : Int)] _ _ _ ((m8.rd (i := 20) rfl).any) (by simp) (l63 (fun z hz => by simp at hz; subst hz; omega))) fun p9 c9 Y w9 U m10 =>?_)
 refine gz hK0 U (.assign rfl .nil) fun Y U =>?_
 refine wsk fun K1 hK1 =>?_
 refine regS U (.move rfl<|.len rfl U36<|.move rfl .nil) fun Y U =>?_
 refine wp_block ?_
 refine wp_loop_ghost (fun g a w => ∃ (k : Nat) (p : Option Addr) (c : Nat),k ≤ its.length ∧ g = its.length - k ∧ Has 29 [(3,.slice p (enc (its.length : Int) ++ itemsE (its.take k)).length c),(10,.slice pi its.length ci),(11,.int .i64 its.length),(12,.int .i64 k)] a ∧ MemOk (cn w0) w0 [(8,.num (.slice p (enc (its.length : Int) ++ itemsE (its.take k)).length c) 5 .u8 (enc (its.length : Int) ++ itemsE (its.take k)))] w) (its.length) ?_ ?_
 · rw [show encs [(its.length : Int)] = (enc (its.length : Int) ++ itemsE (its.take 0)) by simp [encs,itemsE]] at m10 U
   exact ⟨0,_,_,Nat.zero_le _,rfl,U.only [3,10,11,12],m10.ren [(8,21)] (by decide)⟩
 clear U m10
 rintro g Y w16 ⟨k,p,c,hkl,hg,U,m16⟩
 refine regS U (.lss rfl rfl .nil) fun Y U =>?_
 refine wsk fun K2 hK2 =>?_
 refine bc U 13 ?_ ?_
 ·
  intro hb18 U; try simp only [QQ,Qax] at hb18
  have hk : k < its.length := by omega
  obtain ⟨⟨xb,xd⟩,hes⟩ : ∃ e,its[k]? = some e := ⟨_,List.getElem?_eq_getElem hk⟩
  have hx := hib _ (List.mem_of_getElem? hes)
  dsimp only at hx
  have hlI := itemsE_take its k hib
  refine wct U ?_
  refine zss (hK2 _ _ ?_)
  refine wsk fun K3 hK3 =>?_
  refine wp_block ?_
  refine zsr fun K4 hK4 =>?_
  obtain ⟨gx20,ox20,vx20,hp20,hl20,hR20,hrg20⟩ := h1.extA (k) (r := [.v (.int .i64 xb),.ns .u8 xd]) (itD_get hes)
  revert U
  cases hp20
  rcases hR20 with _ | ⟨hd20_0,_ | ⟨hd20_1,_ | _⟩⟩
  obtain rfl := hd20_0.v_out
  clear hd20_0
  obtain ⟨p21,c21,hv21,hw21⟩ := hd20_1.ns_shape; subst hv21
  intro U
  refine goCh U (.c rfl (fun _ h_ => y_idx h_ rfl rfl U36 fct3 (k) rfl hk)<|.loadAt (hrg20 m16 rfl) rfl U59 rfl fct3 .nil) fun Y U =>?_
  refine plz (e_alloc U m16 101 fct4 rfl fun g24 Y w25 U m25 _ _ =>?_)
  refine plz (stw U m25 101 fct3 fun w26 m26 _ =>?_)
  refine znl (hK4 _ _ ?_)
  have m27 := m26.oz [8,101]
  refine region_p 10 (B := [(8,_),(101,_)]) (m27.to ⟨il,il,trivial⟩) m27 (by kernel_rfl) (fun w28 hP28 m28 =>?_); clear m27
  refine goR hP28 [0,1,2,5,6] [2,6] 5 0 103 U (m28.to ⟨il,il,trivial⟩) (.move rfl<|.fa 0 rfl U59<|.lb hh 101 U3 rfl rfl rfl<|.fa 1 rfl U59<|.lb hh 101 U22 rfl rfl rfl .nil) fun Y U =>?_
  refine so 3 ?_
  refine e_litN U m28 102 (k := .i64) rfl rfl U35 fct16 rfl rfl rfl rfl fun g34 Y w35 U m35 =>?_
  refine ⟨m35.to ⟨il,il,trivial⟩,?_⟩
  have m36 := m35.freezeN 102 rfl
  refine so 4 ?_
  refine ecn U Tryz.func57 rfl m36 103 (pnums_x [xb] _ _ _ ((m36.rd (i := 102) rfl).any) (by simp) (l63 (fun z hz => by simp at hz; subst hz; omega))) fun p37 c37 Y w37 U m38 =>?_
  refine ⟨m38.to ⟨il,il,trivial⟩,?_⟩
  refine so 7 ?_
  refine ecn U Tryz.func117 rfl m38 104 (plump_x xd _ _ _ ((hd20_1.now' m38 rfl).any) (by omega)) fun p40 c40 Y w40 U m41 =>?_
  refine ⟨m41.to ⟨il,il,trivial⟩,?_⟩
  have m44 := m41.freezeN 103 rfl
  have m45 := m44.freezeN 104 rfl
  refine so 8 ?_
  refine e_litR U m45 105 (mm := 1) rfl (.cons rfl rfl (.cons (m45.rd (i := 103) rfl) .nil)<|.cons rfl rfl (.cons (m45.rd (i := 104) rfl) .nil) .nil) U23 fct19 rfl rfl rfl rfl rfl fun g43 Y w46 U m46 =>?_
  refine ⟨m46.to ⟨il,il,trivial⟩,?_⟩
  have m47 := m46.freezeR 105 rfl
  refine so 9 ?_
  refine ecn U Tryz.func68 rfl m47 106 (pjoin_is (ls := [encs [xb],enc (xd.length : Int) ++ xd]) (S := itemE (xb,xd)) ((m47.rd (i := 105) rfl).any) (by simp) (by simp only [sumLen,List.flatten_cons,List.flatten_nil,List.length_append,List.length_nil]; have := encs_len [xb]; have := (enc_len (xd.length : Int)).1; simp only [List.length_singleton] at *; omega) (by simp [itemE,encs])) fun p48 c48 Y w48 U m49 =>?_
  refine ⟨m49.to ⟨il,il,trivial⟩,?_⟩
  refine se 10 ?_
  refine e_appN U m49 8 rfl rfl rfl (m49.numsO (i := 106) rfl) U22 fct0 (by decide) (by have := itE_len1 xb xd hx; simp only [List.length_append] at *; omega) rfl fun p51 c51 Y w52 U m52 =>?_
  refine goB hP28 [11] 1 2047 4095 U (.assign rfl .nil) fun Y U =>?_
  refine wpAnyE_done (by kernel_rfl) ?_ _
  refine hK3 _ _ ?_
  replace U := U.oz [3,10,11,12]
  refine wp_region_lit ?_
  refine goCh U (.inc (k + 1)<|.move rfl .nil) fun Y U =>?_
  refine wpList_nil ?_
  show ∃ n',n' < _ ∧ _
  rw [itE_snoc hes] at m52 U
  exact ⟨its.length - (k + 1),by omega,k + 1,_,_,by omega,rfl,U.only [3,10,11,12],m52.ren [(8,8)] (by decide)⟩
 intro hb18 U; try simp only [QQ,Qax] at hb18
 revert U
 obtain rfl : k = its.length := by omega
 intro U
 refine wcf U ?_
 refine wp_exit ?_
 refine hK1 _ _ ?_
 refine regS U (.move rfl<|.assign rfl .nil) fun Y U =>?_
 refine rt1 U ?_
 rw [List.take_length] at m16 ⊢
 exact ⟨_,_,rfl,m16.ok 8 _ rfl,m16.below⟩
theorem putCmd_no (x : Cm) (hR : ¬ CmdR x) (pp pi : Option Addr) (cp ni ci : Nat) (w0 : World) (h0 : Rd (fun _ => True) w0 (.slice pp x.pl.length cp) (.ns .i64 x.pl)) (h1 : Rd (fun _ => True) w0 (.slice pi ni ci) (.l 2 (x.its.map itD))) :
   Calls Tryz.prog 25 #[.agg #[.int .i64 x.kd,.int .i64 x.vo,.int .i64 x.bl,.int .i64 x.sz,.int .i64 x.pe,.slice pp x.pl.length cp,.int .i64 x.to,.int .i64 x.at0,.int .i64 x.ix,.slice pi ni ci]] w0 fun e w' => e = .returned (.tuple #[.slice none 0 0,.int .i64 23]) ∧ Below w0.heap.size w0 w' := by
 obtain rfl : ni = x.its.length := by obtain ⟨pq,cq,hv,_⟩ := h1.l_shape; injection hv with _ e2 _; rw [List.length_map] at e2; exact e2
 refine ent1 Tryz.func25 rfl Tryz.ntmps25 fun Y U =>?_
 have m0 := MemOk.start (fun _ => False) w0
 refine zsr fun K0 hK0 =>?_
 refine plz (e_box U m0 20 (cs := [_,_,_,_,_,_,_,_,_,_]) rfl rfl rfl fun g1 Y w2 U m2 _ _ =>?_)
 refine gz hK0 U (.assign rfl<|.assign rfl<|.nil) fun Y U =>?_
 refine wsk fun K1 hK1 =>?_
 refine zsr fun K2 hK2 =>?_
 refine goCh U (.loadBR m2 (i := 20) rfl rfl U38 rfl fct18 (by simp) (by dsimp only [List.drop,List.take] <;> rfl) .nil) fun Y U =>?_
 refine plz (ecb U Tryz.func26 rfl m2 (cmdRight_no x hR _ _ _ _ _ _ ((h0.now' m2 rfl).any) ((h1.now' m2 rfl).any)) fun Y w7 U m8 =>?_)
 refine gz hK2 U (.not rfl .nil) fun Y U =>?_
 refine wct U ?_
 refine regS U (.assign rfl<|.assign rfl .nil) fun Y U =>?_
 refine rt2 U ?_
 exact ⟨rfl,m8.below⟩
theorem putCmd_yes (x : Cm) (hR : CmdR x) (pp pi : Option Addr) (cp ni ci : Nat) (w0 : World) (h0 : Rd (fun _ => True) w0 (.slice pp x.pl.length cp) (.ns .i64 x.pl)) (h1 : Rd (fun _ => True) w0 (.slice pi ni ci) (.l 2 (x.its.map itD))) :
   Calls Tryz.prog 25 #[.agg #[.int .i64 x.kd,.int .i64 x.vo,.int .i64 x.bl,.int .i64 x.sz,.int .i64 x.pe,.slice pp x.pl.length cp,.int .i64 x.to,.int .i64 x.at0,.int .i64 x.ix,.slice pi ni ci]] w0 fun e w' => ∃ (p : Option Addr) (c : Nat),e = .returned (.tuple #[.slice p (cmE x).length c,.int .i64 0]) ∧ w'.ownsRow w0.heap.size 5 1 (.slice p (cmE x).length c) (cmE x).length ((cmE x).map (Value.int .u8)) ∧ Below w0.heap.size w0 w' := by
 obtain rfl : ni = x.its.length := by obtain ⟨pq,cq,hv,_⟩ := h1.l_shape; injection hv with _ e2 _; rw [List.length_map] at e2; exact e2
 refine ent1 Tryz.func25 rfl Tryz.ntmps25 fun Y U =>?_
 have m0 := MemOk.start (fun _ => False) w0
 refine zsr fun K0 hK0 =>?_
 refine plz (e_box U m0 20 (cs := [_,_,_,_,_,_,_,_,_,_]) rfl rfl rfl fun g1 Y w2 U m2 _ _ =>?_)
 refine gz hK0 U (.assign rfl<|.assign rfl<|.nil) fun Y U =>?_
 refine wsk fun K1 hK1 =>?_
 refine zsr fun K2 hK2 =>?_
 refine goCh U (.loadBR m2 (i := 20) rfl rfl U38 rfl fct18 (by simp) (by dsimp only [List.drop,List.take] <;> rfl) .nil) fun Y U =>?_
 refine plz (ecb U Tryz.func26 rfl m2 (cmdRight_yes x hR _ _ _ _ _ _ ((h0.now' m2 rfl).any) ((h1.now' m2 rfl).any)) fun Y w7 U m8 =>?_)
 refine gz hK2 U (.not rfl .nil) fun Y U =>?_
 refine wcf U ?_
 refine zss (hK1 _ _ ?_)
 refine zsr fun K3 hK3 =>?_
 refine goCh U (.fa 0 rfl U38<|.lb m8 20 U3 rfl rfl rfl<|.fa 1 rfl U38<|.lb m8 20 U3 rfl rfl rfl<|.fa 2 rfl U38<|.lb m8 20 U3 rfl rfl rfl<|.fa 3 rfl U38<|.lb m8 20 U3 rfl rfl rfl<|.fa 4 rfl U38<|.lb m8 20 U3 rfl rfl rfl<|.fa 6 rfl U38<|.lb m8 20 U3 rfl rfl rfl<|.fa 7 rfl U38<|.lb m8 20 U2 rfl rfl rfl<|.fa 8 rfl U38<|.lb m8 20 U3 rfl rfl rfl .nil) fun Y U =>?_
 refine plz (e_litN U m8 21 (k := .i64) rfl rfl U35 fct16 rfl rfl rfl rfl fun g43 Y w44 U m44 =>?_)
 have m45 := m44.freezeN 21 rfl
 refine plz (ecn U Tryz.func57 rfl m45 22 (pnums_x [x.kd,x.vo,x.bl,x.sz,x.pe,x.to,x.at0,x.ix] _ _ _ ((m45.rd (i := 21) rfl).any) (by simp) (l63 (fun z hz => by simp at hz; have := hR.kd; have := hR.vo; have := hR.t40; omega))) fun p46 c46 Y w46 U m47 =>?_)
 refine gz hK3 U (.assign rfl .nil) fun Y U =>?_
 refine wsk fun K4 hK4 =>?_
 replace U := U.oz [1,2,3,4]
 have m51 := m47.oz [20,21,22]
 refine region_p 11 (B := [(20,_)]) (m51.to ⟨il,trivial⟩) m51 (by kernel_rfl) (fun w52 hP52 m52 =>?_); clear m51
 refine goR hP52 [0,1,2,4,5] [2,5] 5 0 55 U (m52.to ⟨il,trivial⟩) (.move rfl<|.fa 5 rfl U38<|.lb hh 20 U35 rfl rfl rfl<|.fa 9 rfl U38<|.lb hh 20 U36 rfl rfl rfl .nil) fun Y U =>?_
 refine so 3 ?_
 refine ecn U Tryz.func69 rfl m52 23 (counted_x x.pl _ _ _ ((h0.now' m52 rfl).any) (by have := hR.pl; omega) (fun z hz => by have := hR.pb z hz; omega)) fun p58 c58 Y w58 U m59 =>?_
 refine ⟨m59.to ⟨il,trivial⟩,?_⟩
 refine so 6 ?_
 refine ecn U Tryz.func70 rfl m59 24 (putIts_x x.its _ _ _ _ ((h1.now' m59 rfl).any) hR.il hR.ib) fun p61 c61 Y w61 U m62 =>?_
 refine ⟨m62.to ⟨il,trivial⟩,?_⟩
 have m65 := m62.freezeN 22 rfl
 have m66 := m65.freezeN 23 rfl
 have m67 := m66.freezeN 24 rfl
 refine so 7 ?_
 refine e_litR U m67 25 (mm := 1) rfl (.cons rfl rfl (.cons (m67.rd (i := 22) rfl) .nil)<|.cons rfl rfl (.cons (m67.rd (i := 23) rfl) .nil)<|.cons rfl rfl (.cons (m67.rd (i := 24) rfl) .nil) .nil) U23 fct19 rfl rfl rfl rfl rfl fun g64 Y w68 U m68 =>?_
 refine ⟨m68.to ⟨il,trivial⟩,?_⟩
 have m69 := m68.freezeR 25 rfl
 refine so 8 ?_
 refine ecn U Tryz.func68 rfl m69 26 (pjoin_is (ls := [encs [x.kd,x.vo,x.bl,x.sz,x.pe,x.to,x.at0,x.ix],encs [(x.pl.length : Int)] ++ encs x.pl,enc (x.its.length : Int) ++ itemsE x.its]) (S := cmE x) ((m69.rd (i := 25) rfl).any) (by simp) (cmE_sum hR) (cmE_flat x)) fun p70 c70 Y w70 U m71 =>?_
 refine ⟨m71.to ⟨il,trivial⟩,?_⟩
 refine goA hP52 [9,10] 2 511 2047 U (m71.to ⟨il,trivial⟩) (.assign rfl<|.assign rfl .nil) fun Y U =>?_
 refine wpAnyE_done (by kernel_rfl) ?_ _
 refine hK4 _ _ ?_
 refine rt2 U ?_
 exact ⟨_,_,rfl,(m71.ok 26 _ rfl),m71.below⟩
end
section
theorem y_andNot {P : Program} {T : List (Nat × Value)} {n : Nat} {a : Act} {w : World} {k : IntKind} {p q r : Int} {d : Option Tmp} {x y : Operand} {t t2 tt : TypeId} {pos : String} {af : Array Edge} {gd : Option (Nat × Bool)} (h : Has n T a) (hx : evT T x = some (.int k p)) (hy : evT T y = some (.int k q)) (hr : bits .andNot k p q = r) : Yl P a w ⟨d,.binOp .andNot t x y t2,tt,pos,af,gd⟩ (.int k r) := by
 subst hr
 show (execOp _ _).run P w = _; simp only [execOp,eqGuard,binOp,Op.intBits,h.ev hx,h.ev hy,bits]; simp
end
end Go.Proofs.YtkehgingagggaaaGreat.K
