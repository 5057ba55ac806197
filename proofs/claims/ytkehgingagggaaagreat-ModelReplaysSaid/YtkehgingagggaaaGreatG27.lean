/- General laws of walks. -/
import Derived.Test.YtkehgingagggaaaGreatG25
import Derived.Test.YtkehgingagggaaaGreatG26
import Derived.Test.YtkehgingagggaaaGreatG9
namespace Go.Proofs.YtkehgingagggaaaGreat.K
open Go.ChangeShapes Go.WideShapes Go.ChangeAt Go.RowKit
set_option linter.unusedVariables false
set_option linter.unusedSimpArgs false
section
theorem fl32zCs : flatS Tryz.prog 32 [.slice none 0 0] = true := by kernel_rfl
theorem fl32zsV : flatS Tryz.prog 32 [.slice none 0 0] = true := by kernel_rfl
def CsR (cs : List Cm) : Prop := ∀ c ∈ cs,CmdR c ∧ ItsB c.its
theorem csR_snoc {cs : List Cm} {c : Cm} (h : CsR cs) (hc : CmdR c) (hb : ItsB c.its) : CsR (cs ++ [c]) := fun x hx => by
 rcases List.mem_append.1 hx with hx | hx
 · exact h x hx
 simp at hx; subst hx; exact ⟨hc,hb⟩
open Classical in
theorem rrL_snoc {cs : List Cm} {c : Cm} (h : CmdR c) : rrL (cs ++ [c]) = (rApp (rrL cs) c).1 := by
 rw [rrL,List.foldl_append]
 show (if CmdR c then _ else _) = _
 rw [if_pos h]; rfl
theorem cmdR_new {vx bx sx to bl sz pe : Int} {pl : List Int} (hv : 0 ≤ vx ∧ vx ≤ 255) (hb : 0 ≤ bx ∧ bx ≤ 255) (hs : 0 ≤ sx ∧ sx ≤ 255) (h1 : bl = bx.tmod 9 + 1) (h2 : sz = sx.tmod 3 + 1) (h3 : 1 ≤ pe) (h4 : pe ≤ bl) (h5 : PlaceOk bl pe pl) (h6 : pl.length ≤ 9) (h7 : 0 ≤ to ∧ to ≤ 1000) : CmdR ⟨1,vx.tmod 3,bl,sz,pe,pl,to,0,0,[]⟩ := by
 rw [Int.tmod_eq_emod_of_nonneg hb.1] at h1
 rw [Int.tmod_eq_emod_of_nonneg hs.1] at h2
 rw [Int.tmod_eq_emod_of_nonneg hv.1]
 exact ⟨by dsimp only; omega,by dsimp only; omega,by dsimp only; omega,by dsimp only; omega,(fun z hz => by have := h5.1 z hz; omega),by simp,(fun e he => by cases he)⟩
set_option maxRecDepth 100000
set_option maxHeartbeats 4000000
theorem scmd_n (vo bl sz pe to ne fl : Int) (hi : Bool) (pp pn pw : Option Addr) (np cp nn9 cn9 nw cw : Nat) (wh xa xb xc : Int) (w0 : World) (hvo : 0 ≤ vo ∧ vo ≤ 255) (hw9 : 0 ≤ wh ∧ wh ≤ 255) (ha9 : 0 ≤ xa ∧ xa ≤ 255) (hb9 : 0 ≤ xb ∧ xb ≤ 255) (hc9 : 0 ≤ xc ∧ xc ≤ 255) :
   Calls Tryz.prog 41 #[.agg #[.int .i64 vo,.int .i64 bl,.int .i64 sz,.int .i64 pe,.slice pp np cp,.int .i64 to,.int .i64 ne,.bool hi,.int .i64 fl,.slice pn nn9 cn9,.slice pw nw cw],.bool false,.int .u8 wh,.int .u8 xa,.int .u8 xb,.int .u8 xc] w0 fun e w' => ∃ (vo2 bl2 sz2 pe2 to2 : Int) (place : List Int) (pp : Option Addr) (cp : Nat),e = .returned (.agg #[.int .i64 1,.int .i64 vo2,.int .i64 bl2,.int .i64 sz2,.int .i64 pe2,.slice pp place.length cp,.int .i64 to2,.int .i64 0,.int .i64 0,.slice none 0 0]) ∧ CmdR ⟨1,vo2,bl2,sz2,pe2,place,to2,0,0,[]⟩ ∧ Rd (New w0) w' (.slice pp place.length cp) (.ns .i64 place) ∧ Below w0.heap.size w0 w' := by
 refine ent6 Tryz.func41 rfl Tryz.ntmps41 fun Y U =>?_
 have m0 := MemOk.start (fun _ => False) w0
 obtain ⟨tq,htq,htq0,htq3⟩ : ∃ x : Int,(xc / 4).tmod 3 = x ∧ 0 ≤ x ∧ x ≤ 2 := ⟨_,rfl,by rw [Int.tmod_eq_emod_of_nonneg (by omega)]; omega,by rw [Int.tmod_eq_emod_of_nonneg (by omega)]; omega⟩
 refine zsr fun K0 hK0 =>?_
 refine plz (e_box U m0 20 (cs := [_,_,_,_,_,_,_,_,_,_,_]) rfl rfl rfl fun g1 Y w2 U m2 _ _ =>?_)
 refine plz (e_alloc U m2 21 fct24 rfl fun g3 Y w4 U m4 _ _ =>?_)
 refine znl (hK0 _ _ ?_)
 refine wsk fun K1 hK1 =>?_
 refine regS U (.move rfl<|.not rfl .nil) fun Y U =>?_
 refine wct U ?_
 refine regS U (.assign rfl .nil) fun Y U =>?_
 refine wsk fun K2 hK2 =>?_
 refine regS U (.move rfl<|.rem rfl rfl (by decide) rfl<|.eql rfl rfl .nil) fun Y U =>?_
 refine bc U 19 ?_ ?_
 ·
  intro hb11 U; try simp only [QQ,Qax] at hb11
  refine wct U ?_
  replace U := U.oz [2,3,4,5,6,12,13]
  refine wp_region_lit ?_
  refine gz hK2 U (.move rfl<|.quo rfl rfl (by decide) (r := xc / 4) (by rw [Int.tdiv_eq_ediv_of_nonneg (by omega)]; exact IntWalk.u8_in _ (by omega))<|.rem rfl rfl (by decide) (r := tq) htq<|.conv rfl U5 U3 (r := tq) (IntWalk.i64_in _ (by omega))<|.add rfl rfl (IntWalk.i64_in _ (by omega))<|.assign rfl<|.nil) fun Y U =>?_
  refine zsr fun K3 hK3 =>?_
  refine goCh U (.fa 0 rfl U51<|.lb m4 20 U3 rfl rfl rfl<|.conv rfl U3 U5 (r := vo) (IntWalk.u8_in _ (by omega))<|.move rfl<|.move rfl<|.move rfl<|.move rfl .nil) fun Y U =>?_
  refine plz (ecl U Tryz.func42 rfl (create_e vo xa xb xc _ _ hvo ha9 hb9 hc9) ?_)
  rintro e w33 ⟨bl2,sz2,pe2,place,p33,c33,rfl,hbl2,hsz2,hpe1,hpe2,hpo,hpl9,hd33,hb33⟩
  have m34 := m4.callF 22 rfl hb33 hd33
  refine ⟨_,rfl,?_⟩; intro Y U
  refine plz (stw U m34 21 fct19 fun w36 m36 _ =>?_)
  refine znl (hK3 _ _ ?_)
  refine rtd (retC (fn := Tryz.f41) U m36 (i := 21) rfl rfl rfl U38 rfl fct19 ?_)
  exact ⟨_,_,_,_,_,place,_,_,rfl,cmdR_new hvo ha9 hb9 hbl2 hsz2 hpe1 hpe2 hpo hpl9 (by omega),m36.outF (i := 22) rfl,m36.below⟩
 intro hb11 U; try simp only [QQ,Qax] at hb11
 refine wcf U ?_
 refine zss (hK2 _ _ ?_)
 replace U := U.oz [2,3,4,5,6,12,13]
 refine zsr fun K4 hK4 =>?_
 refine goCh U (.fa 0 rfl U51<|.lb m4 20 U3 rfl rfl rfl<|.conv rfl U3 U5 (r := vo) (IntWalk.u8_in _ (by omega))<|.move rfl<|.move rfl<|.move rfl<|.move rfl .nil) fun Y U =>?_
 refine plz (ecl U Tryz.func42 rfl (create_e vo xa xb xc _ _ hvo ha9 hb9 hc9) ?_)
 rintro e w52 ⟨bl2,sz2,pe2,place,p52,c52,rfl,hbl2,hsz2,hpe1,hpe2,hpo,hpl9,hd52,hb52⟩
 have m53 := m4.callF 22 rfl hb52 hd52
 refine ⟨_,rfl,?_⟩; intro Y U
 refine plz (stw U m53 21 fct19 fun w55 m55 _ =>?_)
 refine znl (hK4 _ _ ?_)
 refine rtd (retC (fn := Tryz.f41) U m55 (i := 21) rfl rfl rfl U38 rfl fct19 ?_)
 exact ⟨_,_,_,_,_,place,_,_,rfl,cmdR_new hvo ha9 hb9 hbl2 hsz2 hpe1 hpe2 hpo hpl9 (by omega),m55.outF (i := 22) rfl,m55.below⟩
theorem scmd_p (n : Nat) (x : VolV) (there : Bool) (p1 p2 p3 : Option Addr) (d1 d2 d3 : Nat) (wh xa xb xc : Int) (w0 : World) (hx : there = true → VolS n x) (hx0 : there = false → x = volZ) (hn : n ≤ 800000) (hw9 : 0 ≤ wh ∧ wh ≤ 255) (ha9 : 0 ≤ xa ∧ xa ≤ 255) (hb9 : 0 ≤ xb ∧ xb ≤ 255) (hc9 : 0 ≤ xc ∧ xc ≤ 255) :
   Calls Tryz.prog 41 #[.agg #[.int .i64 x.vo,.int .i64 x.bl,.int .i64 x.sz,.int .i64 x.pe,.slice p1 x.place.length d1,.int .i64 x.to,.int .i64 x.ne,.bool x.hi,.int .i64 x.fl,.slice p2 x.pins.length d2,.slice p3 (x.ws.map wrD).length d3],.bool there,.int .u8 wh,.int .u8 xa,.int .u8 xb,.int .u8 xc] w0 fun e w' => ∃ (kd vo2 bl2 sz2 pe2 to2 at0 ix : Int) (place : List Int) (it : List (Int × List Int)) (pp : Option Addr) (cp : Nat) (pi : Option Addr) (ci : Nat),e = .returned (.agg #[.int .i64 kd,.int .i64 vo2,.int .i64 bl2,.int .i64 sz2,.int .i64 pe2,.slice pp place.length cp,.int .i64 to2,.int .i64 at0,.int .i64 ix,.slice pi it.length ci]) ∧ CmdR ⟨kd,vo2,bl2,sz2,pe2,place,to2,at0,ix,it⟩ ∧ ItsB it ∧ Rd (New w0) w' (.slice pp place.length cp) (.ns .i64 place) ∧ Rd (New w0) w' (.slice pi it.length ci) (.l 2 (it.map itD)) ∧ Below w0.heap.size w0 w' := by
 cases there
 · obtain rfl := hx0 rfl
   refine (scmd_n 0 0 0 0 0 0 0 false p1 p2 p3 0 d1 0 d2 0 d3 wh xa xb xc w0 (by omega) hw9 ha9 hb9 hc9).mono ?_
   rintro e w' ⟨vo2,bl2,sz2,pe2,to2,place,pp,cp,rfl,hR,hd,hb⟩
   exact ⟨1,vo2,bl2,sz2,pe2,to2,0,0,place,[],pp,cp,none,0,rfl,hR,(fun e h => by cases h),hd,Rd.l0 none 0 2,hb⟩
 obtain ⟨h1,h2,h3,h4,-⟩ := hx rfl
 obtain ⟨vo,bl,sz,pe,place0,to,ne,hi,fl,pins,ws⟩ := x
 simp only at *
 obtain ⟨⟨a1,a2,a3,a4,a5,a6,a7,a8,a9,a10,a11⟩,b1,b2,b3⟩ := h1
 obtain ⟨z,rfl⟩ : ∃ z : Nat,sz = (z : Int) := ⟨sz.toNat,by omega⟩
 refine (scmd_r vo bl z pe to ne fl hi p1 p2 p3 place0.length d1 pins.length d2 (ws.map wrD).length d3 wh xa xb xc w0 (by omega) (by omega) (by omega) (by rw [List.length_map]; omega) (by omega) hw9 ha9 hb9 hc9).mono ?_
 rintro e w' ⟨kd,at0,ix,it,pi,ci,rfl,hkd,hR,hib,hd,hb⟩
 exact ⟨kd,vo,0,0,0,0,at0,ix,[],it,none,0,pi,ci,rfl,hR,hib,Rd.nilN _ _ .i64 none,hd,hb⟩
theorem scmd_v (n : Nat) (id : Int) (x : VolV) (there : Bool) (p1 p2 p3 : Option Addr) (d1 d2 d3 : Nat) (wh xa xb xc : Int) (w0 : World) (hx : there = true → VolS n x) (hx0 : there = false → x = volZ) (hn : n ≤ 800000) (hid : 0 ≤ id ∧ id ≤ 2) (hw9 : 0 ≤ wh ∧ wh ≤ 255) (ha9 : 0 ≤ xa ∧ xa ≤ 255) (hb9 : 0 ≤ xb ∧ xb ≤ 255) (hc9 : 0 ≤ xc ∧ xc ≤ 255) :
   Calls Tryz.prog 41 #[.agg #[.int .i64 id,.int .i64 x.bl,.int .i64 x.sz,.int .i64 x.pe,.slice p1 x.place.length d1,.int .i64 x.to,.int .i64 x.ne,.bool x.hi,.int .i64 x.fl,.slice p2 x.pins.length d2,.slice p3 (x.ws.map wrD).length d3],.bool there,.int .u8 wh,.int .u8 xa,.int .u8 xb,.int .u8 xc] w0 fun e w' => ∃ (kd vo2 bl2 sz2 pe2 to2 at0 ix : Int) (place : List Int) (it : List (Int × List Int)) (pp : Option Addr) (cp : Nat) (pi : Option Addr) (ci : Nat),e = .returned (.agg #[.int .i64 kd,.int .i64 vo2,.int .i64 bl2,.int .i64 sz2,.int .i64 pe2,.slice pp place.length cp,.int .i64 to2,.int .i64 at0,.int .i64 ix,.slice pi it.length ci]) ∧ CmdR ⟨kd,vo2,bl2,sz2,pe2,place,to2,at0,ix,it⟩ ∧ ItsB it ∧ Rd (New w0) w' (.slice pp place.length cp) (.ns .i64 place) ∧ Rd (New w0) w' (.slice pi it.length ci) (.l 2 (it.map itD)) ∧ Below w0.heap.size w0 w' := by
 cases there
 · obtain rfl := hx0 rfl
   refine (scmd_n id 0 0 0 0 0 0 false p1 p2 p3 0 d1 0 d2 0 d3 wh xa xb xc w0 (by omega) hw9 ha9 hb9 hc9).mono ?_
   rintro e w' ⟨vo2,bl2,sz2,pe2,to2,place,pp,cp,rfl,hR,hd,hb⟩
   exact ⟨1,vo2,bl2,sz2,pe2,to2,0,0,place,[],pp,cp,none,0,rfl,hR,(fun e h => by cases h),hd,Rd.l0 none 0 2,hb⟩
 exact scmd_p n { x with vo := id } true p1 p2 p3 d1 d2 d3 wh xa xb xc w0 (fun _ => vols_id (hx rfl) hid) (fun h => by cases h) hn hw9 ha9 hb9 hc9
theorem scmds_r (l : List Int) (pl : Option Addr) (cl : Nat) (w0 : World) (h0 : Rd (fun _ => True) w0 (.slice pl l.length cl) (.ns .u8 l)) (hl : l.length ≤ 100000) (hlb : ∀ j,j < l.length → 0 ≤ l.getD j 0 ∧ l.getD j 0 ≤ 255) :
   Calls Tryz.prog 10 #[.slice pl l.length cl] w0 fun e w' => ∃ (cs : List Cm) (p : Option Addr) (c : Nat),e = .returned (.slice p (cs.map cmD).length c) ∧ 4 * cs.length ≤ l.length ∧ CsR cs ∧ RowOk w0.heap.size (fun b => Out (fun _ => False) w0 b ∧ (Value.slice p (cs.map cmD).length c).ownBlock ≠ some b) w' (.slice p (cs.map cmD).length c) 38 10 (cs.map cmD) ∧ Below w0.heap.size w0 w' := by
 refine ent1 Tryz.func10 rfl Tryz.ntmps10 fun Y U =>?_
 have m0 := MemOk.start (fun _ => False) w0
 refine regS U (.assign rfl .nil) fun Y U =>?_
 refine zsr fun K0 hK0 =>?_
 refine goCh U (.build rfl fct39 fl32zCs rfl (by dsimp only [setL,List.set] <;> rfl) .nil) fun Y U =>?_
 refine plz (e_box U m0 40 (cs := [_]) rfl rfl rfl fun g4 Y w5 U m5 _ _ =>?_)
 refine gz hK0 U (.assign rfl .nil) fun Y U =>?_
 refine regS U (.assign rfl .nil) fun Y U =>?_
 refine wsk fun K1 hK1 =>?_
 refine regS U (.assign rfl .nil) fun Y U =>?_
 refine wp_block ?_
 refine wp_loop_ghost (fun g a w => ∃ (i k B c d : Nat) (L : List VolV) (cs : List Cm) (p q : Option Addr),i ≤ l.length ∧ 4 * k ≤ i ∧ cs.length = k ∧ CsR cs ∧ L = rrL cs ∧ (∀ y ∈ L,VolS k y) ∧ L.length ≤ k ∧ SrtV L ∧ g = l.length - i ∧ Has 71 [(0,.slice pl l.length cl),(3,.pointer (some ⟨B,0,none⟩)),(4,.slice q (cs.map cmD).length d),(5,.int .i64 i)] a ∧ MemOk (cn w0) w0 [(1,.box B 32 [.slice p (L.map volD).length c]),(2,.dat (.slice p (L.map volD).length c) (.l 11 (L.map volD))),(3,.row (.slice q (cs.map cmD).length d) 38 10 (cs.map cmD))] w) (l.length) ?_ ?_
 · have mz := (m5.dat 2 rfl (Rd.l0 none 0 11)).nilR 33 38 10
   exact ⟨0,0,_,_,_,[],[],_,_,Nat.zero_le _,Nat.zero_le _,rfl,(fun x h => by cases h),rfl,(fun y hy => by cases hy),Nat.zero_le _,List.Pairwise.nil,rfl,U.only [0,3,4,5],mz.ren [(1,40),(2,2),(3,33)] (by decide)⟩
 clear U m5
 rintro g Y w9 ⟨i,k,B,c,d,L,cs,p,q,hil,hki,hlen,hcs,hLc,hV,hLl,hS,hg,U,m9⟩
 refine wsk fun K2 hK2 =>?_
 refine regS U (.move rfl<|.inc (i + 3)<|.move rfl<|.len rfl U22<|.lss rfl rfl .nil) fun Y U =>?_
 refine bc U 18 ?_ ?_
 ·
  intro hb15 U; try simp only [QQ,Qax] at hb15
  have hi9 : i + 3 < l.length := by omega
  have h9b := hlb i (by omega)
  obtain ⟨id,hid,hid0⟩ : ∃ x : Int,(l.getD i 0 / 16).tmod 3 = x ∧ 0 ≤ x ∧ x ≤ 2 := ⟨_,rfl,by rw [Int.tmod_eq_emod_of_nonneg (by omega)]; omega,by rw [Int.tmod_eq_emod_of_nonneg (by omega)]; omega⟩
  refine wct U ?_
  refine zss (hK2 _ _ ?_)
  refine wsk fun K3 hK3 =>?_
  refine wp_block ?_
  refine zsr fun K4 hK4 =>?_
  refine goCh U (.move rfl<|.move rfl .nil) fun Y U =>?_
  obtain ⟨gx21,ox21,hp21,hl21,hrg21⟩ := h0.extN (i) (by omega)
  revert U
  cases hp21
  intro U
  refine gz hK4 U (.c rfl (fun _ h_ => y_idx h_ rfl rfl U22 fct23 (i) rfl (by omega))<|.loadAt1 (hrg21 m9 rfl) (q := 0) rfl rfl rfl U5 rfl<|.quo rfl rfl (by decide) (r := l.getD i 0 / 16) (by rw [Int.tdiv_eq_ediv_of_nonneg (by omega)]; exact IntWalk.u8_in _ (by omega))<|.conv rfl U5 U3 (r := l.getD i 0 / 16) (IntWalk.i64_in _ (by omega))<|.rem rfl rfl (by decide) (r := id) hid<|.assign rfl<|.nil) fun Y U =>?_
  replace U := U.oz [0,3,4,5,6]
  refine zsr fun K5 hK5 =>?_
  refine goCh U (.move rfl<|.move rfl .nil) fun Y U =>?_
  refine plz (ecl U Tryz.func19 rfl (rmVol _ _ L _ _ _ _ (by omega) (m9.into [(1,1),(2,2)] (by decide) rfl)) ?_)
  rintro e w33 ⟨x,th,p133,p233,p333,d133,d233,d333,rfl,hx1,hx0,hm33⟩
  have mx33 := m9.back hm33 [(1,1),(2,2),(100,3),(101,4),(102,5)] (by decide); clear hm33 m9
  have m33 := mx33.oz [1,2,100,101,102,3]
  refine ⟨_,rfl,?_⟩; intro Y U
  refine goCh U (.move rfl<|.extract rfl rfl<|.extract rfl rfl .nil) fun Y U =>?_
  refine plz (e_alloc U m33 103 fct14 rfl fun g38 Y w39 U m39 _ _ =>?_)
  refine plz (stw U m39 103 fct13 fun w40 m40 _ =>?_)
  refine gz hK5 U (.assign rfl .nil) fun Y U =>?_
  replace U := U.oz [0,3,4,5,6,7,8]
  refine zsr fun K6 hK6 =>?_
  refine goCh U (.move rfl<|.fa 0 rfl U51 .nil) fun Y U =>?_
  refine plz (st1 U m40 103 fct15 fun w47 m47 _ =>?_)
  refine znl (hK6 _ _ ?_)
  refine wsk fun K7 hK7 =>?_
  obtain ⟨gx49,ox49,hp49,hl49,hrg49⟩ := h0.extN (i) (by omega)
  revert U
  cases hp49
  intro U
  obtain ⟨gx51,ox51,hp51,hl51,hrg51⟩ := h0.extN (i + 1) (by omega)
  revert U
  cases hp51
  intro U
  obtain ⟨gx53,ox53,hp53,hl53,hrg53⟩ := h0.extN (i + 2) (by omega)
  revert U
  cases hp53
  intro U
  obtain ⟨gx55,ox55,hp55,hl55,hrg55⟩ := h0.extN (i + 3) (by omega)
  revert U
  cases hp55
  intro U
  have m56 := m47.oz [1,2,3,100,101,102,103]
  refine region_p 21 (B := [(1,_),(2,_),(3,_),(100,_),(101,_),(102,_),(103,_)]) (m56.to ⟨il,il,il,il,il,il,il,trivial⟩) m56 (by kernel_rfl) (fun w57 hP57 m57 =>?_); clear m56
  refine goR hP57 [0,1,2,3,4,5,6,7,8,9,10,11,12,13,14,15,16,17,18,19,20] [0,5,10,15,20] 21 0 2097151 U (m57.to ⟨il,il,il,il,il,il,il,trivial⟩) (.loadBR hh (i := 103) rfl rfl U51 rfl fct13 (by simp) (by dsimp only [List.drop,List.take] <;> rfl)<|.move rfl<|.move rfl<|.move rfl<|.p (fun _ _ h_ => y_idx h_ rfl rfl U22 fct23 (i) rfl (by omega))<|.loadAt1 (fun _ h_ => (hrg49 h_ rfl)) (q := 0) rfl rfl rfl U5 rfl<|.move rfl<|.move rfl<|.add rfl rfl (r := ((i + 1 : Nat) : Int)) (by rw [IntWalk.i64_in _ (by omega)]; omega)<|.p (fun _ _ h_ => y_idx h_ rfl rfl U22 fct23 (i + 1) rfl (by omega))<|.loadAt1 (fun _ h_ => (hrg51 h_ rfl)) (q := 0) rfl rfl rfl U5 rfl<|.move rfl<|.move rfl<|.add rfl rfl (r := ((i + 2 : Nat) : Int)) (by rw [IntWalk.i64_in _ (by omega)]; omega)<|.p (fun _ _ h_ => y_idx h_ rfl rfl U22 fct23 (i + 2) rfl (by omega))<|.loadAt1 (fun _ h_ => (hrg53 h_ rfl)) (q := 0) rfl rfl rfl U5 rfl<|.move rfl<|.move rfl<|.add rfl rfl (r := ((i + 3 : Nat) : Int)) (by rw [IntWalk.i64_in _ (by omega)]; omega)<|.p (fun _ _ h_ => y_idx h_ rfl rfl U22 fct23 (i + 3) rfl (by omega))<|.loadAt1 (fun _ h_ => (hrg55 h_ rfl)) (q := 0) rfl rfl rfl U5 rfl .nil) fun Y U =>?_
  refine dtw 21 22 ?_ ?_
  ·
   refine ecl U Tryz.func41 rfl (scmd_v k id x th _ _ _ _ _ _ _ _ _ _ _ (fun h => hV _ (hx1 h)) hx0 (by omega) (by omega) (hlb _ (by omega)) (hlb _ (by omega)) (hlb _ (by omega)) (hlb _ (by omega))) ?_
   rintro e w79 ⟨kd,vo2,bl2,sz2,pe2,to2,at0,ix,place,it,pp9,cp9,pi9,ci9,rfl,hR,hitb,hd79,he79,hb79⟩
   have m80 := m57.callF2 104 105 rfl rfl hb79 hd79 he79
   refine ⟨_,rfl,?_⟩; intro Y U
   refine ⟨fun h => (Bool.false_ne_true (h.symm.trans (by rfl))).elim,?_⟩
   refine se 22 ?_
   refine e_alloc U m80 106 fct24 rfl fun g82 Y w83 U m83 _ _ =>?_
   refine se 23 ?_
   refine stw U m83 106 fct19 fun w84 m84 _ =>?_
   refine wpAnyE_done (by kernel_rfl) ?_ _
   refine hK7 _ _ ?_
   replace U := U.oz [0,3,4,5,9]
   refine zsr fun K8 hK8 =>?_
   refine goCh U (.loadBR m84 (i := 106) rfl rfl U38 rfl fct19 (by simp) (by dsimp only [List.drop,List.take] <;> rfl) .nil) fun Y U =>?_
   refine plz (ecl U Tryz.func12 rfl (rputCmd_x kd vo2 bl2 sz2 pe2 to2 at0 ix place it _ _ _ _ _ _ ((m84.rd (i := 104) rfl).any) ((m84.rd (i := 105) rfl).any) (hR.ok (fun e he => (hitb e he).2))) ?_)
   rintro e w88 ⟨p88,c88,rfl,hd88,hb88⟩
   have m89 := m84.callF 107 rfl hb88 hd88
   refine ⟨_,rfl,?_⟩; intro Y U
   refine gz hK8 U (.move rfl<|.extract rfl rfl<|.extract rfl rfl<|.assign rfl<|.assign rfl<|.nil) fun Y U =>?_
   replace U := U.oz [0,3,4,5,9,10]
   refine zsr fun K9 hK9 =>?_
   refine goCh U (.move rfl<|.move rfl .nil) fun Y U =>?_
   refine plz (ecl U Tryz.func15 rfl (rapply_e _ _ k L _ _ kd vo2 bl2 sz2 pe2 to2 at0 ix place it _ _ _ hV (by omega) (by omega) hS.nodup (hR.ok (fun e he => (hitb e he).2)) (m89.into [(1,1),(2,2),(3,107)] (by decide) rfl)) ?_)
   rintro e w101 ⟨L2,e1,rl1,rf1,rn1,p101,c101,rfl,hap,hm101⟩
   have mx101 := m89.back hm101 [(1,1),(2,2)] (by decide); clear hm101 m89
   have m101 := mx101.oz [1,2,3,100,101,102,103,104,105,106]
   refine ⟨_,rfl,?_⟩; intro Y U
   refine znl (hK9 _ _ ?_)
   refine wp_region_lit ?_
   refine goCh U (.move rfl<|.loadBR m101 (i := 106) rfl rfl U38 rfl fct19 (by simp) (by dsimp only [List.drop,List.take] <;> rfl) .nil) fun Y U =>?_
   refine plz (e_litR U m101 108 (mm := 10) rfl (.cons rfl rfl (.cons (.v _) (.cons (.v _) (.cons (.v _) (.cons (.v _) (.cons (.v _) (.cons (m101.rd (i := 104) rfl) (.cons (.v _) (.cons (.v _) (.cons (.v _) (.cons (m101.rd (i := 105) rfl) .nil)))))))))) .nil) U24 fct36 rfl rfl rfl rfl rfl fun g105 Y w106 U m106 =>?_)
   have m108 := m106.freezeR 108 rfl
   refine plz (e_appR U m108 3 rfl rfl rfl (m108.rd (i := 108) rfl) U24 fct36 rfl rfl (by decide) (by rw [List.length_map,List.length_singleton]; have := hlen; omega) rfl fun p107 c107 Y w109 U m109 =>?_)
   refine gz hK3 U (.assign rfl .nil) fun Y U =>?_
   replace U := U.oz [0,3,4,5]
   refine wp_region_lit ?_
   refine goCh U (.move rfl<|.inc (i + 4)<|.assign rfl .nil) fun Y U =>?_
   refine wpList_nil ?_
   show ∃ n',n' < _ ∧ _
   have hE : (cs.map cmD) ++ [[.v (.int .i64 (⟨kd,vo2,bl2,sz2,pe2,place,to2,at0,ix,it⟩ : Cm).kd),.v (.int .i64 (⟨kd,vo2,bl2,sz2,pe2,place,to2,at0,ix,it⟩ : Cm).vo),.v (.int .i64 (⟨kd,vo2,bl2,sz2,pe2,place,to2,at0,ix,it⟩ : Cm).bl),.v (.int .i64 (⟨kd,vo2,bl2,sz2,pe2,place,to2,at0,ix,it⟩ : Cm).sz),.v (.int .i64 (⟨kd,vo2,bl2,sz2,pe2,place,to2,at0,ix,it⟩ : Cm).pe),.ns .i64 (⟨kd,vo2,bl2,sz2,pe2,place,to2,at0,ix,it⟩ : Cm).pl,.v (.int .i64 (⟨kd,vo2,bl2,sz2,pe2,place,to2,at0,ix,it⟩ : Cm).to),.v (.int .i64 (⟨kd,vo2,bl2,sz2,pe2,place,to2,at0,ix,it⟩ : Cm).at0),.v (.int .i64 (⟨kd,vo2,bl2,sz2,pe2,place,to2,at0,ix,it⟩ : Cm).ix),.l 2 ((⟨kd,vo2,bl2,sz2,pe2,place,to2,at0,ix,it⟩ : Cm).its.map itD)]] = (cs ++ [(⟨kd,vo2,bl2,sz2,pe2,place,to2,at0,ix,it⟩ : Cm)]).map cmD := by rw [List.map_append]; rfl
   dsimp only at hE
   rw [hE] at m109 U
   obtain ⟨ha1,ha2,ha3⟩ := rApp_s (c := (⟨kd,vo2,bl2,sz2,pe2,place,to2,at0,ix,it⟩ : Cm)) hS hV (fun e he => (hitb e he).2)
   rw [hap] at ha1 ha2 ha3; dsimp only at ha1 ha2 ha3
   exact ⟨l.length - (i + 4),by omega,i + 4,k + 1,_,_,_,L2,cs ++ [(⟨kd,vo2,bl2,sz2,pe2,place,to2,at0,ix,it⟩ : Cm)],_,_,by omega,by omega,by rw [List.length_append,hlen]; rfl,csR_snoc hcs hR hitb,by rw [rrL_snoc hR,← hLc,hap],ha1,by omega,ha3,rfl,U.only [0,3,4,5],m109.ren [(1,1),(2,2),(3,3)] (by decide)⟩
  refine e_alloc U m57 104 fct24 rfl fun g115 Y w116 U m116 _ _ =>?_
  refine ⟨fun _ => (m116.to ⟨il,il,il,il,il,il,il,trivial⟩),?_⟩
  refine se 21 ?_
  refine ecl U Tryz.func41 rfl (scmd_v k id x th _ _ _ _ _ _ _ _ _ _ _ (fun h => hV _ (hx1 h)) hx0 (by omega) (by omega) (hlb _ (by omega)) (hlb _ (by omega)) (hlb _ (by omega)) (hlb _ (by omega))) ?_
  rintro e w117 ⟨kd,vo2,bl2,sz2,pe2,to2,at0,ix,place,it,pp9,cp9,pi9,ci9,rfl,hR,hitb,hd117,he117,hb117⟩
  have m118 := m116.callF2 105 106 rfl rfl hb117 hd117 he117
  refine ⟨_,rfl,?_⟩; intro Y U
  refine se 23 ?_
  refine stw U m118 104 fct19 fun w120 m120 _ =>?_
  refine wpAnyE_done (by kernel_rfl) ?_ _
  refine hK7 _ _ ?_
  replace U := U.oz [0,3,4,5,9]
  refine zsr fun K10 hK10 =>?_
  refine goCh U (.loadBR m120 (i := 104) rfl rfl U38 rfl fct19 (by simp) (by dsimp only [List.drop,List.take] <;> rfl) .nil) fun Y U =>?_
  refine plz (ecl U Tryz.func12 rfl (rputCmd_x kd vo2 bl2 sz2 pe2 to2 at0 ix place it _ _ _ _ _ _ ((m120.rd (i := 105) rfl).any) ((m120.rd (i := 106) rfl).any) (hR.ok (fun e he => (hitb e he).2))) ?_)
  rintro e w124 ⟨p124,c124,rfl,hd124,hb124⟩
  have m125 := m120.callF 107 rfl hb124 hd124
  refine ⟨_,rfl,?_⟩; intro Y U
  refine gz hK10 U (.move rfl<|.extract rfl rfl<|.extract rfl rfl<|.assign rfl<|.assign rfl<|.nil) fun Y U =>?_
  replace U := U.oz [0,3,4,5,9,10]
  refine zsr fun K11 hK11 =>?_
  refine goCh U (.move rfl<|.move rfl .nil) fun Y U =>?_
  refine plz (ecl U Tryz.func15 rfl (rapply_e _ _ k L _ _ kd vo2 bl2 sz2 pe2 to2 at0 ix place it _ _ _ hV (by omega) (by omega) hS.nodup (hR.ok (fun e he => (hitb e he).2)) (m125.into [(1,1),(2,2),(3,107)] (by decide) rfl)) ?_)
  rintro e w137 ⟨L2,e1,rl1,rf1,rn1,p137,c137,rfl,hap,hm137⟩
  have mx137 := m125.back hm137 [(1,1),(2,2)] (by decide); clear hm137 m125
  have m137 := mx137.oz [1,2,3,100,101,102,103,104,105,106]
  refine ⟨_,rfl,?_⟩; intro Y U
  refine znl (hK11 _ _ ?_)
  refine wp_region_lit ?_
  refine goCh U (.move rfl<|.loadBR m137 (i := 104) rfl rfl U38 rfl fct19 (by simp) (by dsimp only [List.drop,List.take] <;> rfl) .nil) fun Y U =>?_
  refine plz (e_litR U m137 108 (mm := 10) rfl (.cons rfl rfl (.cons (.v _) (.cons (.v _) (.cons (.v _) (.cons (.v _) (.cons (.v _) (.cons (m137.rd (i := 105) rfl) (.cons (.v _) (.cons (.v _) (.cons (.v _) (.cons (m137.rd (i := 106) rfl) .nil)))))))))) .nil) U24 fct36 rfl rfl rfl rfl rfl fun g141 Y w142 U m142 =>?_)
  have m144 := m142.freezeR 108 rfl
  refine plz (e_appR U m144 3 rfl rfl rfl (m144.rd (i := 108) rfl) U24 fct36 rfl rfl (by decide) (by rw [List.length_map,List.length_singleton]; have := hlen; omega) rfl fun p143 c143 Y w145 U m145 =>?_)
  refine gz hK3 U (.assign rfl .nil) fun Y U =>?_
  replace U := U.oz [0,3,4,5]
  refine wp_region_lit ?_
  refine goCh U (.move rfl<|.inc (i + 4)<|.assign rfl .nil) fun Y U =>?_
  refine wpList_nil ?_
  show ∃ n',n' < _ ∧ _
  have hE : (cs.map cmD) ++ [[.v (.int .i64 (⟨kd,vo2,bl2,sz2,pe2,place,to2,at0,ix,it⟩ : Cm).kd),.v (.int .i64 (⟨kd,vo2,bl2,sz2,pe2,place,to2,at0,ix,it⟩ : Cm).vo),.v (.int .i64 (⟨kd,vo2,bl2,sz2,pe2,place,to2,at0,ix,it⟩ : Cm).bl),.v (.int .i64 (⟨kd,vo2,bl2,sz2,pe2,place,to2,at0,ix,it⟩ : Cm).sz),.v (.int .i64 (⟨kd,vo2,bl2,sz2,pe2,place,to2,at0,ix,it⟩ : Cm).pe),.ns .i64 (⟨kd,vo2,bl2,sz2,pe2,place,to2,at0,ix,it⟩ : Cm).pl,.v (.int .i64 (⟨kd,vo2,bl2,sz2,pe2,place,to2,at0,ix,it⟩ : Cm).to),.v (.int .i64 (⟨kd,vo2,bl2,sz2,pe2,place,to2,at0,ix,it⟩ : Cm).at0),.v (.int .i64 (⟨kd,vo2,bl2,sz2,pe2,place,to2,at0,ix,it⟩ : Cm).ix),.l 2 ((⟨kd,vo2,bl2,sz2,pe2,place,to2,at0,ix,it⟩ : Cm).its.map itD)]] = (cs ++ [(⟨kd,vo2,bl2,sz2,pe2,place,to2,at0,ix,it⟩ : Cm)]).map cmD := by rw [List.map_append]; rfl
  dsimp only at hE
  rw [hE] at m145 U
  obtain ⟨ha1,ha2,ha3⟩ := rApp_s (c := (⟨kd,vo2,bl2,sz2,pe2,place,to2,at0,ix,it⟩ : Cm)) hS hV (fun e he => (hitb e he).2)
  rw [hap] at ha1 ha2 ha3; dsimp only at ha1 ha2 ha3
  exact ⟨l.length - (i + 4),by omega,i + 4,k + 1,_,_,_,L2,cs ++ [(⟨kd,vo2,bl2,sz2,pe2,place,to2,at0,ix,it⟩ : Cm)],_,_,by omega,by omega,by rw [List.length_append,hlen]; rfl,csR_snoc hcs hR hitb,by rw [rrL_snoc hR,← hLc,hap],ha1,by omega,ha3,rfl,U.only [0,3,4,5],m145.ren [(1,1),(2,2),(3,3)] (by decide)⟩
 intro hb15 U; try simp only [QQ,Qax] at hb15
 refine wcf U ?_
 refine wp_exit ?_
 refine hK1 _ _ ?_
 refine regS U (.move rfl<|.assign rfl .nil) fun Y U =>?_
 refine rt1 U ?_
 exact ⟨cs,_,_,rfl,by omega,hcs,m9.outR (i := 3) rfl,m9.below⟩
theorem svol_r (l : List Int) (pl : Option Addr) (cl : Nat) (w0 : World) (h0 : Rd (fun _ => True) w0 (.slice pl l.length cl) (.ns .u8 l)) (hl : l.length ≤ 100000) (hlb : ∀ j,j < l.length → 0 ≤ l.getD j 0 ∧ l.getD j 0 ≤ 255) :
   Calls Tryz.prog 34 #[.slice pl l.length cl] w0 fun e w' => ∃ (x : VolV) (p1 p2 p3 : Option Addr) (d1 d2 d3 : Nat),e = .returned (.agg #[.int .i64 x.vo,.int .i64 x.bl,.int .i64 x.sz,.int .i64 x.pe,.slice p1 x.place.length d1,.int .i64 x.to,.int .i64 x.ne,.bool x.hi,.int .i64 x.fl,.slice p2 x.pins.length d2,.slice p3 (x.ws.map wrD).length d3]) ∧ VolS l.length x ∧ Rd (New w0) w' (.slice p1 x.place.length d1) (.ns .i64 x.place) ∧ Rd (New w0) w' (.slice p2 x.pins.length d2) (.ns .i64 x.pins) ∧ Rd (New w0) w' (.slice p3 (x.ws.map wrD).length d3) (.l 2 (x.ws.map wrD)) ∧ Below w0.heap.size w0 w' := by
 refine ent1 Tryz.func34 rfl Tryz.ntmps34 fun Y U =>?_
 have m0 := MemOk.start (fun _ => False) w0
 refine zsr fun K0 hK0 =>?_
 refine plz (e_alloc U m0 40 fct14 rfl fun g1 Y w2 U m2 _ _ =>?_)
 refine znl (hK0 _ _ ?_)
 refine zsr fun K1 hK1 =>?_
 refine goCh U (.build rfl fct39 fl32zsV rfl (by dsimp only [setL,List.set] <;> rfl) .nil) fun Y U =>?_
 refine plz (e_box U m2 41 (cs := [_]) rfl rfl rfl fun g5 Y w6 U m6 _ _ =>?_)
 refine gz hK1 U (.assign rfl .nil) fun Y U =>?_
 refine wsk fun K2 hK2 =>?_
 refine regS U (.assign rfl .nil) fun Y U =>?_
 refine wp_block ?_
 refine wp_loop_ghost (fun g a w => ∃ (i k B2 B c : Nat) (L : List VolV) (p : Option Addr),i ≤ l.length ∧ k ≤ i ∧ g = l.length - i ∧ (∀ y ∈ L,VolS k y) ∧ L.length ≤ k ∧ SrtV L ∧ Has 72 [(0,.slice pl l.length cl),(2,.pointer (some ⟨B2,0,none⟩)),(3,.pointer (some ⟨B,0,none⟩)),(4,.int .i64 i)] a ∧ MemOk (cn w0) w0 [(1,.box B 32 [.slice p (L.map volD).length c]),(2,.dat (.slice p (L.map volD).length c) (.l 11 (L.map volD))),(3,.box B2 51 [.int .i64 0,.int .i64 0,.int .i64 0,.int .i64 0,.slice none 0 0,.int .i64 0,.int .i64 0,.bool false,.int .i64 0,.slice none 0 0,.slice none 0 0])] w) (l.length) ?_ ?_
 · have mz := m6.dat 2 rfl (Rd.l0 none 0 11)
   exact ⟨0,0,_,_,_,[],_,Nat.zero_le _,Nat.zero_le _,rfl,(fun y hy => by cases hy),Nat.zero_le _,List.Pairwise.nil,U.only [0,2,3,4],mz.ren [(1,41),(2,2),(3,40)] (by decide)⟩
 clear U m6
 rintro g Y w9 ⟨i,k,B2,B,c,L,p,hil,hki,hg,hV,hLl,hS,U,m9⟩
 refine wsk fun K3 hK3 =>?_
 refine regS U (.move rfl<|.inc (i + 3)<|.move rfl<|.len rfl U22<|.lss rfl rfl .nil) fun Y U =>?_
 refine bc U 17 ?_ ?_
 ·
  intro hb15 U; try simp only [QQ,Qax] at hb15
  have hi9 : i + 3 < l.length := by omega
  refine wct U ?_
  refine zss (hK3 _ _ ?_)
  refine wsk fun K4 hK4 =>?_
  refine wp_block ?_
  refine zsr fun K5 hK5 =>?_
  refine goCh U (.move rfl .nil) fun Y U =>?_
  refine plz (ecl U Tryz.func19 rfl (rmVol _ _ L _ _ _ _ (by omega) (m9.into [(1,1),(2,2)] (by decide) rfl)) ?_)
  rintro e w18 ⟨x,th,p118,p218,p318,d118,d218,d318,rfl,hx1,hx0,hm18⟩
  have mx18 := m9.back hm18 [(1,1),(2,2),(100,3),(101,4),(102,5)] (by decide); clear hm18 m9
  have m18 := mx18.oz [1,2,100,101,102,3]
  refine ⟨_,rfl,?_⟩; intro Y U
  refine goCh U (.move rfl<|.extract rfl rfl<|.extract rfl rfl .nil) fun Y U =>?_
  refine plz (e_alloc U m18 103 fct14 rfl fun g23 Y w24 U m24 _ _ =>?_)
  refine plz (stw U m24 103 fct13 fun w25 m25 _ =>?_)
  refine gz hK5 U (.assign rfl .nil) fun Y U =>?_
  refine wsk fun K6 hK6 =>?_
  replace U := U.oz [0,2,3,4,5,6]
  obtain ⟨gx29,ox29,hp29,hl29,hrg29⟩ := h0.extN (i) (by omega)
  revert U
  cases hp29
  intro U
  obtain ⟨gx31,ox31,hp31,hl31,hrg31⟩ := h0.extN (i + 1) (by omega)
  revert U
  cases hp31
  intro U
  obtain ⟨gx33,ox33,hp33,hl33,hrg33⟩ := h0.extN (i + 2) (by omega)
  revert U
  cases hp33
  intro U
  obtain ⟨gx35,ox35,hp35,hl35,hrg35⟩ := h0.extN (i + 3) (by omega)
  revert U
  cases hp35
  intro U
  have m36 := m25.oz [1,2,3,100,101,102,103]
  refine region_p 21 (B := [(1,_),(2,_),(3,_),(100,_),(101,_),(102,_),(103,_)]) (m36.to ⟨il,il,il,il,il,il,il,trivial⟩) m36 (by kernel_rfl) (fun w37 hP37 m37 =>?_); clear m36
  refine goR hP37 [0,1,2,3,4,5,6,7,8,9,10,11,12,13,14,15,16,17,18,19,20] [0,5,10,15,20] 21 0 2097151 U (m37.to ⟨il,il,il,il,il,il,il,trivial⟩) (.loadBR hh (i := 103) rfl rfl U51 rfl fct13 (by simp) (by dsimp only [List.drop,List.take] <;> rfl)<|.move rfl<|.move rfl<|.move rfl<|.p (fun _ _ h_ => y_idx h_ rfl rfl U22 fct23 (i) rfl (by omega))<|.loadAt1 (fun _ h_ => (hrg29 h_ rfl)) (q := 0) rfl rfl rfl U5 rfl<|.move rfl<|.move rfl<|.add rfl rfl (r := ((i + 1 : Nat) : Int)) (by rw [IntWalk.i64_in _ (by omega)]; omega)<|.p (fun _ _ h_ => y_idx h_ rfl rfl U22 fct23 (i + 1) rfl (by omega))<|.loadAt1 (fun _ h_ => (hrg31 h_ rfl)) (q := 0) rfl rfl rfl U5 rfl<|.move rfl<|.move rfl<|.add rfl rfl (r := ((i + 2 : Nat) : Int)) (by rw [IntWalk.i64_in _ (by omega)]; omega)<|.p (fun _ _ h_ => y_idx h_ rfl rfl U22 fct23 (i + 2) rfl (by omega))<|.loadAt1 (fun _ h_ => (hrg33 h_ rfl)) (q := 0) rfl rfl rfl U5 rfl<|.move rfl<|.move rfl<|.add rfl rfl (r := ((i + 3 : Nat) : Int)) (by rw [IntWalk.i64_in _ (by omega)]; omega)<|.p (fun _ _ h_ => y_idx h_ rfl rfl U22 fct23 (i + 3) rfl (by omega))<|.loadAt1 (fun _ h_ => (hrg35 h_ rfl)) (q := 0) rfl rfl rfl U5 rfl .nil) fun Y U =>?_
  refine se 21 ?_
  refine ecl U Tryz.func41 rfl (scmd_p k x th _ _ _ _ _ _ _ _ _ _ _ (fun h => hV _ (hx1 h)) hx0 (by omega) (hlb _ (by omega)) (hlb _ (by omega)) (hlb _ (by omega)) (hlb _ (by omega))) ?_
  rintro e w59 ⟨kd,vo2,bl2,sz2,pe2,to2,at0,ix,place,it,pp9,cp9,pi9,ci9,rfl,hR,hitb,hd59,he59,hb59⟩
  have m60 := m37.callF2 104 105 rfl rfl hb59 hd59 he59
  refine ⟨_,rfl,?_⟩; intro Y U
  refine se 22 ?_
  refine ecl U Tryz.func12 rfl (rputCmd_x kd vo2 bl2 sz2 pe2 to2 at0 ix place it _ _ _ _ _ _ ((m60.rd (i := 104) rfl).any) ((m60.rd (i := 105) rfl).any) (hR.ok (fun e he => (hitb e he).2))) ?_
  rintro e w62 ⟨p62,c62,rfl,hd62,hb62⟩
  have m63 := m60.callF 106 rfl hb62 hd62
  refine ⟨_,rfl,?_⟩; intro Y U
  refine goB hP37 [23,24,25,26,27] 5 8388607 268435455 U (.move rfl<|.extract rfl rfl<|.extract rfl rfl<|.assign rfl<|.assign rfl .nil) fun Y U =>?_
  refine wpAnyE_done (by kernel_rfl) ?_ _
  refine hK6 _ _ ?_
  replace U := U.oz [0,2,3,4,7]
  refine wp_region_lit ?_
  refine goCh U (.move rfl<|.move rfl .nil) fun Y U =>?_
  refine plz (ecl U Tryz.func15 rfl (rapply_e _ _ k L _ _ kd vo2 bl2 sz2 pe2 to2 at0 ix place it _ _ _ hV (by omega) (by omega) hS.nodup (hR.ok (fun e he => (hitb e he).2)) (m63.into [(1,1),(2,2),(3,106)] (by decide) rfl)) ?_)
  rintro e w73 ⟨L2,e1,rl1,rf1,rn1,p73,c73,rfl,hap,hm73⟩
  have mx73 := m63.back hm73 [(1,1),(2,2)] (by decide); clear hm73 m63
  have m73 := mx73.oz [1,2,3,100,101,102,103,104,105]
  refine ⟨_,rfl,?_⟩; intro Y U
  refine znl (hK4 _ _ ?_)
  refine wp_region_lit ?_
  refine goCh U (.move rfl<|.inc (i + 4)<|.assign rfl .nil) fun Y U =>?_
  refine wpList_nil ?_
  show ∃ n',n' < _ ∧ _
  obtain ⟨ha1,ha2,ha3⟩ := rApp_s (c := (⟨kd,vo2,bl2,sz2,pe2,place,to2,at0,ix,it⟩ : Cm)) hS hV (fun e he => (hitb e he).2)
  rw [hap] at ha1 ha2 ha3; dsimp only at ha1 ha2 ha3
  exact ⟨l.length - (i + 4),by omega,i + 4,k + 1,_,_,_,L2,_,by omega,by omega,rfl,ha1,by omega,ha3,U.only [0,2,3,4],m73.ren [(1,1),(2,2),(3,3)] (by decide)⟩
 intro hb15 U; try simp only [QQ,Qax] at hb15
 refine wcf U ?_
 refine wp_exit ?_
 refine hK2 _ _ ?_
 refine wsk fun K7 hK7 =>?_
 refine regS U (.move rfl<|.nilCheck rfl<|.fa 0 rfl U32<|.lb m9 1 U30 rfl rfl rfl<|.len rfl U30<|.eql rfl rfl .nil) fun Y U =>?_
 refine bc U 59 ?_ ?_
 ·
  intro hb84 U; try simp only [QQ,Qax] at hb84
  refine wct U ?_
  replace U := U.oz [0,2,3,4]
  refine zsr fun K8 hK8 =>?_
  refine plz (ecl U Tryz.func42 rfl (create_e 0 3 1 1 0 _ (by omega) (by omega) (by omega) (by omega)) ?_)
  rintro e w86 ⟨bl2,sz2,pe2,place,p86,c86,rfl,hbl1,hsz1,hpe1,hpeb,hplc,hpl9,hd86,hb86⟩
  have m87 := m9.callF 100 rfl hb86 hd86
  refine ⟨_,rfl,?_⟩; intro Y U
  have hbl2 : bl2 = 4 := hbl1.trans (by decide)
  have hsz2 : sz2 = 2 := hsz1.trans (by decide)
  have hN : NewOk (Int.tmod 0 3) bl2 sz2 pe2 0 place := ⟨by decide,by decide,by omega,by omega,by omega,by omega,by omega,by omega,hplc,by omega,by omega⟩
  refine plz (ecl U Tryz.func50 rfl (rnew_yes _ _ bl2 sz2 pe2 0 _ _ place _ _ _ _ _ _ ((m87.rd (i := 100) rfl).any) (by omega) hN) ?_)
  rintro e w89 ⟨p89,c89,rfl,hd89,hb89⟩
  have m90 := m87.callF 101 rfl hb89 hd89
  refine ⟨_,rfl,?_⟩; intro Y U
  refine goCh U (.move rfl<|.extract rfl rfl<|.extract rfl rfl .nil) fun Y U =>?_
  refine plz (e_alloc U m90 102 fct14 rfl fun g95 Y w96 U m96 _ _ =>?_)
  refine plz (stw U m96 102 fct13 fun w97 m97 _ =>?_)
  refine gz hK8 U (.assign rfl .nil) fun Y U =>?_
  replace U := U.oz [0,2,3,4,9]
  refine zsr fun K9 hK9 =>?_
  refine goCh U (.loadBR m97 (i := 102) rfl rfl U51 rfl fct13 (by simp) (by dsimp only [List.drop,List.take] <;> rfl) .nil) fun Y U =>?_
  refine plz (stw U m97 3 fct13 fun w102 m102 _ =>?_)
  refine znl (hK9 _ _ ?_)
  refine rtd (retC (fn := Tryz.f34) U m102 (i := 3) rfl rfl rfl U51 rfl fct13 ?_)
  exact ⟨newV (Int.tmod 0 3) bl2 sz2 pe2 0 place,_,_,_,_,_,_,rfl,newV_s hN,m102.outF (i := 101) rfl,Rd.nilN _ _ .i64 none,Rd.l0 none 0 2,m102.below⟩
 intro hb84 U; try simp only [QQ,Qax] at hb84
 have hL0 : 0 < L.length := by simp at hb84; exact List.length_pos_iff.2 hb84
 obtain ⟨x,hes⟩ : ∃ x,L[0]? = some x := ⟨_,List.getElem?_eq_getElem hL0⟩
 refine wcf U ?_
 refine zss (hK7 _ _ ?_)
 replace U := U.oz [0,2,3,4]
 refine zsr fun K10 hK10 =>?_
 refine goCh U (.move rfl<|.nilCheck rfl<|.fa 0 rfl U32<|.lb m9 1 U30 rfl rfl rfl .nil) fun Y U =>?_
 obtain ⟨b113,o113,vs113,hp113,hR113,ho113,m113⟩ := m9.openR (i := 2) rfl (0) (r := [.v (.int .i64 x.vo),.v (.int .i64 x.bl),.v (.int .i64 x.sz),.v (.int .i64 x.pe),.ns .i64 x.place,.v (.int .i64 x.to),.v (.int .i64 x.ne),.v (.bool x.hi),.v (.int .i64 x.fl),.ns .i64 x.pins,.l 2 (x.ws.map wrD)]) (volD_get hes) 100 rfl
 revert U
 cases hp113; clear m9 ho113
 rcases hR113 with _ | ⟨hd113_0,_ | ⟨hd113_1,_ | ⟨hd113_2,_ | ⟨hd113_3,_ | ⟨hd113_4,_ | ⟨hd113_5,_ | ⟨hd113_6,_ | ⟨hd113_7,_ | ⟨hd113_8,_ | ⟨hd113_9,_ | ⟨hd113_10,_ | _⟩⟩⟩⟩⟩⟩⟩⟩⟩⟩⟩
 obtain rfl := hd113_0.v_out
 clear hd113_0
 obtain rfl := hd113_1.v_out
 clear hd113_1
 obtain rfl := hd113_2.v_out
 clear hd113_2
 obtain rfl := hd113_3.v_out
 clear hd113_3
 obtain ⟨p114,c114,hv114,hc114⟩ := hd113_4.ns_shape; subst hv114
 intro U
 have m114 := m113.dat 101 rfl (hd113_4.cast (fun _ h => (free_add rfl h))); clear m113 hd113_4
 revert U
 obtain rfl := hd113_5.v_out
 clear hd113_5
 obtain rfl := hd113_6.v_out
 clear hd113_6
 obtain rfl := hd113_7.v_out
 clear hd113_7
 obtain rfl := hd113_8.v_out
 clear hd113_8
 obtain ⟨p115,c115,hv115,hc115⟩ := hd113_9.ns_shape; subst hv115
 intro U
 have m115 := m114.dat 102 rfl (hd113_9.cast (fun _ h => (free_add rfl (free_add rfl h)))); clear m114 hd113_9
 revert U
 obtain ⟨p116,c116,hv116,hc116⟩ := hd113_10.l_shape; subst hv116
 intro U
 have m116 := m115.dat 103 rfl (hd113_10.cast (fun _ h => (free_add rfl (free_add rfl (free_add rfl h))))); clear m115 hd113_10
 refine goCh U (.c rfl (fun _ h_ => y_idx h_ rfl rfl U30 fct13 (0) rfl (by simpa using hL0))<|.loadCR m116 (i := 100) rfl rfl U51 rfl fct13 .nil) fun Y U =>?_
 refine plz (stw U m116 3 fct13 fun w119 m119 _ =>?_)
 refine znl (hK10 _ _ ?_)
 refine rtd (retC (fn := Tryz.f34) U m119 (i := 3) rfl rfl rfl U51 rfl fct13 ?_)
 exact ⟨x,_,_,_,_,_,_,rfl,(hV _ (List.mem_of_getElem? hes)).up (by omega),m119.outF (i := 101) rfl,m119.outF (i := 102) rfl,m119.outF (i := 103) rfl,m119.below⟩
end
section
def putA : List Value → Nat → List (Nat × Value) → Option (List Value)
 | z,_,[] => some z
 | z,sz,(i,v) :: r => bif Nat.beq v.cells.toList.length sz && Nat.ble (i * sz + sz) z.length then putA (z.take (i * sz) ++ v.cells.toList ++ z.drop (i * sz + sz)) sz r else none
theorem putA_fill (sz : Nat) : ∀ (pl : List (Nat × Value)) (z cs : List Value),putA z sz pl = some cs → Instr.fill (fun i => some (i * sz,sz)) z.toArray pl = some cs.toArray
 | [],z,cs,h => by unfold putA at h; cases h; rfl
 | (i,v) :: r,z,cs,h => by
   unfold putA at h
   cases hb : (Nat.beq v.cells.toList.length sz && Nat.ble (i * sz + sz) z.length) with
   | false => rw [hb] at h; cases h
   | true =>
     rw [hb] at h
     dsimp only [cond] at h
     rw [Bool.and_eq_true] at hb
     have h1 := Nat.eq_of_beq_eq_true hb.1
     have h2 := Nat.le_of_ble_eq_true hb.2
     have hsz : v.cells.size = sz := by simpa using h1
     rw [Instr.fill]
     dsimp only
     have e : (v.cells.zipIdx.foldl (fun cs (x : Value × Nat) => cs.setIfInBounds (i * sz + x.2) x.1) z.toArray) = (z.take (i * sz) ++ v.cells.toList ++ z.drop (i * sz + sz)).toArray := by
       apply Array.ext'
       have := fold_set (i * sz) v.cells.toList 0 z (by rw [Nat.add_zero,h1]; exact h2)
       rw [Nat.add_zero,h1] at this
       rw [← this,← Array.foldl_toList,Array.toList_zipIdx]
     rw [if_neg (by simp [hsz]; omega)]
     have := putA_fill sz r _ _ h
     rw [← this,← e]
theorem built_arrS {P : Program} {t e : TypeId} {len sz : Nat} {z cs : List Value} (hz : ((P.info? t).bind (·.zero)).map (·.cells.toList) = some z) (hu : P.underlying t = some (.array len e)) (he : (P.info? e).map (·.size) = some sz) (pl : List (Nat × Value)) (hp : putA z sz pl = some cs) : P.built t pl = some cs.toArray := by
 unfold Program.built
 cases hi : P.info? t with
 | none => simp [hi] at hz
 | some it =>
   cases hzz : it.zero with
   | none => simp [hi,hzz] at hz
   | some zz =>
     cases hie : P.info? e with
     | none => simp [hie] at he
     | some ie =>
       have hs1 : ie.size = sz := by simpa [hie] using he
       have hzl : zz.cells.toList = z := by simpa [hi,hzz] using hz
       have hzc : zz.cells = z.toArray := by rw [← hzl]
       simp only [hu,hzz,hie,hzc,hs1]
       exact putA_fill sz pl z cs hp
theorem y_buildAS {P : Program} {n : Nat} {T : List (Nat × Value)} {a : Act} {w : World} {tt : TypeId} {pos : String} {af : Array Edge} {gd : Option (Nat × Bool)} {d : Option Tmp} (h : Has n T a) {t e : TypeId} {len sz : Nat} {parts : Array (Nat × Operand)} {z cs : List Value} {pl : List (Nat × Value)} (hp : K.evP T parts.toList = some pl) (hz : ((P.info? t).bind (·.zero)).map (·.cells.toList) = some z) (hu : P.underlying t = some (.array len e)) (he : (P.info? e).map (·.size) = some sz) (hc : putA z sz pl = some cs) : Yl P a w ⟨d,.build t parts,tt,pos,af,gd⟩ (.agg cs.toArray) := by
 have hb := built_arrS hz hu he pl hc
 have hpl := h.evP hp
 show (execOp _ _).run P w = _
 have hr := run_build (P := P) w t (parts.map fun (i,x) => (i,a.eval x)) cs.toArray (by rw [Array.toList_map]; rw [← hpl] at hb; exact hb)
 simp only [execOp,Sem.run_bind,hr,Result.andThen_ok,Sem.run_pure]
end
end Go.Proofs.YtkehgingagggaaaGreat.K
