/- General laws of walks. -/
import Derived.Test.YtkehgingagggaaaGreatG14
namespace Go.Proofs.YtkehgingagggaaaGreat.K
open Go.ChangeShapes Go.WideShapes Go.ChangeAt Go.RowKit
set_option linter.unusedVariables false
set_option linter.unusedSimpArgs false
set_option maxRecDepth 100000
set_option maxHeartbeats 4000000
set_option autoImplicit true
set_option relaxedAutoImplicit true
section
theorem yl:iO Tryz.prog 38 [.int .i64 0,.int .i64 0,.int .i64 0,.int .i64 0,.int .i64 0,.slice none 0 0,.int .i64 0,.int .i64 0,.int .i64 0,.slice none 0 0]=true:=by kernel_rfl
theorem iW{fl:Int}{pins:List Int}(h:0<k):sf fl pins k=pins.getD (k - 1) 0:=by
 cases k with
 | zero=>omega
 | succ k=>rfl
theorem jP{fl x:Int}{pins:List Int}(h0:k=0→fl≤x)(h1:0<k→pins.getD (k - 1) 0≤x):sf fl pins k≤x:=by
 cases k with
 | zero=>exact h0 rfl
 | succ k=>exact h1 (by omega)
theorem pZ(vo bl sz pe to ne fl:Int)(hi:Bool)(place pins:List Int)(ws:List (Int×List (Int×List Int)))(pp pn pw:Option Addr)(cp cn9 cw:Nat)(w0:World)(h0:Rd (fun _=>True) w0 (.slice pp place.length cp) (.ns .i64 place))(h1:Rd (fun _=>True) w0 (.slice pn pins.length cn9) (.ns .i64 pins))(h2:Rd (fun _=>True) w0 (.slice pw ws.length cw) (.l 2 (ws.map wrD)))(hn:place.length≤1000000)(hp:pins.length≤1000000)(hl:ws.length≤1000000)(hwl:∀ e∈ws,e.2.length≤1000000) :
   Calls Tryz.prog 67 #[.agg #[.int .i64 vo,.int .i64 bl,.int .i64 sz,.int .i64 pe,.slice pp place.length cp,.int .i64 to,.int .i64 ne,.bool hi,.int .i64 fl,.slice pn pins.length cn9,.slice pw ws.length cw]] w0 fun e w' => ∃ b:Bool,e=.returned (.bool b)∧(b=true↔VolR vo bl sz pe to ne fl hi place pins ws)∧Below w0.heap.size w0 w':=by
 refine i9 Tryz.func67 rfl Tryz.ntmps67 fun Y U =>?_
 have m0:=MemOk.start (fun _=>False) w0
 refine zsr fun K0 hK0=>plz<|iu U m0 20 (cs:=[_,_,_,_,_,_,_,_,_,_,_]) rfl rfl rfl fun g1 Y w2 U m2 _ _=>gz hK0 U (.assign rfl .nil) fun Y U=>wsk fun K1 hK1=>wsk fun K2 hK2 =>?_
 have m4:=m2.oz [20]
 refine region_p 60 (B:=[(20,_)]) (m4.to i1l) m4 (by kernel_rfl) (fun w5 hP5 m5 =>?_);clear m4
 refine goR hP5 [0,1,2,3,4,5,6,7,8,9,10,11,12] [1,3,5,7,9,11] 13 0 8191 U (m5.to i1l) (.fa 0 rfl U51<|.lb hh 20 U3 rfl rfl rfl<|.fa 1 rfl U51<|.lb hh 20 U3 rfl rfl rfl<|.fa 2 rfl U51<|.lb hh 20 U3 rfl rfl rfl<|.fa 3 rfl U51<|.lb hh 20 U3 rfl rfl rfl<|.fa 4 rfl U51<|.lb hh 20 U35 rfl rfl rfl<|.fa 5 rfl U51<|.lb hh 20 U3 rfl rfl rfl<|.build rfl i8 yl rfl (by dsimp only [iY,List.set] <;> rfl) .nil) fun Y U=>so 13 ?_
 refine ecl U Tryz.func97 rfl (mI _ _ _ _ _ _ _ _ place _ _ _ _ _ _ ((h0.now' m5 rfl).any) hn) ?_
 rintro e f8 ⟨sb,rfl,hsb,dF⟩
 have ab:=m5.later dF
 refine⟨_,rfl,?_⟩;intro Y U
 refine⟨ab.to i1l,?_⟩
 refine goA hP5 [14,15] 2 16383 65535 U (ab.to i1l) (.not rfl<|.move rfl .nil) fun Y U=>bc U 20 ?_ ?_
 ·
  intro b1 U;try simp only [QQ,Qax] at b1
  refine goA hP5 [16,17,18,19,20,21,22,23,24,25,26,27,28,29,30,31,32,33,34,35,36,37,38,39,40,41,42,43,44,45,46,47,48,49,50,51,52,53,54,55,56,57,58,59] 44 65535 1152921504606846975 U (ab.to i1l) (.s<|.s<|.s<|.pickT rfl rfl<|.move rfl<|.s<|.s<|.s<|.s<|.s<|.pickT rfl rfl<|.move rfl<|.s<|.s<|.s<|.u<|.u<|.u<|.s<|.pickT rfl rfl<|.move rfl<|.s<|.s<|.s<|.s<|.u<|.u<|.u<|.u<|.u<|.s<|.pickT rfl rfl<|.move rfl<|.s<|.s<|.s<|.pickT rfl rfl<|.move rfl<|.s<|.s<|.s<|.s<|.s<|.pickT rfl rfl .nil) fun Y U=>wad<|hK2 _ _<|wct U ?_
  replace U:=U.oz [1,2]
  refine hC U (.assign rfl .nil) fun Y U=>rt1 U ?_
  exact⟨false,rfl,iff_of_false (by simp) (fun h=>by obtain⟨v1,v2,v3,v4,v5,v6,v7,v8,v9⟩:=h;have aa:=hsb.2 v1;first|omega|(simp_all;done)|(simp_all;omega)),ab.below⟩
 intro b1 U;try simp only [QQ,Qax] at b1
 refine goR hP5 [16,17,18,19,20] [17] 5 65535 2097151 U (ab.to i1l) (.fa 6 rfl U51<|.lb hh 20 U3 rfl rfl rfl<|.lss rfl rfl<|.pickF rfl rfl<|.move rfl .nil) fun Y U=>bc U 25 ?_ ?_
 ·
  intro b4 U;try simp only [QQ,Qax] at b4
  refine goA hP5 [21,22,23,24,25,26,27,28,29,30,31,32,33,34,35,36,37,38,39,40,41,42,43,44,45,46,47,48,49,50,51,52,53,54,55,56,57,58,59] 39 2097151 1152921504606846975 U (ab.to i1l) (.s<|.s<|.s<|.s<|.s<|.pickT rfl rfl<|.move rfl<|.s<|.s<|.s<|.u<|.u<|.u<|.s<|.pickT rfl rfl<|.move rfl<|.s<|.s<|.s<|.s<|.u<|.u<|.u<|.u<|.u<|.s<|.pickT rfl rfl<|.move rfl<|.s<|.s<|.s<|.pickT rfl rfl<|.move rfl<|.s<|.s<|.s<|.s<|.s<|.pickT rfl rfl .nil) fun Y U=>wad<|hK2 _ _<|wct U ?_
  replace U:=U.oz [1,2]
  refine hC U (.assign rfl .nil) fun Y U=>rt1 U ?_
  exact⟨false,rfl,iff_of_false (by simp) (fun h=>by obtain⟨v1,v2,v3,v4,v5,v6,v7,v8,v9⟩:=h;have aa:=hsb.2 v1;first|omega|(simp_all;done)|(simp_all;omega)),ab.below⟩
 intro b4 U;try simp only [QQ,Qax] at b4
 refine goR hP5 [21,22,23,24,25,26,27] [22,24] 7 2097151 268435455 U (ab.to i1l) (.fa 6 rfl U51<|.lb hh 20 U3 rfl rfl rfl<|.fa 5 rfl U51<|.lb hh 20 U3 rfl rfl rfl<|.gtr rfl rfl<|.pickF rfl rfl<|.move rfl .nil) fun Y U=>bc U 32 ?_ ?_
 ·
  intro aV U;try simp only [QQ,Qax] at aV
  refine goA hP5 [28,29,30,31,32,33,34,35,36,37,38,39,40,41,42,43,44,45,46,47,48,49,50,51,52,53,54,55,56,57,58,59] 32 268435455 1152921504606846975 U (ab.to i1l) (.s<|.s<|.s<|.u<|.u<|.u<|.s<|.pickT rfl rfl<|.move rfl<|.s<|.s<|.s<|.s<|.u<|.u<|.u<|.u<|.u<|.s<|.pickT rfl rfl<|.move rfl<|.s<|.s<|.s<|.pickT rfl rfl<|.move rfl<|.s<|.s<|.s<|.s<|.s<|.pickT rfl rfl .nil) fun Y U=>wad<|hK2 _ _<|wct U ?_
  replace U:=U.oz [1,2]
  refine hC U (.assign rfl .nil) fun Y U=>rt1 U ?_
  exact⟨false,rfl,iff_of_false (by simp) (fun h=>by obtain⟨v1,v2,v3,v4,v5,v6,v7,v8,v9⟩:=h;have aa:=hsb.2 v1;first|omega|(simp_all;done)|(simp_all;omega)),ab.below⟩
 intro aV U;try simp only [QQ,Qax] at aV
 refine goR hP5 [28,29,30] [29] 3 268435455 2147483647 U (ab.to i1l) (.fa 7 rfl U51<|.lb hh 20 U4 rfl rfl rfl<|.move rfl .nil) fun Y U=>bc U 35 ?_ ?_
 ·
  intro aW U;try simp only [QQ,Qax] at aW
  refine goR hP5 [31,32,33,34,35,36] [32] 6 2147483647 137438953471 U (ab.to i1l) (.fa 5 rfl U51<|.lb hh 20 U3 rfl rfl rfl<|.eql rfl rfl<|.pickT rfl rfl<|.pickF rfl rfl<|.move rfl .nil) fun Y U=>bc U 41 ?_ ?_
  ·
   intro aX U;try simp only [QQ,Qax] at aX
   refine goA hP5 [37,38,39,40,41,42,43,44,45,46,47,48,49,50,51,52,53,54,55,56,57,58,59] 23 137438953471 1152921504606846975 U (ab.to i1l) (.s<|.s<|.s<|.s<|.u<|.u<|.u<|.u<|.u<|.s<|.pickT rfl rfl<|.move rfl<|.s<|.s<|.s<|.pickT rfl rfl<|.move rfl<|.s<|.s<|.s<|.s<|.s<|.pickT rfl rfl .nil) fun Y U=>wad<|hK2 _ _<|wct U ?_
   replace U:=U.oz [1,2]
   refine hC U (.assign rfl .nil) fun Y U=>rt1 U ?_
   exact⟨false,rfl,iff_of_false (by simp) (fun h=>by obtain⟨v1,v2,v3,v4,v5,v6,v7,v8,v9⟩:=h;have aa:=hsb.2 v1;first|omega|(simp_all;done)|(simp_all;omega)),ab.below⟩
  intro aX U;try simp only [QQ,Qax] at aX
  refine goR hP5 [37,38,39,40] [38] 4 137438953471 2199023255551 U (ab.to i1l) (.fa 7 rfl U51<|.lb hh 20 U4 rfl rfl rfl<|.not rfl<|.move rfl .nil) fun Y U=>bc U 45 ?_ ?_
  ·
   intro aY U;try simp only [QQ,Qax] at aY
   refine goR hP5 [41,42,43,44,45,46,47,48] [42,44] 8 2199023255551 562949953421311 U (ab.to i1l) (.fa 6 rfl U51<|.lb hh 20 U3 rfl rfl rfl<|.fa 5 rfl U51<|.lb hh 20 U3 rfl rfl rfl<|.neq rfl rfl<|.pickT rfl rfl<|.pickF rfl rfl<|.move rfl .nil) fun Y U=>bc U 53 ?_ ?_
   ·
    intro aZ U;try simp only [QQ,Qax] at aZ
    refine goA hP5 [49,50,51,52,53,54,55,56,57,58,59] 11 562949953421311 1152921504606846975 U (ab.to i1l) (.s<|.s<|.s<|.pickT rfl rfl<|.move rfl<|.s<|.s<|.s<|.s<|.s<|.pickT rfl rfl .nil) fun Y U=>wad<|hK2 _ _<|wct U ?_
    replace U:=U.oz [1,2]
    refine hC U (.assign rfl .nil) fun Y U=>rt1 U ?_
    exact⟨false,rfl,iff_of_false (by simp) (fun h=>by obtain⟨v1,v2,v3,v4,v5,v6,v7,v8,v9⟩:=h;have aa:=hsb.2 v1;first|omega|(simp_all;done)|(simp_all;omega)),ab.below⟩
   intro aZ U;try simp only [QQ,Qax] at aZ
   refine goR hP5 [49,50,51,52,53] [50] 5 562949953421311 18014398509481983 U (ab.to i1l) (.fa 8 rfl U51<|.lb hh 20 U2 rfl rfl rfl<|.lss rfl rfl<|.pickF rfl rfl<|.move rfl .nil) fun Y U=>bc U 58 ?_ ?_
   ·
    intro a0 U;try simp only [QQ,Qax] at a0
    refine goA hP5 [54,55,56,57,58,59] 6 18014398509481983 1152921504606846975 U (ab.to i1l) (.s<|.s<|.s<|.s<|.s<|.pickT rfl rfl .nil) fun Y U=>wad<|hK2 _ _<|wct U ?_
    replace U:=U.oz [1,2]
    refine hC U (.assign rfl .nil) fun Y U=>rt1 U ?_
    exact⟨false,rfl,iff_of_false (by simp) (fun h=>by obtain⟨v1,v2,v3,v4,v5,v6,v7,v8,v9⟩:=h;have aa:=hsb.2 v1;first|omega|(simp_all;done)|(simp_all;omega)),ab.below⟩
   intro a0 U;try simp only [QQ,Qax] at a0
   refine goR hP5 [54,55,56] [55,56] 3 18014398509481983 144115188075855871 U (ab.to i1l) (.fa 8 rfl U51<|.lb hh 20 U2 rfl rfl rfl<|.loadBR hh (i:=20) rfl rfl U51 rfl hH (by simp) (by dsimp only [List.drop,List.take] <;> rfl) .nil) fun Y U=>ig 57 rfl (by kernel_rfl) (iq U rfl rfl rfl rfl)<|fun K hK=>iw U Tryz.func39 rfl rfl rfl rfl (iH _ _ _ _ _ _ _ _ _ _ _ _ _ _ _ _ _ _) ?_
   rintro e fy ⟨rfl,cO⟩
   have a1:=ab.later cO
   refine⟨_,rfl,?_⟩;intro Y U
   refine hK _ _ (a1.to i1l) ?_;clear hK K
   refine goA hP5 [58,59] 2 288230376151711743 1152921504606846975 U (a1.to i1l) (.gtr rfl rfl<|.pickF rfl rfl .nil) fun Y U=>wad<|hK2 _ _<|bc U 64 ?_ ?_
   ·
    intro a2 U;try simp only [QQ,Qax] at a2
    refine wct U ?_
    replace U:=U.oz [1,2]
    refine hC U (.assign rfl .nil) fun Y U=>rt1 U ?_
    exact⟨false,rfl,iff_of_false (by simp) (fun h=>by obtain⟨v1,v2,v3,v4,v5,v6,v7,v8,v9⟩:=h;have aa:=hsb.2 v1;first|omega|(simp_all;done)|(simp_all;omega)),a1.below⟩
   intro a2 U;try simp only [QQ,Qax] at a2
   refine wcf U<|zss<|hK1 _ _<|wsk fun K3 hK3 =>?_
   replace U:=U.oz [1,2]
   refine hC U (.assign rfl .nil) fun Y U=>wp_block<|wp_loop_ghost (fun g a w => ∃ (k B:Nat),k≤pins.length∧g=pins.length - k∧jT fl ws.length pins k∧Has 138 [(1,.pointer (some ⟨B,0,none⟩)),(3,.int .i64 k)] a∧MemOk (cn w0) w0 [(9,.box B 51 [.int .i64 vo,.int .i64 bl,.int .i64 sz,.int .i64 pe,.slice pp place.length cp,.int .i64 to,.int .i64 ne,.bool hi,.int .i64 fl,.slice pn pins.length cn9,.slice pw ws.length cw])] w) (pins.length) ?_ ?_
   · exact⟨0,_,Nat.zero_le _,rfl,(fun j hj=>by omega),U.only [1,3],a1.ren [(9,20)] (by decide)⟩
   clear U a1
   rintro g Y fz ⟨k,B,hkl,hg,hall,U,bM⟩
   refine wsk fun K4 hK4=>hC U (.move rfl<|.fa 9 rfl U51<|.lb bM 9 U48 rfl rfl rfl<|.len rfl U48<|.lss rfl rfl .nil) fun Y U=>bc U 69 ?_ ?_
   ·
    intro a3 U;try simp only [QQ,Qax] at a3
    have hk:k<pins.length:=by omega
    refine wct U<|zss<|hK4 _ _<|wsk fun K5 hK5=>wp_block<|wsk fun K6 hK6 =>?_
    obtain⟨d5,d6,cP,d7,b5⟩:=h1.extN (k) hk
    revert U
    cases cP
    intro U
    obtain⟨d8,d9,cQ,ea,b6⟩:=h1.extN (k) hk
    revert U
    cases cQ
    intro U
    obtain⟨eb,ec,cR,ed,b7⟩:=h1.extN (k) hk
    revert U
    cases cR
    intro U
    obtain⟨ee,ef,cS,eg,b8⟩:=h1.extN (k - 1) (show k - 1<pins.length by omega)
    revert U
    cases cS
    intro U
    have b9:=bM.oz [9]
    refine region_p 36 (B:=[(9,_)]) (b9.to i1l) b9 (by kernel_rfl) (fun fA ag a4 =>?_);clear b9
    refine goR ag [0,1,2,3,4,5,6,7,8] [1,4,6] 9 0 511 U (a4.to i1l) (.fa 9 rfl U51<|.lb hh 9 U48 rfl rfl rfl<|.move rfl<|.p (fun _ _ h_=>ii h_ rfl rfl U48 iP (k) rfl hk)<|.loadAt1 (fun _ h_=>(b5 h_ rfl)) (q:=0) rfl rfl rfl U2 rfl<|.fa 8 rfl U51<|.lb hh 9 U2 rfl rfl rfl<|.lss rfl rfl<|.move rfl .nil) fun Y U=>bc U 80 ?_ ?_
    ·
     intro a5 U;try simp only [QQ,Qax] at a5
     refine goA ag [9,10,11,12,13,14,15,16,17,18,19,20,21,22,23,24,25,26,27,28,29,30,31,32,33,34,35] 27 511 68719476735 U (a4.to i1l) (.s<|.s<|.s<|.s<|.s<|.s<|.s<|.s<|.pickT rfl rfl<|.move rfl<|.s<|.s<|.s<|.u<|.u<|.u<|.u<|.u<|.u<|.u<|.u<|.u<|.u<|.u<|.u<|.s<|.pickT rfl rfl .nil) fun Y U=>wad<|hK6 _ _<|wct U ?_
     replace U:=U.oz [1,3,69]
     refine hC U (.assign rfl .nil) fun Y U=>rt1 U ?_
     exact⟨false,rfl,iff_of_false (by simp) (fun h=>by obtain⟨v1,v2,v3,v4,v5,v6,v7,v8,v9⟩:=h;have aa:=(io.1 v8).2 _ (iy hk);have ac:=(v8 k hk).1;first|omega|(rw[iW (by omega)] at ac;omega)),a4.below⟩
    intro a5 U;try simp only [QQ,Qax] at a5
    refine goR ag [9,10,11,12,13,14] [10,13,14] 6 511 32767 U (a4.to i1l) (.fa 9 rfl U51<|.lb hh 9 U48 rfl rfl rfl<|.move rfl<|.p (fun _ _ h_=>ii h_ rfl rfl U48 iP (k) rfl hk)<|.loadAt1 (fun _ h_=>(b6 h_ rfl)) (q:=0) rfl rfl rfl U2 rfl<|.loadBR hh (i:=9) rfl rfl U51 rfl hH (by simp) (by dsimp only [List.drop,List.take] <;> rfl) .nil) fun Y U=>ig 15 rfl (by kernel_rfl) (iq U rfl rfl rfl rfl)<|fun K hK=>iw U Tryz.func39 rfl rfl rfl rfl (iH _ _ _ _ _ _ _ _ _ _ _ _ _ _ _ _ _ _) ?_
    rintro e fB ⟨rfl,cT⟩
    have al:=a4.later cT
    refine⟨_,rfl,?_⟩;intro Y U
    refine hK _ _ (al.to i1l) ?_;clear hK K
    refine goA ag [16,17,18] 3 65535 524287 U (al.to i1l) (.gtr rfl rfl<|.pickF rfl rfl<|.move rfl .nil) fun Y U=>bc U 90 ?_ ?_
    ·
     intro a6 U;try simp only [QQ,Qax] at a6
     refine goA ag [19,20,21,22,23,24,25,26,27,28,29,30,31,32,33,34,35] 17 524287 68719476735 U (al.to i1l) (.s<|.s<|.s<|.u<|.u<|.u<|.u<|.u<|.u<|.u<|.u<|.u<|.u<|.u<|.u<|.s<|.pickT rfl rfl .nil) fun Y U=>wad<|hK6 _ _<|wct U ?_
     replace U:=U.oz [1,3,69]
     refine hC U (.assign rfl .nil) fun Y U=>rt1 U ?_
     exact⟨false,rfl,iff_of_false (by simp) (fun h=>by obtain⟨v1,v2,v3,v4,v5,v6,v7,v8,v9⟩:=h;have aa:=(io.1 v8).2 _ (iy hk);have ac:=(v8 k hk).1;first|omega|(rw[iW (by omega)] at ac;omega)),al.below⟩
    intro a6 U;try simp only [QQ,Qax] at a6
    refine goA ag [19,20,21] 3 524287 4194303 U (al.to i1l) (.move rfl<|.gtr rfl rfl<|.move rfl .nil) fun Y U=>bc U 93 ?_ ?_
    ·
     intro a7 U;try simp only [QQ,Qax] at a7
     refine goR ag [22,23,24,25,26,27,28,29,30,31,32,33,34,35] [23,26,28,32] 14 4194303 68719476735 U (al.to i1l) (.fa 9 rfl U51<|.lb hh 9 U48 rfl rfl rfl<|.move rfl<|.p (fun _ _ h_=>ii h_ rfl rfl U48 iP (k) rfl hk)<|.loadAt1 (fun _ h_=>(b7 h_ rfl)) (q:=0) rfl rfl rfl U2 rfl<|.fa 9 rfl U51<|.lb hh 9 U48 rfl rfl rfl<|.move rfl<|.sub rfl rfl (r:=(k:Int) - 1) (IntWalk.i64_in _ (by omega))<|.p (fun _ _ h_=>ii h_ rfl rfl U48 iP (k - 1) (by omega) (show k - 1<pins.length by omega))<|.loadAt1 (fun _ h_=>(b8 h_ rfl)) (q:=0) rfl rfl rfl U2 rfl<|.lss rfl rfl<|.pickT rfl rfl<|.pickF rfl rfl .nil) fun Y U=>wad<|hK6 _ _<|bc U 107 ?_ ?_
     ·
      intro a8 U;try simp only [QQ,Qax] at a8
      refine wct U ?_
      replace U:=U.oz [1,3,69]
      refine hC U (.assign rfl .nil) fun Y U=>rt1 U ?_
      exact⟨false,rfl,iff_of_false (by simp) (fun h=>by obtain⟨v1,v2,v3,v4,v5,v6,v7,v8,v9⟩:=h;have aa:=(io.1 v8).2 _ (iy hk);have ac:=(v8 k hk).1;first|omega|(rw[iW (by omega)] at ac;omega)),al.below⟩
     intro a8 U;try simp only [QQ,Qax] at a8
     refine wcf U<|zss (hK5 _ _ ?_)
     replace U:=U.oz [1,3,69]
     refine wp_region_lit<|g9 U (.move rfl<|.inc (k+1)<|.assign rfl .nil) fun Y U=>wpList_nil ?_
     show ∃ n',n'<_∧_
     exact⟨pins.length - (k+1),by omega,k+1,_,by omega,rfl,jp hall (jP (by omega) (by omega)) (by omega),U.only [1,3],al.only [9]⟩
    intro a7 U;try simp only [QQ,Qax] at a7
    refine goA ag [22,23,24,25,26,27,28,29,30,31,32,33,34,35] 14 4194303 68719476735 U (al.to i1l) (.s<|.s<|.s<|.s<|.s<|.s<|.s<|.s<|.s<|.s<|.s<|.s<|.pickF rfl rfl<|.pickF rfl rfl .nil) fun Y U=>wad<|hK6 _ _<|wcf U<|zss (hK5 _ _ ?_)
    replace U:=U.oz [1,3,69]
    refine wp_region_lit<|g9 U (.move rfl<|.inc (k+1)<|.assign rfl .nil) fun Y U=>wpList_nil ?_
    show ∃ n',n'<_∧_
    exact⟨pins.length - (k+1),by omega,k+1,_,by omega,rfl,jp hall (jP (by omega) (by omega)) (by omega),U.only [1,3],al.only [9]⟩
   intro a3 U;try simp only [QQ,Qax] at a3
   revert U
   obtain rfl:k=pins.length:=by omega
   intro U
   refine wcf U<|wp_exit<|hK3 _ _<|wsk fun K7 hK7=>hC U (.assign rfl .nil) fun Y U=>wp_block<|wp_loop_ghost (fun g a w => ∃ (k B:Nat),k≤ws.length∧g=ws.length - k∧lj bl sz ws k∧Has 138 [(1,.pointer (some ⟨B,0,none⟩)),(4,.int .i64 k)] a∧MemOk (cn w0) w0 [(9,.box B 51 [.int .i64 vo,.int .i64 bl,.int .i64 sz,.int .i64 pe,.slice pp place.length cp,.int .i64 to,.int .i64 ne,.bool hi,.int .i64 fl,.slice pn pins.length cn9,.slice pw ws.length cw])] w) (ws.length) ?_ ?_
   · exact⟨0,_,Nat.zero_le _,rfl,(fun j hj=>by omega),U.only [1,4],bM.ren [(9,9)] (by decide)⟩
   clear U bM
   rintro g Y fC ⟨k,B,hkl,hg,hall2,U,ca⟩
   refine wsk fun K8 hK8=>hC U (.move rfl<|.fa 10 rfl U51<|.lb ca 9 U49 rfl rfl rfl<|.len rfl U49<|.lss rfl rfl .nil) fun Y U=>bc U 112 ?_ ?_
   ·
    intro a9 U;try simp only [QQ,Qax] at a9
    have hk:k<ws.length:=by omega
    obtain⟨⟨xs,xl⟩,hes⟩:∃ e,ws[k]? = some e:=⟨_,List.getElem?_eq_getElem hk⟩
    refine wct U<|zss<|hK8 _ _<|wsk fun K9 hK9=>wp_block<|wsk fun f9 cU =>?_
    obtain⟨eh,ei,ej,cV,ek,cW,cb⟩:=h2.extA (k) (r:=[.v (.int .i64 xs),.l 2 (xl.map itD)]) (iI hes)
    revert U
    cases cV
    rcases cW with _|⟨aF,_|⟨bN,_|_⟩⟩
    obtain rfl:=aF.v_out
    clear aF
    obtain⟨fD,fE,cX,el⟩:=bN.l_shape;subst cX
    intro U
    obtain⟨em,en,eo,cY,ep,cZ,cc⟩:=h2.extA (k) (r:=[.v (.int .i64 xs),.l 2 (xl.map itD)]) (iI hes)
    revert U
    cases cY
    rcases cZ with _|⟨aG,_|⟨aH,_|_⟩⟩
    obtain rfl:=aG.v_out
    clear aG
    obtain⟨fF,fG,c0,er⟩:=aH.l_shape;subst c0
    intro U
    have cd:=ca.oz [9]
    refine region_p 23 (B:=[(9,_)]) (cd.to i1l) cd (by kernel_rfl) (fun fH aI aS =>?_);clear cd
    refine goR aI [0,1,2,3,4,5,6,7,8,9] [1,5] 10 0 1023 U (aS.to i1l) (.fa 10 rfl U51<|.lb hh 9 U49 rfl rfl rfl<|.move rfl<|.p (fun _ _ h_=>ii h_ rfl rfl U49 jR (k) rfl hk)<|.fieldAddrQ 0 rfl j1 rfl (s:=0) (by kernel_rfl) rfl<|.loadAt1 (fun _ h_=>(cb h_ rfl)) (q:=0) rfl rfl rfl U2 rfl<|.move rfl<|.add rfl rfl (r:=(k:Int)+1) (IntWalk.i64_in _ (by omega))<|.neq rfl rfl<|.move rfl .nil) fun Y U=>bc U 124 ?_ ?_
    ·
     intro ba U;try simp only [QQ,Qax] at ba
     refine goA aI [10,11,12,13,14,15,16,17,18,19,20,21,22] 13 1023 8388607 U (aS.to i1l) (.s<|.s<|.s<|.s<|.s<|.s<|.s<|.s<|.s<|.s<|.s<|.s<|.pickT rfl rfl .nil) fun Y U=>wad<|cU _ _<|wct U ?_
     replace U:=U.oz [1,4,112]
     refine hC U (.assign rfl .nil) fun Y U=>rt1 U ?_
     exact⟨false,rfl,iff_of_false (by simp) (fun h=>by obtain⟨v1,v2,v3,v4,v5,v6,v7,v8,v9⟩:=h;have aa:=v9 k hk;rw[jq hes] at aa;first|(have ae:=aa.1;dsimp only at ae;omega)|(have ac:=hib.2 aa.2;simp_all;done)),aS.below⟩
    intro ba U;try simp only [QQ,Qax] at ba
    refine goR aI [10,11,12,13,14,15,16,17,18,19] [11,13,15,19] 10 1023 1048575 U (aS.to i1l) (.fa 1 rfl U51<|.lb hh 9 U3 rfl rfl rfl<|.fa 2 rfl U51<|.lb hh 9 U3 rfl rfl rfl<|.fa 10 rfl U51<|.lb hh 9 U49 rfl rfl rfl<|.move rfl<|.p (fun _ _ h_=>ii h_ rfl rfl U49 jR (k) rfl hk)<|.fieldAddrQ 1 rfl j1 rfl (s:=0) (by kernel_rfl) rfl<|.loadAt1 (fun _ h_=>(cc h_ rfl)) (q:=1) rfl rfl rfl U36 rfl .nil) fun Y U=>ig 20 rfl (by kernel_rfl) (iq U rfl rfl rfl rfl)<|fun K hK=>iw U Tryz.func115 rfl rfl rfl rfl (js _ _ xl _ _ _ _ ((aH.now' aS rfl).any) (hwl _ (List.mem_of_getElem? hes))) ?_
    rintro e fI ⟨ib,rfl,hib,c1⟩
    have bO:=aS.later c1
    refine⟨_,rfl,?_⟩;intro Y U
    refine hK _ _ (bO.to i1l) ?_;clear hK K
    refine goA aI [21,22] 2 2097151 8388607 U (bO.to i1l) (.not rfl<|.pickF rfl rfl .nil) fun Y U=>wad<|cU _ _<|bc U 137 ?_ ?_
    ·
     intro au U;try simp only [QQ,Qax] at au
     refine wct U ?_
     replace U:=U.oz [1,4,112]
     refine hC U (.assign rfl .nil) fun Y U=>rt1 U ?_
     exact⟨false,rfl,iff_of_false (by simp) (fun h=>by obtain⟨v1,v2,v3,v4,v5,v6,v7,v8,v9⟩:=h;have aa:=v9 k hk;rw[jq hes] at aa;first|(have ae:=aa.1;dsimp only at ae;omega)|(have ac:=hib.2 aa.2;have ae:=au;rw[ac] at ae;simp at ae)),bO.below⟩
    intro au U;try simp only [QQ,Qax] at au
    refine wcf U<|zss (hK9 _ _ ?_)
    replace U:=U.oz [1,4,112]
    refine wp_region_lit<|g9 U (.move rfl<|.inc (k+1)<|.assign rfl .nil) fun Y U=>wpList_nil ?_
    show ∃ n',n'<_∧_
    exact⟨ws.length - (k+1),by omega,k+1,_,by omega,rfl,kp hall2 hes (by omega) (hib.1 (by have h8:=au;simpa using h8)),U.only [1,4],bO.only [9]⟩
   intro a9 U;try simp only [QQ,Qax] at a9
   revert U
   obtain rfl:k=ws.length:=by omega
   intro U
   refine wcf U<|wp_exit<|hK7 _ _<|hC U (.assign rfl .nil) fun Y U=>rt1 U ?_
   exact⟨true,rfl,iff_of_true rfl ⟨hsb.1 (by simp_all),by omega,by omega,by simp_all,by simp_all,by omega,by omega,hall,hall2⟩,ca.below⟩
  intro aY U;try simp only [QQ,Qax] at aY
  refine goR hP5 [41,42,43,44,45,46,47,48,49,50,51,52,53] [50] 13 2199023255551 18014398509481983 U (ab.to i1l) (.s<|.s<|.s<|.s<|.s<|.pickF rfl rfl<|.pickF rfl rfl<|.move rfl<|.fa 8 rfl U51<|.lb hh 20 U2 rfl rfl rfl<|.lss rfl rfl<|.pickF rfl rfl<|.move rfl .nil) fun Y U=>bc U 58 ?_ ?_
  ·
   intro bb U;try simp only [QQ,Qax] at bb
   refine goA hP5 [54,55,56,57,58,59] 6 18014398509481983 1152921504606846975 U (ab.to i1l) (.s<|.s<|.s<|.s<|.s<|.pickT rfl rfl .nil) fun Y U=>wad<|hK2 _ _<|wct U ?_
   replace U:=U.oz [1,2]
   refine hC U (.assign rfl .nil) fun Y U=>rt1 U ?_
   exact⟨false,rfl,iff_of_false (by simp) (fun h=>by obtain⟨v1,v2,v3,v4,v5,v6,v7,v8,v9⟩:=h;have aa:=hsb.2 v1;first|omega|(simp_all;done)|(simp_all;omega)),ab.below⟩
  intro bb U;try simp only [QQ,Qax] at bb
  refine goR hP5 [54,55,56] [55,56] 3 18014398509481983 144115188075855871 U (ab.to i1l) (.fa 8 rfl U51<|.lb hh 20 U2 rfl rfl rfl<|.loadBR hh (i:=20) rfl rfl U51 rfl hH (by simp) (by dsimp only [List.drop,List.take] <;> rfl) .nil) fun Y U=>ig 57 rfl (by kernel_rfl) (iq U rfl rfl rfl rfl)<|fun K hK=>iw U Tryz.func39 rfl rfl rfl rfl (iH _ _ _ _ _ _ _ _ _ _ _ _ _ _ _ _ _ _) ?_
  rintro e fJ ⟨rfl,c2⟩
  have bd:=ab.later c2
  refine⟨_,rfl,?_⟩;intro Y U
  refine hK _ _ (bd.to i1l) ?_;clear hK K
  refine goA hP5 [58,59] 2 288230376151711743 1152921504606846975 U (bd.to i1l) (.gtr rfl rfl<|.pickF rfl rfl .nil) fun Y U=>wad<|hK2 _ _<|bc U 64 ?_ ?_
  ·
   intro be U;try simp only [QQ,Qax] at be
   refine wct U ?_
   replace U:=U.oz [1,2]
   refine hC U (.assign rfl .nil) fun Y U=>rt1 U ?_
   exact⟨false,rfl,iff_of_false (by simp) (fun h=>by obtain⟨v1,v2,v3,v4,v5,v6,v7,v8,v9⟩:=h;have aa:=hsb.2 v1;first|omega|(simp_all;done)|(simp_all;omega)),bd.below⟩
  intro be U;try simp only [QQ,Qax] at be
  refine wcf U<|zss<|hK1 _ _<|wsk fun ga dG =>?_
  replace U:=U.oz [1,2]
  refine hC U (.assign rfl .nil) fun Y U=>wp_block<|wp_loop_ghost (fun g a w => ∃ (k B:Nat),k≤pins.length∧g=pins.length - k∧jT fl ws.length pins k∧Has 138 [(1,.pointer (some ⟨B,0,none⟩)),(3,.int .i64 k)] a∧MemOk (cn w0) w0 [(9,.box B 51 [.int .i64 vo,.int .i64 bl,.int .i64 sz,.int .i64 pe,.slice pp place.length cp,.int .i64 to,.int .i64 ne,.bool hi,.int .i64 fl,.slice pn pins.length cn9,.slice pw ws.length cw])] w) (pins.length) ?_ ?_
  · exact⟨0,_,Nat.zero_le _,rfl,(fun j hj=>by omega),U.only [1,3],bd.ren [(9,20)] (by decide)⟩
  clear U bd
  rintro g Y fK ⟨k,B,hkl,hg,hall,U,bP⟩
  refine wsk fun gb dH=>hC U (.move rfl<|.fa 9 rfl U51<|.lb bP 9 U48 rfl rfl rfl<|.len rfl U48<|.lss rfl rfl .nil) fun Y U=>bc U 69 ?_ ?_
  ·
   intro bf U;try simp only [QQ,Qax] at bf
   have hk:k<pins.length:=by omega
   refine wct U<|zss<|dH _ _<|wsk fun gc c3=>wp_block<|wsk fun gf bQ =>?_
   obtain⟨es,et,c4,eu,ce⟩:=h1.extN (k) hk
   revert U
   cases c4
   intro U
   obtain⟨ew,ex,c5,ey,cf⟩:=h1.extN (k) hk
   revert U
   cases c5
   intro U
   obtain⟨ez,eA,c6,eB,cg⟩:=h1.extN (k) hk
   revert U
   cases c6
   intro U
   obtain⟨eC,eD,c7,eE,ch⟩:=h1.extN (k - 1) (show k - 1<pins.length by omega)
   revert U
   cases c7
   intro U
   have ci:=bP.oz [9]
   refine region_p 36 (B:=[(9,_)]) (ci.to i1l) ci (by kernel_rfl) (fun fL ah bg =>?_);clear ci
   refine goR ah [0,1,2,3,4,5,6,7,8] [1,4,6] 9 0 511 U (bg.to i1l) (.fa 9 rfl U51<|.lb hh 9 U48 rfl rfl rfl<|.move rfl<|.p (fun _ _ h_=>ii h_ rfl rfl U48 iP (k) rfl hk)<|.loadAt1 (fun _ h_=>(ce h_ rfl)) (q:=0) rfl rfl rfl U2 rfl<|.fa 8 rfl U51<|.lb hh 9 U2 rfl rfl rfl<|.lss rfl rfl<|.move rfl .nil) fun Y U=>bc U 80 ?_ ?_
   ·
    intro bh U;try simp only [QQ,Qax] at bh
    refine goA ah [9,10,11,12,13,14,15,16,17,18,19,20,21,22,23,24,25,26,27,28,29,30,31,32,33,34,35] 27 511 68719476735 U (bg.to i1l) (.s<|.s<|.s<|.s<|.s<|.s<|.s<|.s<|.pickT rfl rfl<|.move rfl<|.s<|.s<|.s<|.u<|.u<|.u<|.u<|.u<|.u<|.u<|.u<|.u<|.u<|.u<|.u<|.s<|.pickT rfl rfl .nil) fun Y U=>wad<|bQ _ _<|wct U ?_
    replace U:=U.oz [1,3,69]
    refine hC U (.assign rfl .nil) fun Y U=>rt1 U ?_
    exact⟨false,rfl,iff_of_false (by simp) (fun h=>by obtain⟨v1,v2,v3,v4,v5,v6,v7,v8,v9⟩:=h;have aa:=(io.1 v8).2 _ (iy hk);have ac:=(v8 k hk).1;first|omega|(rw[iW (by omega)] at ac;omega)),bg.below⟩
   intro bh U;try simp only [QQ,Qax] at bh
   refine goR ah [9,10,11,12,13,14] [10,13,14] 6 511 32767 U (bg.to i1l) (.fa 9 rfl U51<|.lb hh 9 U48 rfl rfl rfl<|.move rfl<|.p (fun _ _ h_=>ii h_ rfl rfl U48 iP (k) rfl hk)<|.loadAt1 (fun _ h_=>(cf h_ rfl)) (q:=0) rfl rfl rfl U2 rfl<|.loadBR hh (i:=9) rfl rfl U51 rfl hH (by simp) (by dsimp only [List.drop,List.take] <;> rfl) .nil) fun Y U=>ig 15 rfl (by kernel_rfl) (iq U rfl rfl rfl rfl)<|fun K hK=>iw U Tryz.func39 rfl rfl rfl rfl (iH _ _ _ _ _ _ _ _ _ _ _ _ _ _ _ _ _ _) ?_
   rintro e fM ⟨rfl,c8⟩
   have ao:=bg.later c8
   refine⟨_,rfl,?_⟩;intro Y U
   refine hK _ _ (ao.to i1l) ?_;clear hK K
   refine goA ah [16,17,18] 3 65535 524287 U (ao.to i1l) (.gtr rfl rfl<|.pickF rfl rfl<|.move rfl .nil) fun Y U=>bc U 90 ?_ ?_
   ·
    intro bi U;try simp only [QQ,Qax] at bi
    refine goA ah [19,20,21,22,23,24,25,26,27,28,29,30,31,32,33,34,35] 17 524287 68719476735 U (ao.to i1l) (.s<|.s<|.s<|.u<|.u<|.u<|.u<|.u<|.u<|.u<|.u<|.u<|.u<|.u<|.u<|.s<|.pickT rfl rfl .nil) fun Y U=>wad<|bQ _ _<|wct U ?_
    replace U:=U.oz [1,3,69]
    refine hC U (.assign rfl .nil) fun Y U=>rt1 U ?_
    exact⟨false,rfl,iff_of_false (by simp) (fun h=>by obtain⟨v1,v2,v3,v4,v5,v6,v7,v8,v9⟩:=h;have aa:=(io.1 v8).2 _ (iy hk);have ac:=(v8 k hk).1;first|omega|(rw[iW (by omega)] at ac;omega)),ao.below⟩
   intro bi U;try simp only [QQ,Qax] at bi
   refine goA ah [19,20,21] 3 524287 4194303 U (ao.to i1l) (.move rfl<|.gtr rfl rfl<|.move rfl .nil) fun Y U=>bc U 93 ?_ ?_
   ·
    intro bj U;try simp only [QQ,Qax] at bj
    refine goR ah [22,23,24,25,26,27,28,29,30,31,32,33,34,35] [23,26,28,32] 14 4194303 68719476735 U (ao.to i1l) (.fa 9 rfl U51<|.lb hh 9 U48 rfl rfl rfl<|.move rfl<|.p (fun _ _ h_=>ii h_ rfl rfl U48 iP (k) rfl hk)<|.loadAt1 (fun _ h_=>(cg h_ rfl)) (q:=0) rfl rfl rfl U2 rfl<|.fa 9 rfl U51<|.lb hh 9 U48 rfl rfl rfl<|.move rfl<|.sub rfl rfl (r:=(k:Int) - 1) (IntWalk.i64_in _ (by omega))<|.p (fun _ _ h_=>ii h_ rfl rfl U48 iP (k - 1) (by omega) (show k - 1<pins.length by omega))<|.loadAt1 (fun _ h_=>(ch h_ rfl)) (q:=0) rfl rfl rfl U2 rfl<|.lss rfl rfl<|.pickT rfl rfl<|.pickF rfl rfl .nil) fun Y U=>wad<|bQ _ _<|bc U 107 ?_ ?_
    ·
     intro bk U;try simp only [QQ,Qax] at bk
     refine wct U ?_
     replace U:=U.oz [1,3,69]
     refine hC U (.assign rfl .nil) fun Y U=>rt1 U ?_
     exact⟨false,rfl,iff_of_false (by simp) (fun h=>by obtain⟨v1,v2,v3,v4,v5,v6,v7,v8,v9⟩:=h;have aa:=(io.1 v8).2 _ (iy hk);have ac:=(v8 k hk).1;first|omega|(rw[iW (by omega)] at ac;omega)),ao.below⟩
    intro bk U;try simp only [QQ,Qax] at bk
    refine wcf U<|zss (c3 _ _ ?_)
    replace U:=U.oz [1,3,69]
    refine wp_region_lit<|g9 U (.move rfl<|.inc (k+1)<|.assign rfl .nil) fun Y U=>wpList_nil ?_
    show ∃ n',n'<_∧_
    exact⟨pins.length - (k+1),by omega,k+1,_,by omega,rfl,jp hall (jP (by omega) (by omega)) (by omega),U.only [1,3],ao.only [9]⟩
   intro bj U;try simp only [QQ,Qax] at bj
   refine goA ah [22,23,24,25,26,27,28,29,30,31,32,33,34,35] 14 4194303 68719476735 U (ao.to i1l) (.s<|.s<|.s<|.s<|.s<|.s<|.s<|.s<|.s<|.s<|.s<|.s<|.pickF rfl rfl<|.pickF rfl rfl .nil) fun Y U=>wad<|bQ _ _<|wcf U<|zss (c3 _ _ ?_)
   replace U:=U.oz [1,3,69]
   refine wp_region_lit<|g9 U (.move rfl<|.inc (k+1)<|.assign rfl .nil) fun Y U=>wpList_nil ?_
   show ∃ n',n'<_∧_
   exact⟨pins.length - (k+1),by omega,k+1,_,by omega,rfl,jp hall (jP (by omega) (by omega)) (by omega),U.only [1,3],ao.only [9]⟩
  intro bf U;try simp only [QQ,Qax] at bf
  revert U
  obtain rfl:k=pins.length:=by omega
  intro U
  refine wcf U<|wp_exit<|dG _ _<|wsk fun gg dI=>hC U (.assign rfl .nil) fun Y U=>wp_block<|wp_loop_ghost (fun g a w => ∃ (k B:Nat),k≤ws.length∧g=ws.length - k∧lj bl sz ws k∧Has 138 [(1,.pointer (some ⟨B,0,none⟩)),(4,.int .i64 k)] a∧MemOk (cn w0) w0 [(9,.box B 51 [.int .i64 vo,.int .i64 bl,.int .i64 sz,.int .i64 pe,.slice pp place.length cp,.int .i64 to,.int .i64 ne,.bool hi,.int .i64 fl,.slice pn pins.length cn9,.slice pw ws.length cw])] w) (ws.length) ?_ ?_
  · exact⟨0,_,Nat.zero_le _,rfl,(fun j hj=>by omega),U.only [1,4],bP.ren [(9,9)] (by decide)⟩
  clear U bP
  rintro g Y fN ⟨k,B,hkl,hg,hall2,U,cj⟩
  refine wsk fun gh dJ=>hC U (.move rfl<|.fa 10 rfl U51<|.lb cj 9 U49 rfl rfl rfl<|.len rfl U49<|.lss rfl rfl .nil) fun Y U=>bc U 112 ?_ ?_
  ·
   intro bm U;try simp only [QQ,Qax] at bm
   have hk:k<ws.length:=by omega
   obtain⟨⟨xs,xl⟩,hes⟩:∃ e,ws[k]? = some e:=⟨_,List.getElem?_eq_getElem hk⟩
   refine wct U<|zss<|dJ _ _<|wsk fun gi dK=>wp_block<|wsk fun gj c9 =>?_
   obtain⟨eF,eG,eH,da,eI,db,ck⟩:=h2.extA (k) (r:=[.v (.int .i64 xs),.l 2 (xl.map itD)]) (iI hes)
   revert U
   cases da
   rcases db with _|⟨aJ,_|⟨bR,_|_⟩⟩
   obtain rfl:=aJ.v_out
   clear aJ
   obtain⟨fO,fP,dc,eJ⟩:=bR.l_shape;subst dc
   intro U
   obtain⟨eK,eL,eM,de,eN,df,cl⟩:=h2.extA (k) (r:=[.v (.int .i64 xs),.l 2 (xl.map itD)]) (iI hes)
   revert U
   cases de
   rcases df with _|⟨aK,_|⟨aL,_|_⟩⟩
   obtain rfl:=aK.v_out
   clear aK
   obtain⟨fQ,fR,dg,eO⟩:=aL.l_shape;subst dg
   intro U
   have cm:=cj.oz [9]
   refine region_p 23 (B:=[(9,_)]) (cm.to i1l) cm (by kernel_rfl) (fun fS aM aT =>?_);clear cm
   refine goR aM [0,1,2,3,4,5,6,7,8,9] [1,5] 10 0 1023 U (aT.to i1l) (.fa 10 rfl U51<|.lb hh 9 U49 rfl rfl rfl<|.move rfl<|.p (fun _ _ h_=>ii h_ rfl rfl U49 jR (k) rfl hk)<|.fieldAddrQ 0 rfl j1 rfl (s:=0) (by kernel_rfl) rfl<|.loadAt1 (fun _ h_=>(ck h_ rfl)) (q:=0) rfl rfl rfl U2 rfl<|.move rfl<|.add rfl rfl (r:=(k:Int)+1) (IntWalk.i64_in _ (by omega))<|.neq rfl rfl<|.move rfl .nil) fun Y U=>bc U 124 ?_ ?_
   ·
    intro bn U;try simp only [QQ,Qax] at bn
    refine goA aM [10,11,12,13,14,15,16,17,18,19,20,21,22] 13 1023 8388607 U (aT.to i1l) (.s<|.s<|.s<|.s<|.s<|.s<|.s<|.s<|.s<|.s<|.s<|.s<|.pickT rfl rfl .nil) fun Y U=>wad<|c9 _ _<|wct U ?_
    replace U:=U.oz [1,4,112]
    refine hC U (.assign rfl .nil) fun Y U=>rt1 U ?_
    exact⟨false,rfl,iff_of_false (by simp) (fun h=>by obtain⟨v1,v2,v3,v4,v5,v6,v7,v8,v9⟩:=h;have aa:=v9 k hk;rw[jq hes] at aa;first|(have ae:=aa.1;dsimp only at ae;omega)|(have ac:=hib.2 aa.2;simp_all;done)),aT.below⟩
   intro bn U;try simp only [QQ,Qax] at bn
   refine goR aM [10,11,12,13,14,15,16,17,18,19] [11,13,15,19] 10 1023 1048575 U (aT.to i1l) (.fa 1 rfl U51<|.lb hh 9 U3 rfl rfl rfl<|.fa 2 rfl U51<|.lb hh 9 U3 rfl rfl rfl<|.fa 10 rfl U51<|.lb hh 9 U49 rfl rfl rfl<|.move rfl<|.p (fun _ _ h_=>ii h_ rfl rfl U49 jR (k) rfl hk)<|.fieldAddrQ 1 rfl j1 rfl (s:=0) (by kernel_rfl) rfl<|.loadAt1 (fun _ h_=>(cl h_ rfl)) (q:=1) rfl rfl rfl U36 rfl .nil) fun Y U=>ig 20 rfl (by kernel_rfl) (iq U rfl rfl rfl rfl)<|fun K hK=>iw U Tryz.func115 rfl rfl rfl rfl (js _ _ xl _ _ _ _ ((aL.now' aT rfl).any) (hwl _ (List.mem_of_getElem? hes))) ?_
   rintro e fT ⟨ib,rfl,hib,dh⟩
   have bS:=aT.later dh
   refine⟨_,rfl,?_⟩;intro Y U
   refine hK _ _ (bS.to i1l) ?_;clear hK K
   refine goA aM [21,22] 2 2097151 8388607 U (bS.to i1l) (.not rfl<|.pickF rfl rfl .nil) fun Y U=>wad<|c9 _ _<|bc U 137 ?_ ?_
   ·
    intro av U;try simp only [QQ,Qax] at av
    refine wct U ?_
    replace U:=U.oz [1,4,112]
    refine hC U (.assign rfl .nil) fun Y U=>rt1 U ?_
    exact⟨false,rfl,iff_of_false (by simp) (fun h=>by obtain⟨v1,v2,v3,v4,v5,v6,v7,v8,v9⟩:=h;have aa:=v9 k hk;rw[jq hes] at aa;first|(have ae:=aa.1;dsimp only at ae;omega)|(have ac:=hib.2 aa.2;have ae:=av;rw[ac] at ae;simp at ae)),bS.below⟩
   intro av U;try simp only [QQ,Qax] at av
   refine wcf U<|zss (dK _ _ ?_)
   replace U:=U.oz [1,4,112]
   refine wp_region_lit<|g9 U (.move rfl<|.inc (k+1)<|.assign rfl .nil) fun Y U=>wpList_nil ?_
   show ∃ n',n'<_∧_
   exact⟨ws.length - (k+1),by omega,k+1,_,by omega,rfl,kp hall2 hes (by omega) (hib.1 (by have h8:=av;simpa using h8)),U.only [1,4],bS.only [9]⟩
  intro bm U;try simp only [QQ,Qax] at bm
  revert U
  obtain rfl:k=ws.length:=by omega
  intro U
  refine wcf U<|wp_exit<|dI _ _<|hC U (.assign rfl .nil) fun Y U=>rt1 U ?_
  exact⟨true,rfl,iff_of_true rfl ⟨hsb.1 (by simp_all),by omega,by omega,by simp_all,by simp_all,by omega,by omega,hall,hall2⟩,cj.below⟩
 intro aW U;try simp only [QQ,Qax] at aW
 refine goR hP5 [31,32,33,34,35,36,37,38,39,40] [38] 10 2147483647 2199023255551 U (ab.to i1l) (.s<|.s<|.s<|.pickF rfl rfl<|.pickF rfl rfl<|.move rfl<|.fa 7 rfl U51<|.lb hh 20 U4 rfl rfl rfl<|.not rfl<|.move rfl .nil) fun Y U=>bc U 45 ?_ ?_
 ·
  intro bo U;try simp only [QQ,Qax] at bo
  refine goR hP5 [41,42,43,44,45,46,47,48] [42,44] 8 2199023255551 562949953421311 U (ab.to i1l) (.fa 6 rfl U51<|.lb hh 20 U3 rfl rfl rfl<|.fa 5 rfl U51<|.lb hh 20 U3 rfl rfl rfl<|.neq rfl rfl<|.pickT rfl rfl<|.pickF rfl rfl<|.move rfl .nil) fun Y U=>bc U 53 ?_ ?_
  ·
   intro bp U;try simp only [QQ,Qax] at bp
   refine goA hP5 [49,50,51,52,53,54,55,56,57,58,59] 11 562949953421311 1152921504606846975 U (ab.to i1l) (.s<|.s<|.s<|.pickT rfl rfl<|.move rfl<|.s<|.s<|.s<|.s<|.s<|.pickT rfl rfl .nil) fun Y U=>wad<|hK2 _ _<|wct U ?_
   replace U:=U.oz [1,2]
   refine hC U (.assign rfl .nil) fun Y U=>rt1 U ?_
   exact⟨false,rfl,iff_of_false (by simp) (fun h=>by obtain⟨v1,v2,v3,v4,v5,v6,v7,v8,v9⟩:=h;have aa:=hsb.2 v1;first|omega|(simp_all;done)|(simp_all;omega)),ab.below⟩
  intro bp U;try simp only [QQ,Qax] at bp
  refine goR hP5 [49,50,51,52,53] [50] 5 562949953421311 18014398509481983 U (ab.to i1l) (.fa 8 rfl U51<|.lb hh 20 U2 rfl rfl rfl<|.lss rfl rfl<|.pickF rfl rfl<|.move rfl .nil) fun Y U=>bc U 58 ?_ ?_
  ·
   intro bq U;try simp only [QQ,Qax] at bq
   refine goA hP5 [54,55,56,57,58,59] 6 18014398509481983 1152921504606846975 U (ab.to i1l) (.s<|.s<|.s<|.s<|.s<|.pickT rfl rfl .nil) fun Y U=>wad<|hK2 _ _<|wct U ?_
   replace U:=U.oz [1,2]
   refine hC U (.assign rfl .nil) fun Y U=>rt1 U ?_
   exact⟨false,rfl,iff_of_false (by simp) (fun h=>by obtain⟨v1,v2,v3,v4,v5,v6,v7,v8,v9⟩:=h;have aa:=hsb.2 v1;first|omega|(simp_all;done)|(simp_all;omega)),ab.below⟩
  intro bq U;try simp only [QQ,Qax] at bq
  refine goR hP5 [54,55,56] [55,56] 3 18014398509481983 144115188075855871 U (ab.to i1l) (.fa 8 rfl U51<|.lb hh 20 U2 rfl rfl rfl<|.loadBR hh (i:=20) rfl rfl U51 rfl hH (by simp) (by dsimp only [List.drop,List.take] <;> rfl) .nil) fun Y U=>ig 57 rfl (by kernel_rfl) (iq U rfl rfl rfl rfl)<|fun K hK=>iw U Tryz.func39 rfl rfl rfl rfl (iH _ _ _ _ _ _ _ _ _ _ _ _ _ _ _ _ _ _) ?_
  rintro e fU ⟨rfl,di⟩
  have br:=ab.later di
  refine⟨_,rfl,?_⟩;intro Y U
  refine hK _ _ (br.to i1l) ?_;clear hK K
  refine goA hP5 [58,59] 2 288230376151711743 1152921504606846975 U (br.to i1l) (.gtr rfl rfl<|.pickF rfl rfl .nil) fun Y U=>wad<|hK2 _ _<|bc U 64 ?_ ?_
  ·
   intro bs U;try simp only [QQ,Qax] at bs
   refine wct U ?_
   replace U:=U.oz [1,2]
   refine hC U (.assign rfl .nil) fun Y U=>rt1 U ?_
   exact⟨false,rfl,iff_of_false (by simp) (fun h=>by obtain⟨v1,v2,v3,v4,v5,v6,v7,v8,v9⟩:=h;have aa:=hsb.2 v1;first|omega|(simp_all;done)|(simp_all;omega)),br.below⟩
  intro bs U;try simp only [QQ,Qax] at bs
  refine wcf U<|zss<|hK1 _ _<|wsk fun gk dL =>?_
  replace U:=U.oz [1,2]
  refine hC U (.assign rfl .nil) fun Y U=>wp_block<|wp_loop_ghost (fun g a w => ∃ (k B:Nat),k≤pins.length∧g=pins.length - k∧jT fl ws.length pins k∧Has 138 [(1,.pointer (some ⟨B,0,none⟩)),(3,.int .i64 k)] a∧MemOk (cn w0) w0 [(9,.box B 51 [.int .i64 vo,.int .i64 bl,.int .i64 sz,.int .i64 pe,.slice pp place.length cp,.int .i64 to,.int .i64 ne,.bool hi,.int .i64 fl,.slice pn pins.length cn9,.slice pw ws.length cw])] w) (pins.length) ?_ ?_
  · exact⟨0,_,Nat.zero_le _,rfl,(fun j hj=>by omega),U.only [1,3],br.ren [(9,20)] (by decide)⟩
  clear U br
  rintro g Y fV ⟨k,B,hkl,hg,hall,U,bT⟩
  refine wsk fun gl dM=>hC U (.move rfl<|.fa 9 rfl U51<|.lb bT 9 U48 rfl rfl rfl<|.len rfl U48<|.lss rfl rfl .nil) fun Y U=>bc U 69 ?_ ?_
  ·
   intro bt U;try simp only [QQ,Qax] at bt
   have hk:k<pins.length:=by omega
   refine wct U<|zss<|dM _ _<|wsk fun gm dj=>wp_block<|wsk fun gn bU =>?_
   obtain⟨eP,eQ,dk,eR,co⟩:=h1.extN (k) hk
   revert U
   cases dk
   intro U
   obtain⟨eS,eT,dl,eU,cq⟩:=h1.extN (k) hk
   revert U
   cases dl
   intro U
   obtain⟨eV,eW,dm,eX,cr⟩:=h1.extN (k) hk
   revert U
   cases dm
   intro U
   obtain⟨eY,eZ,dn,e0,ct⟩:=h1.extN (k - 1) (show k - 1<pins.length by omega)
   revert U
   cases dn
   intro U
   have cu:=bT.oz [9]
   refine region_p 36 (B:=[(9,_)]) (cu.to i1l) cu (by kernel_rfl) (fun fW ai bu =>?_);clear cu
   refine goR ai [0,1,2,3,4,5,6,7,8] [1,4,6] 9 0 511 U (bu.to i1l) (.fa 9 rfl U51<|.lb hh 9 U48 rfl rfl rfl<|.move rfl<|.p (fun _ _ h_=>ii h_ rfl rfl U48 iP (k) rfl hk)<|.loadAt1 (fun _ h_=>(co h_ rfl)) (q:=0) rfl rfl rfl U2 rfl<|.fa 8 rfl U51<|.lb hh 9 U2 rfl rfl rfl<|.lss rfl rfl<|.move rfl .nil) fun Y U=>bc U 80 ?_ ?_
   ·
    intro bv U;try simp only [QQ,Qax] at bv
    refine goA ai [9,10,11,12,13,14,15,16,17,18,19,20,21,22,23,24,25,26,27,28,29,30,31,32,33,34,35] 27 511 68719476735 U (bu.to i1l) (.s<|.s<|.s<|.s<|.s<|.s<|.s<|.s<|.pickT rfl rfl<|.move rfl<|.s<|.s<|.s<|.u<|.u<|.u<|.u<|.u<|.u<|.u<|.u<|.u<|.u<|.u<|.u<|.s<|.pickT rfl rfl .nil) fun Y U=>wad<|bU _ _<|wct U ?_
    replace U:=U.oz [1,3,69]
    refine hC U (.assign rfl .nil) fun Y U=>rt1 U ?_
    exact⟨false,rfl,iff_of_false (by simp) (fun h=>by obtain⟨v1,v2,v3,v4,v5,v6,v7,v8,v9⟩:=h;have aa:=(io.1 v8).2 _ (iy hk);have ac:=(v8 k hk).1;first|omega|(rw[iW (by omega)] at ac;omega)),bu.below⟩
   intro bv U;try simp only [QQ,Qax] at bv
   refine goR ai [9,10,11,12,13,14] [10,13,14] 6 511 32767 U (bu.to i1l) (.fa 9 rfl U51<|.lb hh 9 U48 rfl rfl rfl<|.move rfl<|.p (fun _ _ h_=>ii h_ rfl rfl U48 iP (k) rfl hk)<|.loadAt1 (fun _ h_=>(cq h_ rfl)) (q:=0) rfl rfl rfl U2 rfl<|.loadBR hh (i:=9) rfl rfl U51 rfl hH (by simp) (by dsimp only [List.drop,List.take] <;> rfl) .nil) fun Y U=>ig 15 rfl (by kernel_rfl) (iq U rfl rfl rfl rfl)<|fun K hK=>iw U Tryz.func39 rfl rfl rfl rfl (iH _ _ _ _ _ _ _ _ _ _ _ _ _ _ _ _ _ _) ?_
   rintro e fX ⟨rfl,dp⟩
   have ap:=bu.later dp
   refine⟨_,rfl,?_⟩;intro Y U
   refine hK _ _ (ap.to i1l) ?_;clear hK K
   refine goA ai [16,17,18] 3 65535 524287 U (ap.to i1l) (.gtr rfl rfl<|.pickF rfl rfl<|.move rfl .nil) fun Y U=>bc U 90 ?_ ?_
   ·
    intro bw U;try simp only [QQ,Qax] at bw
    refine goA ai [19,20,21,22,23,24,25,26,27,28,29,30,31,32,33,34,35] 17 524287 68719476735 U (ap.to i1l) (.s<|.s<|.s<|.u<|.u<|.u<|.u<|.u<|.u<|.u<|.u<|.u<|.u<|.u<|.u<|.s<|.pickT rfl rfl .nil) fun Y U=>wad<|bU _ _<|wct U ?_
    replace U:=U.oz [1,3,69]
    refine hC U (.assign rfl .nil) fun Y U=>rt1 U ?_
    exact⟨false,rfl,iff_of_false (by simp) (fun h=>by obtain⟨v1,v2,v3,v4,v5,v6,v7,v8,v9⟩:=h;have aa:=(io.1 v8).2 _ (iy hk);have ac:=(v8 k hk).1;first|omega|(rw[iW (by omega)] at ac;omega)),ap.below⟩
   intro bw U;try simp only [QQ,Qax] at bw
   refine goA ai [19,20,21] 3 524287 4194303 U (ap.to i1l) (.move rfl<|.gtr rfl rfl<|.move rfl .nil) fun Y U=>bc U 93 ?_ ?_
   ·
    intro bx U;try simp only [QQ,Qax] at bx
    refine goR ai [22,23,24,25,26,27,28,29,30,31,32,33,34,35] [23,26,28,32] 14 4194303 68719476735 U (ap.to i1l) (.fa 9 rfl U51<|.lb hh 9 U48 rfl rfl rfl<|.move rfl<|.p (fun _ _ h_=>ii h_ rfl rfl U48 iP (k) rfl hk)<|.loadAt1 (fun _ h_=>(cr h_ rfl)) (q:=0) rfl rfl rfl U2 rfl<|.fa 9 rfl U51<|.lb hh 9 U48 rfl rfl rfl<|.move rfl<|.sub rfl rfl (r:=(k:Int) - 1) (IntWalk.i64_in _ (by omega))<|.p (fun _ _ h_=>ii h_ rfl rfl U48 iP (k - 1) (by omega) (show k - 1<pins.length by omega))<|.loadAt1 (fun _ h_=>(ct h_ rfl)) (q:=0) rfl rfl rfl U2 rfl<|.lss rfl rfl<|.pickT rfl rfl<|.pickF rfl rfl .nil) fun Y U=>wad<|bU _ _<|bc U 107 ?_ ?_
    ·
     intro bz U;try simp only [QQ,Qax] at bz
     refine wct U ?_
     replace U:=U.oz [1,3,69]
     refine hC U (.assign rfl .nil) fun Y U=>rt1 U ?_
     exact⟨false,rfl,iff_of_false (by simp) (fun h=>by obtain⟨v1,v2,v3,v4,v5,v6,v7,v8,v9⟩:=h;have aa:=(io.1 v8).2 _ (iy hk);have ac:=(v8 k hk).1;first|omega|(rw[iW (by omega)] at ac;omega)),ap.below⟩
    intro bz U;try simp only [QQ,Qax] at bz
    refine wcf U<|zss (dj _ _ ?_)
    replace U:=U.oz [1,3,69]
    refine wp_region_lit<|g9 U (.move rfl<|.inc (k+1)<|.assign rfl .nil) fun Y U=>wpList_nil ?_
    show ∃ n',n'<_∧_
    exact⟨pins.length - (k+1),by omega,k+1,_,by omega,rfl,jp hall (jP (by omega) (by omega)) (by omega),U.only [1,3],ap.only [9]⟩
   intro bx U;try simp only [QQ,Qax] at bx
   refine goA ai [22,23,24,25,26,27,28,29,30,31,32,33,34,35] 14 4194303 68719476735 U (ap.to i1l) (.s<|.s<|.s<|.s<|.s<|.s<|.s<|.s<|.s<|.s<|.s<|.s<|.pickF rfl rfl<|.pickF rfl rfl .nil) fun Y U=>wad<|bU _ _<|wcf U<|zss (dj _ _ ?_)
   replace U:=U.oz [1,3,69]
   refine wp_region_lit<|g9 U (.move rfl<|.inc (k+1)<|.assign rfl .nil) fun Y U=>wpList_nil ?_
   show ∃ n',n'<_∧_
   exact⟨pins.length - (k+1),by omega,k+1,_,by omega,rfl,jp hall (jP (by omega) (by omega)) (by omega),U.only [1,3],ap.only [9]⟩
  intro bt U;try simp only [QQ,Qax] at bt
  revert U
  obtain rfl:k=pins.length:=by omega
  intro U
  refine wcf U<|wp_exit<|dL _ _<|wsk fun gp dN=>hC U (.assign rfl .nil) fun Y U=>wp_block<|wp_loop_ghost (fun g a w => ∃ (k B:Nat),k≤ws.length∧g=ws.length - k∧lj bl sz ws k∧Has 138 [(1,.pointer (some ⟨B,0,none⟩)),(4,.int .i64 k)] a∧MemOk (cn w0) w0 [(9,.box B 51 [.int .i64 vo,.int .i64 bl,.int .i64 sz,.int .i64 pe,.slice pp place.length cp,.int .i64 to,.int .i64 ne,.bool hi,.int .i64 fl,.slice pn pins.length cn9,.slice pw ws.length cw])] w) (ws.length) ?_ ?_
  · exact⟨0,_,Nat.zero_le _,rfl,(fun j hj=>by omega),U.only [1,4],bT.ren [(9,9)] (by decide)⟩
  clear U bT
  rintro g Y fY ⟨k,B,hkl,hg,hall2,U,cv⟩
  refine wsk fun gq dO=>hC U (.move rfl<|.fa 10 rfl U51<|.lb cv 9 U49 rfl rfl rfl<|.len rfl U49<|.lss rfl rfl .nil) fun Y U=>bc U 112 ?_ ?_
  ·
   intro bA U;try simp only [QQ,Qax] at bA
   have hk:k<ws.length:=by omega
   obtain⟨⟨xs,xl⟩,hes⟩:∃ e,ws[k]? = some e:=⟨_,List.getElem?_eq_getElem hk⟩
   refine wct U<|zss<|dO _ _<|wsk fun gr dP=>wp_block<|wsk fun gs dq =>?_
   obtain⟨e1,e2,e3,dr,e4,ds,cy⟩:=h2.extA (k) (r:=[.v (.int .i64 xs),.l 2 (xl.map itD)]) (iI hes)
   revert U
   cases dr
   rcases ds with _|⟨aN,_|⟨bV,_|_⟩⟩
   obtain rfl:=aN.v_out
   clear aN
   obtain⟨fZ,f0,dt,e5⟩:=bV.l_shape;subst dt
   intro U
   obtain⟨e6,e7,e8,du,e9,dv,cz⟩:=h2.extA (k) (r:=[.v (.int .i64 xs),.l 2 (xl.map itD)]) (iI hes)
   revert U
   cases du
   rcases dv with _|⟨aO,_|⟨aP,_|_⟩⟩
   obtain rfl:=aO.v_out
   clear aO
   obtain⟨f1,f2,dw,fb⟩:=aP.l_shape;subst dw
   intro U
   have cA:=cv.oz [9]
   refine region_p 23 (B:=[(9,_)]) (cA.to i1l) cA (by kernel_rfl) (fun f3 aQ aU =>?_);clear cA
   refine goR aQ [0,1,2,3,4,5,6,7,8,9] [1,5] 10 0 1023 U (aU.to i1l) (.fa 10 rfl U51<|.lb hh 9 U49 rfl rfl rfl<|.move rfl<|.p (fun _ _ h_=>ii h_ rfl rfl U49 jR (k) rfl hk)<|.fieldAddrQ 0 rfl j1 rfl (s:=0) (by kernel_rfl) rfl<|.loadAt1 (fun _ h_=>(cy h_ rfl)) (q:=0) rfl rfl rfl U2 rfl<|.move rfl<|.add rfl rfl (r:=(k:Int)+1) (IntWalk.i64_in _ (by omega))<|.neq rfl rfl<|.move rfl .nil) fun Y U=>bc U 124 ?_ ?_
   ·
    intro bB U;try simp only [QQ,Qax] at bB
    refine goA aQ [10,11,12,13,14,15,16,17,18,19,20,21,22] 13 1023 8388607 U (aU.to i1l) (.s<|.s<|.s<|.s<|.s<|.s<|.s<|.s<|.s<|.s<|.s<|.s<|.pickT rfl rfl .nil) fun Y U=>wad<|dq _ _<|wct U ?_
    replace U:=U.oz [1,4,112]
    refine hC U (.assign rfl .nil) fun Y U=>rt1 U ?_
    exact⟨false,rfl,iff_of_false (by simp) (fun h=>by obtain⟨v1,v2,v3,v4,v5,v6,v7,v8,v9⟩:=h;have aa:=v9 k hk;rw[jq hes] at aa;first|(have ae:=aa.1;dsimp only at ae;omega)|(have ac:=hib.2 aa.2;simp_all;done)),aU.below⟩
   intro bB U;try simp only [QQ,Qax] at bB
   refine goR aQ [10,11,12,13,14,15,16,17,18,19] [11,13,15,19] 10 1023 1048575 U (aU.to i1l) (.fa 1 rfl U51<|.lb hh 9 U3 rfl rfl rfl<|.fa 2 rfl U51<|.lb hh 9 U3 rfl rfl rfl<|.fa 10 rfl U51<|.lb hh 9 U49 rfl rfl rfl<|.move rfl<|.p (fun _ _ h_=>ii h_ rfl rfl U49 jR (k) rfl hk)<|.fieldAddrQ 1 rfl j1 rfl (s:=0) (by kernel_rfl) rfl<|.loadAt1 (fun _ h_=>(cz h_ rfl)) (q:=1) rfl rfl rfl U36 rfl .nil) fun Y U=>ig 20 rfl (by kernel_rfl) (iq U rfl rfl rfl rfl)<|fun K hK=>iw U Tryz.func115 rfl rfl rfl rfl (js _ _ xl _ _ _ _ ((aP.now' aU rfl).any) (hwl _ (List.mem_of_getElem? hes))) ?_
   rintro e f4 ⟨ib,rfl,hib,dx⟩
   have bW:=aU.later dx
   refine⟨_,rfl,?_⟩;intro Y U
   refine hK _ _ (bW.to i1l) ?_;clear hK K
   refine goA aQ [21,22] 2 2097151 8388607 U (bW.to i1l) (.not rfl<|.pickF rfl rfl .nil) fun Y U=>wad<|dq _ _<|bc U 137 ?_ ?_
   ·
    intro aw U;try simp only [QQ,Qax] at aw
    refine wct U ?_
    replace U:=U.oz [1,4,112]
    refine hC U (.assign rfl .nil) fun Y U=>rt1 U ?_
    exact⟨false,rfl,iff_of_false (by simp) (fun h=>by obtain⟨v1,v2,v3,v4,v5,v6,v7,v8,v9⟩:=h;have aa:=v9 k hk;rw[jq hes] at aa;first|(have ae:=aa.1;dsimp only at ae;omega)|(have ac:=hib.2 aa.2;have ae:=aw;rw[ac] at ae;simp at ae)),bW.below⟩
   intro aw U;try simp only [QQ,Qax] at aw
   refine wcf U<|zss (dP _ _ ?_)
   replace U:=U.oz [1,4,112]
   refine wp_region_lit<|g9 U (.move rfl<|.inc (k+1)<|.assign rfl .nil) fun Y U=>wpList_nil ?_
   show ∃ n',n'<_∧_
   exact⟨ws.length - (k+1),by omega,k+1,_,by omega,rfl,kp hall2 hes (by omega) (hib.1 (by have h8:=aw;simpa using h8)),U.only [1,4],bW.only [9]⟩
  intro bA U;try simp only [QQ,Qax] at bA
  revert U
  obtain rfl:k=ws.length:=by omega
  intro U
  refine wcf U<|wp_exit<|dN _ _<|hC U (.assign rfl .nil) fun Y U=>rt1 U ?_
  exact⟨true,rfl,iff_of_true rfl ⟨hsb.1 (by simp_all),by omega,by omega,by simp_all,by simp_all,by omega,by omega,hall,hall2⟩,cv.below⟩
 intro bo U;try simp only [QQ,Qax] at bo
 refine goR hP5 [41,42,43,44,45,46,47,48,49,50,51,52,53] [50] 13 2199023255551 18014398509481983 U (ab.to i1l) (.s<|.s<|.s<|.s<|.s<|.pickF rfl rfl<|.pickF rfl rfl<|.move rfl<|.fa 8 rfl U51<|.lb hh 20 U2 rfl rfl rfl<|.lss rfl rfl<|.pickF rfl rfl<|.move rfl .nil) fun Y U=>bc U 58 ?_ ?_
 ·
  intro bC U;try simp only [QQ,Qax] at bC
  refine goA hP5 [54,55,56,57,58,59] 6 18014398509481983 1152921504606846975 U (ab.to i1l) (.s<|.s<|.s<|.s<|.s<|.pickT rfl rfl .nil) fun Y U=>wad<|hK2 _ _<|wct U ?_
  replace U:=U.oz [1,2]
  refine hC U (.assign rfl .nil) fun Y U=>rt1 U ?_
  exact⟨false,rfl,iff_of_false (by simp) (fun h=>by obtain⟨v1,v2,v3,v4,v5,v6,v7,v8,v9⟩:=h;have aa:=hsb.2 v1;first|omega|(simp_all;done)|(simp_all;omega)),ab.below⟩
 intro bC U;try simp only [QQ,Qax] at bC
 refine goR hP5 [54,55,56] [55,56] 3 18014398509481983 144115188075855871 U (ab.to i1l) (.fa 8 rfl U51<|.lb hh 20 U2 rfl rfl rfl<|.loadBR hh (i:=20) rfl rfl U51 rfl hH (by simp) (by dsimp only [List.drop,List.take] <;> rfl) .nil) fun Y U=>ig 57 rfl (by kernel_rfl) (iq U rfl rfl rfl rfl)<|fun K hK=>iw U Tryz.func39 rfl rfl rfl rfl (iH _ _ _ _ _ _ _ _ _ _ _ _ _ _ _ _ _ _) ?_
 rintro e f5 ⟨rfl,dy⟩
 have bE:=ab.later dy
 refine⟨_,rfl,?_⟩;intro Y U
 refine hK _ _ (bE.to i1l) ?_;clear hK K
 refine goA hP5 [58,59] 2 288230376151711743 1152921504606846975 U (bE.to i1l) (.gtr rfl rfl<|.pickF rfl rfl .nil) fun Y U=>wad<|hK2 _ _<|bc U 64 ?_ ?_
 ·
  intro bF U;try simp only [QQ,Qax] at bF
  refine wct U ?_
  replace U:=U.oz [1,2]
  refine hC U (.assign rfl .nil) fun Y U=>rt1 U ?_
  exact⟨false,rfl,iff_of_false (by simp) (fun h=>by obtain⟨v1,v2,v3,v4,v5,v6,v7,v8,v9⟩:=h;have aa:=hsb.2 v1;first|omega|(simp_all;done)|(simp_all;omega)),bE.below⟩
 intro bF U;try simp only [QQ,Qax] at bF
 refine wcf U<|zss<|hK1 _ _<|wsk fun gu dQ =>?_
 replace U:=U.oz [1,2]
 refine hC U (.assign rfl .nil) fun Y U=>wp_block<|wp_loop_ghost (fun g a w => ∃ (k B:Nat),k≤pins.length∧g=pins.length - k∧jT fl ws.length pins k∧Has 138 [(1,.pointer (some ⟨B,0,none⟩)),(3,.int .i64 k)] a∧MemOk (cn w0) w0 [(9,.box B 51 [.int .i64 vo,.int .i64 bl,.int .i64 sz,.int .i64 pe,.slice pp place.length cp,.int .i64 to,.int .i64 ne,.bool hi,.int .i64 fl,.slice pn pins.length cn9,.slice pw ws.length cw])] w) (pins.length) ?_ ?_
 · exact⟨0,_,Nat.zero_le _,rfl,(fun j hj=>by omega),U.only [1,3],bE.ren [(9,20)] (by decide)⟩
 clear U bE
 rintro g Y f6 ⟨k,B,hkl,hg,hall,U,bX⟩
 refine wsk fun gv dR=>hC U (.move rfl<|.fa 9 rfl U51<|.lb bX 9 U48 rfl rfl rfl<|.len rfl U48<|.lss rfl rfl .nil) fun Y U=>bc U 69 ?_ ?_
 ·
  intro bG U;try simp only [QQ,Qax] at bG
  have hk:k<pins.length:=by omega
  refine wct U<|zss<|dR _ _<|wsk fun gw dz=>wp_block<|wsk fun gx bY =>?_
  obtain⟨fc,fd,dA,fe,cB⟩:=h1.extN (k) hk
  revert U
  cases dA
  intro U
  obtain⟨ff,fg,dB,fh,cC⟩:=h1.extN (k) hk
  revert U
  cases dB
  intro U
  obtain⟨fi,fj,dC,fk,cD⟩:=h1.extN (k) hk
  revert U
  cases dC
  intro U
  obtain⟨fm,fo,dD,fp,cE⟩:=h1.extN (k - 1) (show k - 1<pins.length by omega)
  revert U
  cases dD
  intro U
  have cF:=bX.oz [9]
  refine region_p 36 (B:=[(9,_)]) (cF.to i1l) cF (by kernel_rfl) (fun f7 aj bH =>?_);clear cF
  refine goR aj [0,1,2,3,4,5,6,7,8] [1,4,6] 9 0 511 U (bH.to i1l) (.fa 9 rfl U51<|.lb hh 9 U48 rfl rfl rfl<|.move rfl<|.p (fun _ _ h_=>ii h_ rfl rfl U48 iP (k) rfl hk)<|.loadAt1 (fun _ h_=>(cB h_ rfl)) (q:=0) rfl rfl rfl U2 rfl<|.fa 8 rfl U51<|.lb hh 9 U2 rfl rfl rfl<|.lss rfl rfl<|.move rfl .nil) fun Y U=>bc U 80 ?_ ?_
  ·
   intro bI U;try simp only [QQ,Qax] at bI
   refine goA aj [9,10,11,12,13,14,15,16,17,18,19,20,21,22,23,24,25,26,27,28,29,30,31,32,33,34,35] 27 511 68719476735 U (bH.to i1l) (.s<|.s<|.s<|.s<|.s<|.s<|.s<|.s<|.pickT rfl rfl<|.move rfl<|.s<|.s<|.s<|.u<|.u<|.u<|.u<|.u<|.u<|.u<|.u<|.u<|.u<|.u<|.u<|.s<|.pickT rfl rfl .nil) fun Y U=>wad<|bY _ _<|wct U ?_
   replace U:=U.oz [1,3,69]
   refine hC U (.assign rfl .nil) fun Y U=>rt1 U ?_
   exact⟨false,rfl,iff_of_false (by simp) (fun h=>by obtain⟨v1,v2,v3,v4,v5,v6,v7,v8,v9⟩:=h;have aa:=(io.1 v8).2 _ (iy hk);have ac:=(v8 k hk).1;first|omega|(rw[iW (by omega)] at ac;omega)),bH.below⟩
  intro bI U;try simp only [QQ,Qax] at bI
  refine goR aj [9,10,11,12,13,14] [10,13,14] 6 511 32767 U (bH.to i1l) (.fa 9 rfl U51<|.lb hh 9 U48 rfl rfl rfl<|.move rfl<|.p (fun _ _ h_=>ii h_ rfl rfl U48 iP (k) rfl hk)<|.loadAt1 (fun _ h_=>(cC h_ rfl)) (q:=0) rfl rfl rfl U2 rfl<|.loadBR hh (i:=9) rfl rfl U51 rfl hH (by simp) (by dsimp only [List.drop,List.take] <;> rfl) .nil) fun Y U=>ig 15 rfl (by kernel_rfl) (iq U rfl rfl rfl rfl)<|fun K hK=>iw U Tryz.func39 rfl rfl rfl rfl (iH _ _ _ _ _ _ _ _ _ _ _ _ _ _ _ _ _ _) ?_
  rintro e fq ⟨rfl,cG⟩
  have ad:=bH.later cG
  refine⟨_,rfl,?_⟩;intro Y U
  refine hK _ _ (ad.to i1l) ?_;clear hK K
  refine goA aj [16,17,18] 3 65535 524287 U (ad.to i1l) (.gtr rfl rfl<|.pickF rfl rfl<|.move rfl .nil) fun Y U=>bc U 90 ?_ ?_
  ·
   intro aA U;try simp only [QQ,Qax] at aA
   refine goA aj [19,20,21,22,23,24,25,26,27,28,29,30,31,32,33,34,35] 17 524287 68719476735 U (ad.to i1l) (.s<|.s<|.s<|.u<|.u<|.u<|.u<|.u<|.u<|.u<|.u<|.u<|.u<|.u<|.u<|.s<|.pickT rfl rfl .nil) fun Y U=>wad<|bY _ _<|wct U ?_
   replace U:=U.oz [1,3,69]
   refine hC U (.assign rfl .nil) fun Y U=>rt1 U ?_
   exact⟨false,rfl,iff_of_false (by simp) (fun h=>by obtain⟨v1,v2,v3,v4,v5,v6,v7,v8,v9⟩:=h;have aa:=(io.1 v8).2 _ (iy hk);have ac:=(v8 k hk).1;first|omega|(rw[iW (by omega)] at ac;omega)),ad.below⟩
  intro aA U;try simp only [QQ,Qax] at aA
  refine goA aj [19,20,21] 3 524287 4194303 U (ad.to i1l) (.move rfl<|.gtr rfl rfl<|.move rfl .nil) fun Y U=>bc U 93 ?_ ?_
  ·
   intro aB U;try simp only [QQ,Qax] at aB
   refine goR aj [22,23,24,25,26,27,28,29,30,31,32,33,34,35] [23,26,28,32] 14 4194303 68719476735 U (ad.to i1l) (.fa 9 rfl U51<|.lb hh 9 U48 rfl rfl rfl<|.move rfl<|.p (fun _ _ h_=>ii h_ rfl rfl U48 iP (k) rfl hk)<|.loadAt1 (fun _ h_=>(cD h_ rfl)) (q:=0) rfl rfl rfl U2 rfl<|.fa 9 rfl U51<|.lb hh 9 U48 rfl rfl rfl<|.move rfl<|.sub rfl rfl (r:=(k:Int) - 1) (IntWalk.i64_in _ (by omega))<|.p (fun _ _ h_=>ii h_ rfl rfl U48 iP (k - 1) (by omega) (show k - 1<pins.length by omega))<|.loadAt1 (fun _ h_=>(cE h_ rfl)) (q:=0) rfl rfl rfl U2 rfl<|.lss rfl rfl<|.pickT rfl rfl<|.pickF rfl rfl .nil) fun Y U=>wad<|bY _ _<|bc U 107 ?_ ?_
   ·
    intro aC U;try simp only [QQ,Qax] at aC
    refine wct U ?_
    replace U:=U.oz [1,3,69]
    refine hC U (.assign rfl .nil) fun Y U=>rt1 U ?_
    exact⟨false,rfl,iff_of_false (by simp) (fun h=>by obtain⟨v1,v2,v3,v4,v5,v6,v7,v8,v9⟩:=h;have aa:=(io.1 v8).2 _ (iy hk);have ac:=(v8 k hk).1;first|omega|(rw[iW (by omega)] at ac;omega)),ad.below⟩
   intro aC U;try simp only [QQ,Qax] at aC
   refine wcf U<|zss (dz _ _ ?_)
   replace U:=U.oz [1,3,69]
   refine wp_region_lit<|g9 U (.move rfl<|.inc (k+1)<|.assign rfl .nil) fun Y U=>wpList_nil ?_
   show ∃ n',n'<_∧_
   exact⟨pins.length - (k+1),by omega,k+1,_,by omega,rfl,jp hall (jP (by omega) (by omega)) (by omega),U.only [1,3],ad.only [9]⟩
  intro aB U;try simp only [QQ,Qax] at aB
  refine goA aj [22,23,24,25,26,27,28,29,30,31,32,33,34,35] 14 4194303 68719476735 U (ad.to i1l) (.s<|.s<|.s<|.s<|.s<|.s<|.s<|.s<|.s<|.s<|.s<|.s<|.pickF rfl rfl<|.pickF rfl rfl .nil) fun Y U=>wad<|bY _ _<|wcf U<|zss (dz _ _ ?_)
  replace U:=U.oz [1,3,69]
  refine wp_region_lit<|g9 U (.move rfl<|.inc (k+1)<|.assign rfl .nil) fun Y U=>wpList_nil ?_
  show ∃ n',n'<_∧_
  exact⟨pins.length - (k+1),by omega,k+1,_,by omega,rfl,jp hall (jP (by omega) (by omega)) (by omega),U.only [1,3],ad.only [9]⟩
 intro bG U;try simp only [QQ,Qax] at bG
 revert U
 obtain rfl:k=pins.length:=by omega
 intro U
 refine wcf U<|wp_exit<|dQ _ _<|wsk fun gy dS=>hC U (.assign rfl .nil) fun Y U=>wp_block<|wp_loop_ghost (fun g a w => ∃ (k B:Nat),k≤ws.length∧g=ws.length - k∧lj bl sz ws k∧Has 138 [(1,.pointer (some ⟨B,0,none⟩)),(4,.int .i64 k)] a∧MemOk (cn w0) w0 [(9,.box B 51 [.int .i64 vo,.int .i64 bl,.int .i64 sz,.int .i64 pe,.slice pp place.length cp,.int .i64 to,.int .i64 ne,.bool hi,.int .i64 fl,.slice pn pins.length cn9,.slice pw ws.length cw])] w) (ws.length) ?_ ?_
 · exact⟨0,_,Nat.zero_le _,rfl,(fun j hj=>by omega),U.only [1,4],bX.ren [(9,9)] (by decide)⟩
 clear U bX
 rintro g Y fr ⟨k,B,hkl,hg,hall2,U,bJ⟩
 refine wsk fun gA dT=>hC U (.move rfl<|.fa 10 rfl U51<|.lb bJ 9 U49 rfl rfl rfl<|.len rfl U49<|.lss rfl rfl .nil) fun Y U=>bc U 112 ?_ ?_
 ·
  intro aD U;try simp only [QQ,Qax] at aD
  have hk:k<ws.length:=by omega
  obtain⟨⟨xs,xl⟩,hes⟩:∃ e,ws[k]? = some e:=⟨_,List.getElem?_eq_getElem hk⟩
  refine wct U<|zss<|dT _ _<|wsk fun gB dU=>wp_block<|wsk fun gC dE =>?_
  obtain⟨dV,dW,dX,cH,dY,cI,bZ⟩:=h2.extA (k) (r:=[.v (.int .i64 xs),.l 2 (xl.map itD)]) (iI hes)
  revert U
  cases cH
  rcases cI with _|⟨ax,_|⟨bK,_|_⟩⟩
  obtain rfl:=ax.v_out
  clear ax
  obtain⟨fs,ft,cJ,dZ⟩:=bK.l_shape;subst cJ
  intro U
  obtain⟨d0,d1,d2,cK,d3,cL,b0⟩:=h2.extA (k) (r:=[.v (.int .i64 xs),.l 2 (xl.map itD)]) (iI hes)
  revert U
  cases cK
  rcases cL with _|⟨ay,_|⟨az,_|_⟩⟩
  obtain rfl:=ay.v_out
  clear ay
  obtain⟨fu,fv,cM,d4⟩:=az.l_shape;subst cM
  intro U
  have bL:=bJ.oz [9]
  refine region_p 23 (B:=[(9,_)]) (bL.to i1l) bL (by kernel_rfl) (fun fw ar aq =>?_);clear bL
  refine goR ar [0,1,2,3,4,5,6,7,8,9] [1,5] 10 0 1023 U (aq.to i1l) (.fa 10 rfl U51<|.lb hh 9 U49 rfl rfl rfl<|.move rfl<|.p (fun _ _ h_=>ii h_ rfl rfl U49 jR (k) rfl hk)<|.fieldAddrQ 0 rfl j1 rfl (s:=0) (by kernel_rfl) rfl<|.loadAt1 (fun _ h_=>(bZ h_ rfl)) (q:=0) rfl rfl rfl U2 rfl<|.move rfl<|.add rfl rfl (r:=(k:Int)+1) (IntWalk.i64_in _ (by omega))<|.neq rfl rfl<|.move rfl .nil) fun Y U=>bc U 124 ?_ ?_
  ·
   intro aE U;try simp only [QQ,Qax] at aE
   refine goA ar [10,11,12,13,14,15,16,17,18,19,20,21,22] 13 1023 8388607 U (aq.to i1l) (.s<|.s<|.s<|.s<|.s<|.s<|.s<|.s<|.s<|.s<|.s<|.s<|.pickT rfl rfl .nil) fun Y U=>wad<|dE _ _<|wct U ?_
   replace U:=U.oz [1,4,112]
   refine hC U (.assign rfl .nil) fun Y U=>rt1 U ?_
   exact⟨false,rfl,iff_of_false (by simp) (fun h=>by obtain⟨v1,v2,v3,v4,v5,v6,v7,v8,v9⟩:=h;have aa:=v9 k hk;rw[jq hes] at aa;first|(have ae:=aa.1;dsimp only at ae;omega)|(have ac:=hib.2 aa.2;simp_all;done)),aq.below⟩
  intro aE U;try simp only [QQ,Qax] at aE
  refine goR ar [10,11,12,13,14,15,16,17,18,19] [11,13,15,19] 10 1023 1048575 U (aq.to i1l) (.fa 1 rfl U51<|.lb hh 9 U3 rfl rfl rfl<|.fa 2 rfl U51<|.lb hh 9 U3 rfl rfl rfl<|.fa 10 rfl U51<|.lb hh 9 U49 rfl rfl rfl<|.move rfl<|.p (fun _ _ h_=>ii h_ rfl rfl U49 jR (k) rfl hk)<|.fieldAddrQ 1 rfl j1 rfl (s:=0) (by kernel_rfl) rfl<|.loadAt1 (fun _ h_=>(b0 h_ rfl)) (q:=1) rfl rfl rfl U36 rfl .nil) fun Y U=>ig 20 rfl (by kernel_rfl) (iq U rfl rfl rfl rfl)<|fun K hK=>iw U Tryz.func115 rfl rfl rfl rfl (js _ _ xl _ _ _ _ ((az.now' aq rfl).any) (hwl _ (List.mem_of_getElem? hes))) ?_
  rintro e fx ⟨ib,rfl,hib,cN⟩
  have aR:=aq.later cN
  refine⟨_,rfl,?_⟩;intro Y U
  refine hK _ _ (aR.to i1l) ?_;clear hK K
  refine goA ar [21,22] 2 2097151 8388607 U (aR.to i1l) (.not rfl<|.pickF rfl rfl .nil) fun Y U=>wad<|dE _ _<|bc U 137 ?_ ?_
  ·
   intro ak U;try simp only [QQ,Qax] at ak
   refine wct U ?_
   replace U:=U.oz [1,4,112]
   refine hC U (.assign rfl .nil) fun Y U=>rt1 U ?_
   exact⟨false,rfl,iff_of_false (by simp) (fun h=>by obtain⟨v1,v2,v3,v4,v5,v6,v7,v8,v9⟩:=h;have aa:=v9 k hk;rw[jq hes] at aa;first|(have ae:=aa.1;dsimp only at ae;omega)|(have ac:=hib.2 aa.2;have ae:=ak;rw[ac] at ae;simp at ae)),aR.below⟩
  intro ak U;try simp only [QQ,Qax] at ak
  refine wcf U<|zss (dU _ _ ?_)
  replace U:=U.oz [1,4,112]
  refine wp_region_lit<|g9 U (.move rfl<|.inc (k+1)<|.assign rfl .nil) fun Y U=>wpList_nil ?_
  show ∃ n',n'<_∧_
  exact⟨ws.length - (k+1),by omega,k+1,_,by omega,rfl,kp hall2 hes (by omega) (hib.1 (by have h8:=ak;simpa using h8)),U.only [1,4],aR.only [9]⟩
 intro aD U;try simp only [QQ,Qax] at aD
 revert U
 obtain rfl:k=ws.length:=by omega
 intro U
 refine wcf U<|wp_exit<|dS _ _<|hC U (.assign rfl .nil) fun Y U=>rt1 U ?_
 exact⟨true,rfl,iff_of_true rfl ⟨hsb.1 (by simp_all),by omega,by omega,by simp_all,by simp_all,by omega,by omega,hall,hall2⟩,bJ.below⟩
end
end Go.Proofs.YtkehgingagggaaaGreat.K
