/- General laws of walks. -/
import Derived.Test.YtkehgingagggaaaGreatG24
import Derived.Test.YtkehgingagggaaaGreatG25
import Derived.Test.YtkehgingagggaaaGreatG20
import Derived.Test.YtkehgingagggaaaGreatG21
import Derived.Test.YtkehgingagggaaaGreatG11
import Derived.Test.YtkehgingagggaaaGreatG3
import Derived.Deep.Matrix
import Derived.Test.YtkehgingagggaaaGreatG9
import Derived.OpenShut
namespace Go.Proofs.YtkehgingagggaaaGreat.K
open Go.ChangeShapes Go.WideShapes Go.ChangeAt Go.RowKit
set_option linter.unusedVariables false
set_option linter.unusedSimpArgs false
set_option maxRecDepth 100000
set_option maxHeartbeats 4000000
set_option autoImplicit true
set_option relaxedAutoImplicit true
section
theorem ry:iO Tryz.prog 32 [.slice none 0 0]=true:=by kernel_rfl
theorem xM{zs:List (List Int)}{j:Nat}{z:List Int}(h:zs[j]? = some z):(zs.map bD)[j]? = some [.ns .u8 z]:=by rw[List.getElem?_map,h];rfl
theorem xN{a b c d:List Int}{Q:List Int→Prop}(ha:Q a)(hb:Q b)(hc:Q c)(hd:Q d):∀ z∈[a,b,c,d],Q z:=fun z hz=>by
 simp only [List.mem_cons,List.not_mem_nil,or_false] at hz
 rcases hz with rfl|rfl|rfl|rfl
 · exact ha
 · exact hb
 · exact hc
 exact hd
theorem uc{l:List Int}{v:Int}(h:BytesL l)(hv:0≤v∧v≤255):BytesL (l.set j v):=fun z hz=>by
 rcases List.mem_or_eq_of_mem_set hz with h1|h1
 · exact h z h1
 rw[h1];exact hv
theorem xO(z:Int):0≤IntKind.u8.wrap z∧IntKind.u8.wrap z≤255:=by
 show 0≤z % 256∧z % 256≤255
 omega
theorem plays_walk(y0:List Int)(zs:List (List Int))(rc:List Cm)(n3 n4 q0 q1 q2 g0 g1 g2)(w0:World)(hn3:0≤n3∧n3≤65535)(hn4:0≤n4∧n4≤255)(h0:Rd (fun _=>True) w0 (.slice q0 y0.length g0) (.ns .u8 y0))(hb0:∀ j,j<y0.length→0≤y0.getD j 0∧y0.getD j 0≤255)(h1:Rd (fun _=>True) w0 (.slice q1 (zs.map bD).length g1) (.l 1 (zs.map bD)))(hzB:∀ z∈zs,BytesL z)(h2:Rd (fun _=>True) w0 (.slice q2 (rc.map cmD).length g2) (.l 10 (rc.map cmD)))(hrb:∀ c∈rc,∀ e∈c.its,BytesL e.2)(hrl:∀ c∈rc,c.its.length≤140737488351232) :
   Calls Tryz.prog 3 #[.slice q0 y0.length g0,.slice q1 (zs.map bD).length g1,.slice q2 (rc.map cmD).length g2,.int .u16 n3,.int .u8 n4] w0 fun e w'=>e=.returned (.bool true)∧Below w0.heap.size w0 w':=by
 refine y9 Tryz.func3 rfl Tryz.ntmps3 fun Y U =>?_
 have m0:=((((MemOk.start (fun _=>True) w0).dat 11 rfl (h0.cast (fun _ _=>(lu (fun _=>trivial))))).dat 12 rfl (h2.cast (fun _ _=>(ia rfl (lu (fun _=>trivial)))))).dat 13 rfl (h1.cast (fun _ _=>(ia rfl (ia rfl (lu (fun _=>trivial)))))))
 refine hC U (.assign rfl .nil) fun Y U=>wsk fun K0 hK0=>zsr fun K1 hK1=>plz<|ecb U Tryz.func8 rfl m0 (vy _) fun Y w2 U m3=>gz hK1 U (.not rfl .nil) fun Y U=>wcf U<|zss<|hK0 _ _<|wsk fun K2 hK2=>zsr fun K3 hK3=>g9 U (.move rfl<|.len rfl U22<|.gtr rfl rfl<|.move rfl .nil) fun Y U=>bc U 32 ?_ ?_
 ·
  intro a5 U;try simp only [QQ,Qax] at a5
  refine gz hK3 U (.sk<|.sk<|.sk<|.pickT rfl rfl<|.move rfl<|.sk<|.sk<|.sk<|.pickT rfl rfl<|.nil) fun Y U=>wct U ?_
  replace U:=U.oz [0,1,2,3,4,10]
  refine hC U (.assign rfl .nil) fun Y U=>rt1 U ?_
  exact⟨rfl,m3.below⟩
 intro a5 U;try simp only [QQ,Qax] at a5
 have hl0:y0.length≤160:=by have:=a5;first|omega|(simp at this;omega)
 refine g9 U (.moveZ rfl<|.lenZ rfl U23<|.gtrZ rfl rfl<|.pickF rfl rfl<|.move rfl .nil) fun Y U=>bc U 37 ?_ ?_
 ·
  intro a6 U;try simp only [QQ,Qax] at a6
  refine gz hK3 U (.sk<|.sk<|.sk<|.pickT rfl rfl<|.nil) fun Y U=>wct U ?_
  replace U:=U.oz [0,1,2,3,4,10]
  refine hC U (.assign rfl .nil) fun Y U=>rt1 U ?_
  exact⟨rfl,m3.below⟩
 intro a6 U;try simp only [QQ,Qax] at a6
 have hl1:zs.length≤6:=by have:=a6;first|omega|(simp at this;omega)
 refine gz hK3 U (.moveZ rfl<|.lenZ rfl U24<|.gtrZ rfl rfl<|.pickF rfl rfl<|.nil) fun Y U=>bc U 41 ?_ ?_
 ·
  intro a7 U;try simp only [QQ,Qax] at a7
  refine wct U ?_
  replace U:=U.oz [0,1,2,3,4,10]
  refine hC U (.assign rfl .nil) fun Y U=>rt1 U ?_
  exact⟨rfl,m3.below⟩
 intro a7 U;try simp only [QQ,Qax] at a7
 have hl2:rc.length≤6:=by have:=a7;first|omega|(simp at this;omega)
 refine wcf U<|zss (hK2 _ _ ?_)
 replace U:=U.oz [0,1,2,3,4,10]
 refine zsr fun K4 hK4=>plz (ecl U Tryz.func9 rfl (ms _ _ (m3.into [] (by decide) rfl)) ?_)
 rintro e gq ⟨B1,G1,rfl,bT⟩
 have dc:=m3.back bT [(1,1),(2,2)] (by decide);clear bT m3
 have er:=dc.oz [1,2,11,12,13]
 refine⟨_,rfl,?_⟩;intro Y U
 refine g9 U (.build rfl sK ry rfl (by dsimp only [iY,List.set] <;> rfl) .nil) fun Y U=>plz<|iu U er 300 (cs:=[_]) rfl rfl rfl fun gr Y gs U dZ _ _=>gz hK4 U (.assign rfl<|.assign rfl<|.nil) fun Y U=>zsr fun K5 hK5=>g9 U (.move rfl .nil) fun Y U=>plz (ecl U Tryz.func10 rfl (uZ y0 _ _ _ ((dZ.rd (i:=11) rfl).any) (by omega) hb0) ?_)
 rintro e gu ⟨cs,gv,gw,rfl,hcl,hcR,de,df⟩
 have d0:=dZ.callR 301 df (de.cast (fun b h=>⟨h.1.elim False.elim .inr,h.2⟩))
 refine⟨_,rfl,?_⟩;intro Y U
 refine g9 U (.move rfl .nil) fun Y U=>plz<|iM U d0 301 rfl rfl rfl (d0.rd (i:=12) rfl) U24 qK rfl rfl (by decide) (by simp only [List.length_map];omega) rfl fun gx gy Y gA U es=>gz hK5 U (.assign rfl .nil) fun Y U=>wsk fun K6 hK6 =>?_
 replace U:=U.oz [1,3,4,10,11,12,13]
 refine hC U (.assign rfl .nil) fun Y U=>wp_block ?_
 have db:=es.freezeR 301 rfl
 rw[show(cs.map cmD)++(rc.map cmD)=(cs++rc).map cmD from List.map_append.symm] at db U
 obtain⟨ds,hds⟩:∃ ds,ds=cs++rc:=⟨_,rfl⟩
 rw[← hds] at db U
 have hdn:ds.length≤46:=by rw[hds,List.length_append];omega
 have hdb:∀ c∈ds,∀ e∈c.its,BytesL e.2:=fun c hc=>by rw[hds] at hc;exact(List.mem_append.1 hc).elim (fun h e he=>((hcR c h).2 e he).2) (hrb c)
 have hdl:∀ c∈ds,c.its.length≤140737488351232:=fun c hc=>by rw[hds] at hc;exact(List.mem_append.1 hc).elim (fun h=>by have:=(hcR c h).1.il;omega) (hrl c)
 refine wp_loop_ghost (fun g a w => ∃ (k B G B5 c c8:Nat) (L R:List VolV) (p p8:Option Addr),k≤ds.length+zs.length∧((L).Perm R∧SrtV R∧(∀ y∈R,VolS (k) y)∧tot R≤k)∧g=ds.length+zs.length - k∧Has 191 [(1,.slice q1 (zs.map bD).length g1),(3,.int .u16 n3),(4,.int .u8 n4),(11,.pointer (some ⟨B,0,none⟩)),(12,.pointer (some ⟨B5,0,none⟩)),(13,.slice p8 (ds.map cmD).length c8),(14,.int .i64 k)] a∧MemOk (cx (fun _=>True) w0) w0 [(1,.box B 87 [.map (some G)]),(2,.mp G 11 ((L).map iU) ((L).map ij)),(3,.box B5 32 [.slice p ((R).map ij).length c]),(4,.dat (.slice p ((R).map ij).length c) (.l 11 ((R).map ij))),(8,.dat (.slice p8 (ds.map cmD).length c8) (.l 10 (ds.map cmD))),(13,.dat (.slice q1 (zs.map bD).length g1) (.l 1 (zs.map bD)))] w) (ds.length+zs.length) ?_ ?_
 · have mz:=db.dat 4 rfl (Rd.l0 none 0 11)
   exact⟨0,_,_,_,_,_,[],[],_,_,Nat.zero_le _,⟨List.Perm.refl _,List.Pairwise.nil,(fun y hy=>by cases hy),Nat.le_refl _⟩,rfl,U.only [1,3,4,11,12,13,14],mz.ren [(1,1),(2,2),(3,300),(4,4),(8,301),(13,13)] (by decide)⟩
 clear U db
 rintro g Y gB ⟨k,B,G,B5,c,c8,L,R,p,p8,hkl,⟨hLR,hRS,hRV,hT⟩,hg,U,bz⟩
 refine wsk fun K7 hK7=>hC U (.move rfl<|.move rfl<|.len rfl U24<|.move rfl<|.len rfl U23<|.add rfl rfl (r:=((ds.length+zs.length:Nat):Int)) (by rw[List.length_map,List.length_map,IntWalk.i64_in _ (by omega)];omega)<|.lss rfl rfl .nil) fun Y U=>bc U 55 ?_ ?_
 ·
  intro a8 U;try simp only [QQ,Qax] at a8
  have hkt:k<ds.length+zs.length:=by have:=a8;first|omega|(simp at this;omega)
  refine wct U<|zss<|hK7 _ _<|wsk fun K8 hK8=>wp_block ?_
  replace U:=U.oz [1,3,4,11,12,13,14]
  refine hC U (.assign rfl .nil) fun Y U=>wsk fun K9 hK9 =>?_
  have hC9:∀ (a:Act) (w:World),(∃ (z:List Int) (pz:Option Addr) (cz:Nat),BytesL z∧z.length≤20000∧Has 191 [(1,.slice q1 (zs.map bD).length g1),(3,.int .u16 n3),(4,.int .u8 n4),(11,.pointer (some ⟨B,0,none⟩)),(12,.pointer (some ⟨B5,0,none⟩)),(13,.slice p8 (ds.map cmD).length c8),(14,.int .i64 k),(15,.slice pz z.length cz)] a∧MemOk (cx (fun _=>True) w0) w0 [(1,.box B 87 [.map (some G)]),(2,.mp G 11 ((L).map iU) ((L).map ij)),(3,.box B5 32 [.slice p ((R).map ij).length c]),(4,.dat (.slice p ((R).map ij).length c) (.l 11 ((R).map ij))),(8,.dat (.slice p8 (ds.map cmD).length c8) (.l 10 (ds.map cmD))),(13,.dat (.slice q1 (zs.map bD).length g1) (.l 1 (zs.map bD))),(20,.dat (.slice pz z.length cz) (.ns .u8 z))] w)→K9 a w:=by
    clear U bz
    rintro Y gC ⟨z,pz,cz,hzb,hzl,U,dg⟩
    refine hK9 _ _<|wsk fun dh di =>?_
    have bU:∀ (a:Act) (w:World),(∃ (L2 R2:List VolV) (p:Option Addr) (c:Nat),((L2).Perm R2∧SrtV R2∧(∀ y∈R2,VolS (k+1) y)∧tot R2≤k+1)∧Has 191 [(1,.slice q1 (zs.map bD).length g1),(3,.int .u16 n3),(4,.int .u8 n4),(11,.pointer (some ⟨B,0,none⟩)),(12,.pointer (some ⟨B5,0,none⟩)),(13,.slice p8 (ds.map cmD).length c8),(14,.int .i64 k),(103,.bool false)] a∧MemOk (cx (fun _=>True) w0) w0 [(1,.box B 87 [.map (some G)]),(2,.mp G 11 ((L2).map iU) ((L2).map ij)),(3,.box B5 32 [.slice p ((R2).map ij).length c]),(4,.dat (.slice p ((R2).map ij).length c) (.l 11 ((R2).map ij))),(8,.dat (.slice p8 (ds.map cmD).length c8) (.l 10 (ds.map cmD))),(13,.dat (.slice q1 (zs.map bD).length g1) (.l 1 (zs.map bD)))] w)→dh a w:=by
      clear U dg
      rintro Y gD ⟨L2,R2,p,c,⟨hLR2,hRS2,hRV2,hT2⟩,U,et⟩
      refine di _ _<|wcf U<|zss<|hK8 _ _<|wp_region_lit<|g9 U (.move rfl<|.inc (k+1)<|.assign rfl .nil) fun Y U=>wpList_nil ?_
      show ∃ n',n'<_∧_
      exact⟨ds.length+zs.length - (k+1),by omega,k+1,_,_,_,_,_,L2,R2,_,_,by omega,⟨hLR2,hRS2,hRV2,hT2⟩,rfl,U.only [1,3,4,11,12,13,14],et.ren [(1,1),(2,2),(3,3),(4,4),(8,8),(13,13)] (by decide)⟩
    obtain⟨oz,hz⟩:=yS z
    have d1:=dg.dat 500 rfl (dg.rd (i:=20) rfl)
    have eu:=d1.dat 501 rfl (d1.rd (i:=20) rfl)
    have dj:=eu.oz [1,2,3,4,8,13,20,500,501]
    refine region_p 17 (B:=[(8,_),(13,_),(20,_)]) (dj.to i3l) dj (by kernel_rfl) (fun gE a9 bV =>?_);clear dj
    refine y5 (I:=fun a w => ∃ (e1 rl1 rf1 rn1:Int) (L2 R2:List VolV) (p:Option Addr) (c:Nat),((L2).Perm R2∧SrtV R2∧(∀ y∈R2,VolS (k+1) y)∧tot R2≤k+1)∧Has 191 [(1,.slice q1 (zs.map bD).length g1),(3,.int .u16 n3),(4,.int .u8 n4),(11,.pointer (some ⟨B,0,none⟩)),(12,.pointer (some ⟨B5,0,none⟩)),(13,.slice p8 (ds.map cmD).length c8),(14,.int .i64 k),(86,.pointer (some ⟨B,0,none⟩)),(89,.pointer (some ⟨B5,0,none⟩)),(88,.agg #[.int .i64 e1,.int .i64 rl1,.int .i64 rf1,.int .i64 rn1,.slice none 0 0]),(91,.agg #[.int .i64 e1,.int .i64 rl1,.int .i64 rf1,.int .i64 rn1,.slice none 0 0])] a∧MemOk (cx (fun _=>True) w0) w0 [(1,.box B 87 [.map (some G)]),(2,.mp G 11 ((L2).map iU) ((L2).map ij)),(3,.box B5 32 [.slice p ((R2).map ij).length c]),(4,.dat (.slice p ((R2).map ij).length c) (.l 11 ((R2).map ij))),(8,.dat (.slice p8 (ds.map cmD).length c8) (.l 10 (ds.map cmD))),(13,.dat (.slice q1 (zs.map bD).length g1) (.l 1 (zs.map bD))),(20,.dat (.slice pz z.length cz) (.ns .u8 z))] w) 12 63 ?_ fun hD =>?_
    ·
     clear U bV
     rintro Y gF ⟨e1,rl1,rf1,rn1,L2,R2,p,c,⟨hLR2,hRS2,hRV2,hT2⟩,U,ew⟩
     refine so 6 ?_
     refine ecb U Tryz.func13 rfl ew (rz _ _ _ _ _) fun Y gG U a4=>⟨a4.to i3l,?_⟩
     refine goA a9 [7,8,9,11,12,13] 6 127 15359 U (a4.to i3l) (.not rfl<|.move rfl<|.move rfl<|.move rfl<|.nilCheck rfl<|.fa 0 rfl U32 .nil) fun Y U=>qI 10 14 rfl rfl (by kernel_rfl) (iq U rfl rfl rfl rfl) (iq U rfl rfl rfl rfl) (fun K hK =>?_) (fun K hK =>?_)
     ·
      refine iw U Tryz.func17 rfl rfl rfl rfl (rA _ _ _ L2 _ (fun y hy=>((hRV2 y (hLR2.mem_iff.1 hy)).q (by omega)).cp) (by have:=hLR2.length_eq;have:=kW hRS2 hRV2;omega) (a4.into [(1,1),(2,2)] (by decide) rfl)) ?_
      rintro e gH ⟨gI,gJ,rfl,bW⟩
      have dk:=a4.back bW [(1,1),(2,2),(600,3)] (by decide);clear bW a4
      have bA:=dk.oz [1,2,600,3,4,8,13,20]
      refine⟨_,rfl,?_⟩;intro Y U
      refine hK _ _ (fun _=>(bA.to i3l)) ?_;clear hK K
      rw[kC hLR2 hRS2] at bA U
      refine ig 14 rfl (by kernel_rfl) (iq U rfl rfl rfl rfl)<|fun K hK=>e_y U rfl (jx U bA (i:=3) rfl rfl rfl U30 rfl) fun Y U =>?_
      refine hK _ _ (bA.to i3l) ?_;clear hK K
      refine ig 15 rfl (by kernel_rfl) (iq U rfl rfl rfl rfl)<|fun K hK=>iw U Tryz.func16 rfl rfl rfl rfl (nf R2 _ _ _ _ _ ((bA.rd (i:=600) rfl).any) ((bA.rd (i:=4) rfl).any) (fun y hy=>qU (hRV2 y hy) (by omega)) (by have:=kW hRS2 hRV2;omega)) ?_
      rintro e gK ⟨rfl,dl⟩
      have dm:=bA.later dl
      refine⟨_,rfl,?_⟩;intro Y U
      refine hK _ _ (dm.to i3l) ?_;clear hK K
      refine goA a9 [16] 1 65535 131071 U (dm.to i3l) (.not rfl .nil) fun Y U=>se 17 ?_
      refine e_y U rfl (j0 U rfl rfl) fun Y U=>wad ?_
      show dh _ _
      exact bU _ _ ⟨_,_,_,_,⟨hLR2,hRS2,hRV2,hT2⟩,U.only [1,3,4,11,12,13,14,103],dm.ren [(1,1),(2,2),(3,3),(4,4),(8,8),(13,13)] (by decide)⟩
     refine e_y U rfl (jx U a4 (i:=3) rfl rfl rfl U30 rfl) fun Y U =>?_
     refine hK _ _ (fun _=>(a4.to i3l)) ?_;clear hK K
     refine ig 10 rfl (by kernel_rfl) (iq U rfl rfl rfl rfl)<|fun K hK=>iw U Tryz.func17 rfl rfl rfl rfl (rA _ _ _ L2 _ (fun y hy=>((hRV2 y (hLR2.mem_iff.1 hy)).q (by omega)).cp) (by have:=hLR2.length_eq;have:=kW hRS2 hRV2;omega) (a4.into [(1,1),(2,2)] (by decide) rfl)) ?_
     rintro e ex ⟨ey,ez,rfl,bm⟩
     have bX:=a4.back bm [(1,1),(2,2),(600,3)] (by decide);clear bm a4
     have aV:=bX.oz [1,2,600,3,4,8,13,20]
     refine⟨_,rfl,?_⟩;intro Y U
     refine hK _ _ (aV.to i3l) ?_;clear hK K
     rw[kC hLR2 hRS2] at aV U
     refine ig 15 rfl (by kernel_rfl) (iq U rfl rfl rfl rfl)<|fun K hK=>iw U Tryz.func16 rfl rfl rfl rfl (nf R2 _ _ _ _ _ ((aV.rd (i:=600) rfl).any) ((aV.rd (i:=4) rfl).any) (fun y hy=>qU (hRV2 y hy) (by omega)) (by have:=kW hRS2 hRV2;omega)) ?_
     rintro e eA ⟨rfl,bY⟩
     have bB:=aV.later bY
     refine⟨_,rfl,?_⟩;intro Y U
     refine hK _ _ (bB.to i3l) ?_;clear hK K
     refine goA a9 [16] 1 65535 131071 U (bB.to i3l) (.not rfl .nil) fun Y U=>se 17 ?_
     refine e_y U rfl (j0 U rfl rfl) fun Y U=>wad ?_
     show dh _ _
     exact bU _ _ ⟨_,_,_,_,⟨hLR2,hRS2,hRV2,hT2⟩,U.only [1,3,4,11,12,13,14,103],bB.ren [(1,1),(2,2),(3,3),(4,4),(8,8),(13,13)] (by decide)⟩
    refine goA a9 [0,1,3,4] 4 0 27 U (bV.to i3l) (.move rfl<|.move rfl<|.move rfl<|.move rfl .nil) fun Y U=>so 2 ?_
    refine ecl U Tryz.func14 rfl (vL _ _ _ k L z oz hz (by omega) hzb (by omega) (fun y hy=>hRV y (hLR.mem_iff.1 hy)) _ _ _ (bV.into [(1,1),(2,2),(3,500)] (by decide) rfl)) ?_
    rintro e eB ⟨L2,e1,rl1,rf1,rn1,rfl,hmA,bn⟩
    have bZ:=bV.back bn [(1,1),(2,2)] (by decide);clear bn bV
    have ba:=bZ.oz [1,2,3,4,8,13,20,501]
    refine⟨_,rfl,?_⟩;intro Y U
    refine⟨ba.to i3l,?_⟩
    refine so 5 ?_
    refine ecl U Tryz.func15 rfl (te _ _ k R _ _ z oz hz (by omega) hzb (by omega) hRV hRS _ _ _ (ba.into [(1,3),(2,4),(3,501)] (by decide) rfl)) ?_
    rintro e eC ⟨R2,e2,rl2,rf2,rn2,eD,eE,rfl,hrA,bo⟩
    have b0:=ba.back bo [(3,1),(4,2)] (by decide);clear bo ba
    have b1:=b0.oz [3,4,1,2,8,13,20]
    refine⟨_,rfl,?_⟩;intro Y U
    refine⟨b1.to i3l,?_⟩
    obtain⟨⟨q9a,q9b,q9c,q9d⟩,hLR2,hRS2,hRV2,hT2⟩:=xP hz hLR hRS hRV hmA hrA
    revert U
    subst q9a;subst q9b;subst q9c;subst q9d
    intro U
    exact ldl 63<|hD _ _ ⟨_,_,_,_,L2,R2,_,_,⟨hLR2,hRS2,hRV2,by omega⟩,U.only [1,3,4,11,12,13,14,86,89,88,91],b1.ren [(1,1),(2,2),(3,3),(4,4),(8,8),(13,13),(20,20)] (by decide)⟩
  refine hC U (.move rfl<|.move rfl<|.len rfl U24<|.lss rfl rfl .nil) fun Y U=>bc U 61 ?_ ?_
  ·
   intro al U;try simp only [QQ,Qax] at al
   have hk:k<ds.length:=by have:=al;first|omega|(simp at this;omega)
   obtain⟨x,hes⟩:∃ e,ds[k]? = some e:=⟨_,List.getElem?_eq_getElem hk⟩
   refine wct U<|wsk fun gL dn=>zsr fun gM dp=>g9 U (.move rfl<|.move rfl .nil) fun Y U =>?_
   obtain⟨eF,eG,d2,b4,b5,b6,b7⟩:=bz.openR (i:=8) rfl (k) (r:=[.v (.int .i64 x.kd),.v (.int .i64 x.vo),.v (.int .i64 x.bl),.v (.int .i64 x.sz),.v (.int .i64 x.pe),.ns .i64 x.pl,.v (.int .i64 x.to),.v (.int .i64 x.at0),.v (.int .i64 x.ix),.l 2 (x.its.map itD)]) (od hes) 400 rfl
   revert U
   cases b4;clear bz b6
   rcases b5 with _|⟨aq,_|⟨ar,_|⟨au,_|⟨av,_|⟨aw,_|⟨ab,_|⟨ax,_|⟨ay,_|⟨az,_|⟨ac,_|_⟩⟩⟩⟩⟩⟩⟩⟩⟩⟩
   obtain rfl:=aq.v_out
   clear aq
   obtain rfl:=ar.v_out
   clear ar
   obtain rfl:=au.v_out
   clear au
   obtain rfl:=av.v_out
   clear av
   obtain rfl:=aw.v_out
   clear aw
   obtain⟨eH,eI,b8,d3⟩:=ab.ns_shape;subst b8
   intro U
   have ca:=b7.dat 401 rfl (ab.cast (fun _ h=>(ia rfl h)));clear b7 ab
   revert U
   obtain rfl:=ax.v_out
   clear ax
   obtain rfl:=ay.v_out
   clear ay
   obtain rfl:=az.v_out
   clear az
   obtain⟨eJ,eK,cb,d4⟩:=ac.l_shape;subst cb
   intro U
   have bb:=ca.dat 402 rfl (ac.cast (fun _ h=>(ia rfl (ia rfl h))));clear ca ac
   refine g9 U (.c rfl (fun _ h_=>ii h_ rfl rfl U24 ip (k) rfl (by simpa using hk))<|.loadCR bb (i:=400) rfl rfl U38 rfl ip .nil) fun Y U=>plz (ecl U Tryz.func11 rfl (qb x.kd x.vo x.bl x.sz x.pe x.to x.at0 x.ix x.pl x.its _ _ _ _ _ _ ((bb.rd (i:=401) rfl).any) ((bb.rd (i:=402) rfl).any) (hdl _ (List.mem_of_getElem? hes))) ?_)
   rintro e eL ⟨sc,rfl,hsc,cc⟩
   have aW:=bb.later cc
   refine⟨_,rfl,?_⟩;intro Y U
   refine gz dp U (.not rfl .nil) fun Y U=>bc U 67 ?_ ?_
   ·
    intro aX U;try simp only [QQ,Qax] at aX
    refine wct U ?_
    replace U:=U.oz [1,3,4,11,12,13,14,15]
    refine hC U (.assign rfl .nil) fun Y U=>rt1 U ?_
    exact⟨rfl,aW.below⟩
   intro aX U;try simp only [QQ,Qax] at aX
   have hsc9:=hsc (by simp_all)
   refine wcf U<|zss (dn _ _ ?_)
   by_cases hR:CmdR x
   ·
    replace U:=U.oz [1,3,4,11,12,13,14,15]
    refine wp_region_lit<|g9 U (.move rfl<|.move rfl .nil) fun Y U =>?_
    obtain⟨eM,eN,d5,cd,ce,cf,cg⟩:=aW.openR (i:=8) rfl (k) (r:=[.v (.int .i64 x.kd),.v (.int .i64 x.vo),.v (.int .i64 x.bl),.v (.int .i64 x.sz),.v (.int .i64 x.pe),.ns .i64 x.pl,.v (.int .i64 x.to),.v (.int .i64 x.at0),.v (.int .i64 x.ix),.l 2 (x.its.map itD)]) (od hes) 403 rfl
    revert U
    cases cd;clear aW cf
    rcases ce with _|⟨aA,_|⟨aB,_|⟨aC,_|⟨aD,_|⟨aE,_|⟨ad,_|⟨aF,_|⟨aG,_|⟨aH,_|⟨ae,_|_⟩⟩⟩⟩⟩⟩⟩⟩⟩⟩
    obtain rfl:=aA.v_out
    clear aA
    obtain rfl:=aB.v_out
    clear aB
    obtain rfl:=aC.v_out
    clear aC
    obtain rfl:=aD.v_out
    clear aD
    obtain rfl:=aE.v_out
    clear aE
    obtain⟨eO,eP,ch,d6⟩:=ad.ns_shape;subst ch
    intro U
    have ci:=cg.dat 404 rfl (ad.cast (fun _ h=>(ia rfl h)));clear cg ad
    revert U
    obtain rfl:=aF.v_out
    clear aF
    obtain rfl:=aG.v_out
    clear aG
    obtain rfl:=aH.v_out
    clear aH
    obtain⟨eQ,eR,cj,d7⟩:=ae.l_shape;subst cj
    intro U
    have bd:=ci.dat 405 rfl (ae.cast (fun _ h=>(ia rfl (ia rfl h))));clear ci ae
    refine g9 U (.c rfl (fun _ h_=>ii h_ rfl rfl U24 ip (k) rfl (by simpa using hk))<|.loadCR bd (i:=403) rfl rfl U38 rfl ip .nil) fun Y U=>plz (ecl U Tryz.func12 rfl (kR x.kd x.vo x.bl x.sz x.pe x.to x.at0 x.ix x.pl x.its _ _ _ _ _ _ ((bd.rd (i:=404) rfl).any) ((bd.rd (i:=405) rfl).any) (hR.ok (hdb _ (List.mem_of_getElem? hes)))) ?_)
    rintro e eS ⟨eT,eU,rfl,ck,cl⟩
    have cm:=bd.callF 406 rfl cl ck
    refine⟨_,rfl,?_⟩;intro Y U
    rw[show mh x.kd x.vo x.bl x.sz x.pe x.to x.at0 x.ix x.pl x.its=cmE x from rfl] at cm U
    refine g9 U (.move rfl<|.extract rfl rfl<|.extract rfl rfl<|.assign rfl .nil) fun Y U=>wpList_nil ?_
    show K9 _ _
    exact hC9 _ _ ⟨cmE x,_,_,(xQ hR (hdb _ (List.mem_of_getElem? hes))),(hR.ok (hdb _ (List.mem_of_getElem? hes))).len,U.only [1,3,4,11,12,13,14,15],cm.ren [(1,1),(2,2),(3,3),(4,4),(8,8),(13,13),(20,406)] (by decide)⟩
   replace U:=U.oz [1,3,4,11,12,13,14,15]
   refine wp_region_lit<|g9 U (.move rfl<|.move rfl .nil) fun Y U =>?_
   obtain⟨eV,eW,d8,co,cq,cr,ct⟩:=aW.openR (i:=8) rfl (k) (r:=[.v (.int .i64 x.kd),.v (.int .i64 x.vo),.v (.int .i64 x.bl),.v (.int .i64 x.sz),.v (.int .i64 x.pe),.ns .i64 x.pl,.v (.int .i64 x.to),.v (.int .i64 x.at0),.v (.int .i64 x.ix),.l 2 (x.its.map itD)]) (od hes) 403 rfl
   revert U
   cases co;clear aW cr
   rcases cq with _|⟨aI,_|⟨aJ,_|⟨aK,_|⟨aL,_|⟨aM,_|⟨ag,_|⟨aN,_|⟨aO,_|⟨aP,_|⟨ah,_|_⟩⟩⟩⟩⟩⟩⟩⟩⟩⟩
   obtain rfl:=aI.v_out
   clear aI
   obtain rfl:=aJ.v_out
   clear aJ
   obtain rfl:=aK.v_out
   clear aK
   obtain rfl:=aL.v_out
   clear aL
   obtain rfl:=aM.v_out
   clear aM
   obtain⟨eX,eY,cu,d9⟩:=ag.ns_shape;subst cu
   intro U
   have cv:=ct.dat 404 rfl (ag.cast (fun _ h=>(ia rfl h)));clear ct ag
   revert U
   obtain rfl:=aN.v_out
   clear aN
   obtain rfl:=aO.v_out
   clear aO
   obtain rfl:=aP.v_out
   clear aP
   obtain⟨eZ,e0,cw,ea⟩:=ah.l_shape;subst cw
   intro U
   have be:=cv.dat 405 rfl (ah.cast (fun _ h=>(ia rfl (ia rfl h))));clear cv ah
   refine g9 U (.c rfl (fun _ h_=>ii h_ rfl rfl U24 ip (k) rfl (by simpa using hk))<|.loadCR be (i:=403) rfl rfl U38 rfl ip .nil) fun Y U=>plz<|ecb U Tryz.func12 rfl be (mi x.kd x.vo x.bl x.sz x.pe x.to x.at0 x.ix x.pl x.its _ _ _ _ _ _ ((be.rd (i:=404) rfl).any) ((be.rd (i:=405) rfl).any) (by omega) (by have:=hsc9.2.1;omega) hR) fun Y e3 U dq=>g9 U (.move rfl<|.extract rfl rfl<|.extract rfl rfl<|.assign rfl .nil) fun Y U=>wpList_nil ?_
   have cy:=dq.dat 99 rfl (Rd.nilN _ _ .u8 none)
   show K9 _ _
   exact hC9 _ _ ⟨[],_,_,(fun z hz=>by cases hz),Nat.zero_le _,U.only [1,3,4,11,12,13,14,15],cy.ren [(1,1),(2,2),(3,3),(4,4),(8,8),(13,13),(20,99)] (by decide)⟩
  intro al U;try simp only [QQ,Qax] at al
  have hk2:ds.length≤k:=by have:=al;first|omega|(simp at this;omega)
  have hk3:k - ds.length<zs.length:=by omega
  obtain⟨z,hez⟩:∃ e,zs[k - ds.length]? = some e:=⟨_,List.getElem?_eq_getElem hk3⟩
  refine wcf U<|zsr fun gN dr=>g9 U (.move rfl<|.move rfl<|.move rfl<|.len rfl U24<|.sub rfl rfl (r:=((k - ds.length:Nat):Int)) (by rw[List.length_map,IntWalk.i64_in _ (by omega)];omega) .nil) fun Y U =>?_
  obtain⟨e4,e5,eb,cA,cB,cC,cD⟩:=bz.openR (i:=13) rfl (k - ds.length) (r:=[.ns .u8 z]) (xM hez) 400 rfl
  revert U
  cases cA;clear bz cC
  rcases cB with _|⟨ai,_|_⟩
  obtain⟨e6,e7,cE,ec⟩:=ai.ns_shape;subst cE
  intro U
  have bC:=cD.dat 401 rfl (ai.cast (fun _ h=>(ia rfl h)));clear cD ai
  refine gz dr U (.c rfl (fun _ h_=>ii h_ rfl rfl U23 nZ (k - ds.length) rfl (by simpa using hk3))<|.loadC0 bC (i:=400) rfl rfl U22 rfl<|.assign rfl<|.nil) fun Y U=>wsk fun gO dt =>?_
  skip
  replace U:=U.oz [1,3,4,11,12,13,14,15]
  refine wp_region_lit<|gz dt U (.move rfl<|.len rfl U22<|.gtr rfl rfl<|.nil) fun Y U=>bc U 85 ?_ ?_
  ·
   intro aQ U;try simp only [QQ,Qax] at aQ
   refine wct U<|hC U (.assign rfl .nil) fun Y U=>rt1 U ?_
   exact⟨rfl,bC.below⟩
  intro aQ U;try simp only [QQ,Qax] at aQ
  have e8:z.length≤60:=by have:=aQ;first|omega|(simp at this;omega)
  refine wcf U<|wp_skip ?_
  show K9 _ _
  exact hC9 _ _ ⟨z,_,_,hzB z (List.mem_of_getElem? hez),by omega,U.only [1,3,4,11,12,13,14,15],bC.ren [(1,1),(2,2),(3,3),(4,4),(8,8),(13,13),(20,401)] (by decide)⟩
 intro a8 U;try simp only [QQ,Qax] at a8
 refine wcf U<|wp_exit<|hK6 _ _<|wsk fun gP du =>?_
 replace U:=U.oz [1,3,4,11,12,13,14]
 refine hC U (.assign rfl .nil) fun Y U=>wp_block<|wp_loop_ghost (fun g a w => ∃ (j:Nat) (p:Option Addr) (c:Nat),j≤10∧g=10 - j∧Has 191 [(3,.int .u16 n3),(4,.int .u8 n4),(11,.pointer (some ⟨B,0,none⟩)),(12,.pointer (some ⟨B5,0,none⟩)),(16,.int .i64 ((j:Int) - 1))] a∧MemOk (cx (fun _=>True) w0) w0 [(1,.box B 87 [.map (some G)]),(2,.mp G 11 ((L).map iU) ((L).map ij)),(3,.box B5 32 [.slice p ((R).map ij).length c]),(4,.dat (.slice p ((R).map ij).length c) (.l 11 ((R).map ij)))] w) (10) ?_ ?_
 · exact⟨0,_,_,Nat.zero_le _,rfl,U.only [3,4,11,12,16],bz.ren [(1,1),(2,2),(3,3),(4,4)] (by decide)⟩
 clear U bz
 rintro g Y e9 ⟨j,p,c,hjl,hg2,U,aT⟩
 refine wsk fun gQ dv=>hC U (.move rfl<|.lss rfl rfl .nil) fun Y U=>bc U 105 ?_ ?_
 ·
  intro aR U;try simp only [QQ,Qax] at aR
  have hjt:j<10:=by have:=aR;first|omega|(simp at this;omega)
  refine wct U<|zss<|dv _ _<|wsk fun gR dw=>wp_block<|zsr fun gS dx=>g9 U (.move rfl<|.move rfl .nil) fun Y U=>plz (ecl U Tryz.func18 rfl (t8 _ _ _ L _ _ (fun y hy=>((hRV y (hLR.mem_iff.1 hy)).q (by omega)).1) (aT.into [(1,1),(2,2)] (by decide) rfl)) ?_)
  rintro e fb ⟨xv,xb,fc,ed,ee,fd,ef,eg,rfl,hx1,hx2,bp⟩
  have cF:=aT.back bp [(1,1),(2,2),(500,3),(501,4),(502,5)] (by decide);clear bp aT
  have dy:=cF.oz [1,2,500,501,502,3,4]
  refine⟨_,rfl,?_⟩;intro Y U
  refine g9 U (.move rfl<|.extract rfl rfl<|.extract rfl rfl .nil) fun Y U=>plz<|hZ U dy 503 iA rfl fun fe Y ff U dz _ _=>plz (stw U dz 503 hH fun fg bE _ =>?_)
  refine gz dx U (.assign rfl .nil) fun Y U =>?_
  replace U:=U.oz [3,4,11,12,16,17,18]
  refine zsr fun gT dA=>g9 U (.move rfl<|.move rfl .nil) fun Y U=>plz (ecl U Tryz.func19 rfl (vb _ _ R _ _ _ _ (by have:=kW hRS hRV;omega) (bE.into [(1,3),(2,4)] (by decide) rfl)) ?_)
  rintro e fh ⟨yv,yb,fi,eh,ei,fj,ej,ek,rfl,hy1,hy2,bq⟩
  have cG:=bE.back bq [(3,1),(4,2),(504,3),(505,4),(506,5)] (by decide);clear bq bE
  have dB:=cG.oz [3,4,504,505,506,1,2,500,501,502,503]
  refine⟨_,rfl,?_⟩;intro Y U
  revert U
  revert U
  obtain⟨rfl,rfl,hxB⟩:=tf hLR hRS (by omega) hRV hx1 hx2 hy1 hy2
  intro U
  intro U
  refine g9 U (.move rfl<|.extract rfl rfl<|.extract rfl rfl .nil) fun Y U=>plz<|hZ U dB 507 iA rfl fun fk Y fm U dC _ _=>plz (stw U dC 507 hH fun fo aj _ =>?_)
  refine gz dA U (.assign rfl .nil) fun Y U =>?_
  replace U:=U.oz [3,4,11,12,16,17,18,19,20]
  refine zsr fun gU dD=>g9 U (.move rfl<|.move rfl<|.neqB rfl rfl U4<|.move rfl .nil) fun Y U=>bc U 123 ?_ ?_
  · intro hb _;exact absurd hb (by simp)
  clear U;intro _ U
  refine g9 U (.loadBRZ aj (i:=503) rfl rfl U51 rfl hH (by simp) (by dsimp only [List.drop,List.take] <;> rfl)<|.loadBRZ aj (i:=507) rfl rfl U51 rfl hH (by simp) (by dsimp only [List.drop,List.take] <;> rfl) .nil) fun Y U=>stz U (ecb U Tryz.func20 rfl aj (rB yv.vo yv.bl yv.sz yv.pe yv.to yv.ne yv.fl yv.hi yv.place yv.pins yv.ws _ _ _ _ _ _ _ _ _ _ _ _ _ _ _ hxB.1 hxB.2.1 hxB.2.2.1 (fun e he=>(hxB.2.2.2 e he).1) ((aj.rd (i:=500) rfl).any) ((aj.rd (i:=501) rfl).any) ((aj.rd (i:=502) rfl).any) ((aj.rd (i:=504) rfl).any) ((aj.rd (i:=505) rfl).any) ((aj.rd (i:=506) rfl).any)) fun Y fp U dE =>?_)
  refine gz dD U (.notZ rfl<|.pickF rfl rfl<|.nil) fun Y U=>wcf U<|zss (dw _ _ ?_)
  replace U:=U.oz [3,4,11,12,16]
  refine wp_region_lit<|g9 U (.move rfl<|.add rfl rfl (r:=((j+1:Nat):Int) - 1) (by rw[IntWalk.i64_in _ (by omega)];omega)<|.assign rfl .nil) fun Y U=>wpList_nil ?_
  show ∃ n',n'<_∧_
  exact⟨10 - (j+1),by omega,j+1,_,_,by omega,rfl,U.only [3,4,11,12,16],dE.ren [(1,1),(2,2),(3,3),(4,4)] (by decide)⟩
 intro aR U;try simp only [QQ,Qax] at aR
 refine wcf U<|wp_exit<|du _ _<|zsr fun gV dF=>g9 U (.move rfl .nil) fun Y U=>plz (ecl U Tryz.func21 rfl (oA _ _ R _ _ _ (fun y hy=>((hRV y hy).q (by omega)).1) (kW hRS hRV) (aT.into [(1,3),(2,4)] (by decide) rfl)) ?_)
 rintro e fq ⟨fr,el,fs,em,rfl,br⟩
 have cH:=aT.back br [(3,1),(4,2),(500,3)] (by decide);clear br aT
 have cI:=cH.oz [3,4,500,1,2]
 refine⟨_,rfl,?_⟩;intro Y U
 refine gz dF U (.assign rfl .nil) fun Y U=>wsk fun gW dG=>wsk fun gX dH =>?_
 obtain⟨sb,hsb⟩:∃ sb,iR R=sb:=⟨_,rfl⟩
 have hsn:=vM (k:=k) (by omega) hRS hRV hT
 rw[hsb] at hsn cI U
 have bF:=cI.oz [1,2,3,4,500]
 refine region_p 5 (B:=[(3,_),(4,_),(500,_)]) (bF.to i3l) bF (by kernel_rfl) (fun ft cJ bf =>?_);clear bF
 refine goR cJ [0,3,4] [4] 3 0 25 U (bf.to i3l) (.move rfl<|.move rfl<|.str rfl (fun _ h_=>(h_.nums (i:=500) rfl)) U22 U5 U9 .nil) fun Y U=>so 1 ?_
 refine ecl U Tryz.func22 rfl (pj _ _ _ L _ (fun y hy=>((hRV y (hLR.mem_iff.1 hy)).q (by omega)).1) (by have:=hLR.length_eq;have:=kW hRS hRV;omega) (bf.into [(1,1),(2,2)] (by decide) rfl)) ?_
 rintro e fu ⟨fv,fw,rfl,bs⟩
 have cK:=bf.back bs [(1,1),(2,2),(501,3)] (by decide);clear bs bf
 have aU:=cK.oz [1,2,501,3,4,500]
 refine⟨_,rfl,?_⟩;intro Y U
 refine⟨aU.to i3l,?_⟩
 rw[kC hLR hRS,hsb] at aU U
 refine so 2 ?_
 refine e_y U rfl (pT U rfl (aU.nums (i:=501) rfl) U22 U5 U9) fun Y U=>⟨aU.to i3l,?_⟩
 refine se 5 ?_
 refine e_y U rfl (oO U rfl rfl) fun Y U=>wad<|dH _ _<|bc U 136 ?_ ?_
 · intro hb _;exact absurd hb (by simp)
 clear U;intro _ U
 refine wcf U<|zss (dG _ _ ?_)
 replace U:=U.oz [3,4,11,12,16,21]
 refine zsr fun gY dI=>g9 U (.move rfl .nil) fun Y U=>plz<|jr U aU 502 rfl rfl (aU.nums (i:=500) rfl) U22 jU (by decide) (by omega) rfl fun fx fy Y fz U bg=>gz dI U (.assign rfl .nil) fun Y U=>wsk fun gZ dJ =>?_
 obtain⟨hyp,hsl,hsB⟩:=hsn
 obtain⟨jj,hjj⟩:∃ jj:Nat,n3.tmod (sb.length:Int)=(jj:Int):=⟨(n3.tmod (sb.length:Int)).toNat,(Int.toNat_of_nonneg (Int.tmod_nonneg _ (by omega))).symm⟩
 have hjl:jj<sb.length:=by have:=Int.tmod_lt_of_pos n3 (b:=(sb.length:Int)) (by omega);omega
 obtain⟨xv,hxv⟩:∃ xv,IntKind.u8.wrap ((BitVec.ofInt IntKind.u8.bits (sb.getD jj 0) ^^^ BitVec.ofInt IntKind.u8.bits n4).toNat:Int)=xv:=⟨_,rfl⟩
 have hxb:0≤xv∧xv≤255:=by rw[← hxv];exact xO _
 refine wp_region_lit<|g9 U (.move rfl<|.move rfl<|.conv rfl U25 U3 (IntWalk.i64_in _ (by omega))<|.move rfl<|.len rfl U22<|.rem rfl rfl (by omega) (r:=(jj:Int)) hjj .nil) fun Y U =>?_
 obtain⟨fA,bG⟩:=bg.openO (i:=502) rfl (Nat.lt_of_le_of_lt (Nat.zero_le _) hjl)
 revert U
 cases bG
 intro U
 refine g9 U (.c rfl (fun _ h_=>tW h_ rfl rfl U22 jw (jj) rfl hjl)<|.c rfl (fun _ h_=>uG h_ bg (i:=502) rfl rfl rfl hjl U5 rfl)<|.move rfl<|.xor rfl rfl (r:=xv) hxv .nil) fun Y U =>?_
 obtain⟨fB,bH⟩:=bg.openO (i:=502) rfl (Nat.lt_of_le_of_lt (Nat.zero_le _) hjl)
 revert U
 cases bH
 intro U
 refine g9 U (.c rfl (fun _ h_=>tW h_ rfl rfl U22 jw (jj) rfl hjl) .nil) fun Y U=>plz<|sE U bg 502 rfl rfl rfl rfl hjl jw fun fC cL=>znl<|dJ _ _<|wsk fun g3 dK=>wsk fun dL dM =>?_
 have cM:∀ (a:Act) (w:World),(∃ (us:List (List Int)) (p9:Option Addr) (c9:Nat),us.length=4∧(∀ z∈us,z.length≤59999∧BytesL z)∧Has 191 [(164,.slice p9 4 c9),(165,.int .i64 4),(166,.int .i64 0)] a∧MemOk (cx (fun _=>True) w0) w0 [(9,.dat (.slice p9 4 c9) (.l 1 (us.map bD)))] w)→dL a w:=by
   clear U cL
   rintro Y fD ⟨us,p9,c9,hul,huB,U,cN⟩
   refine dM _ _<|wp_block<|wp_loop_ghost (fun g a w => ∃ (i:Nat) (p9:Option Addr) (c9:Nat),i≤4∧g=4 - i∧Has 191 [(164,.slice p9 4 c9),(165,.int .i64 4),(166,.int .i64 i)] a∧MemOk (cx (fun _=>True) w0) w0 [(9,.dat (.slice p9 4 c9) (.l 1 (us.map bD)))] w) (4) ?_ ?_
   · exact⟨0,_,_,Nat.zero_le _,rfl,U.only [164,165,166],cN.ren [(9,9)] (by decide)⟩
   clear U cN
   rintro g Y fE ⟨i,p9,c9,hil,hg3,U,bI⟩
   refine hC U (.lss rfl rfl .nil) fun Y U=>wsk fun g4 dN=>bc U 167 ?_ ?_
   ·
    intro aY U;try simp only [QQ,Qax] at aY
    have hi:i<us.length:=by omega
    obtain⟨z,hez⟩:∃ e,us[i]? = some e:=⟨_,List.getElem?_eq_getElem hi⟩
    obtain⟨hzl,hzb⟩:=huB z (List.mem_of_getElem? hez)
    refine wct U<|zss<|dN _ _<|wsk fun g5 dO=>wp_block<|zsr fun g6 dP =>?_
    obtain⟨fF,fG,en,cO,cP,cQ,cR⟩:=bI.openR (i:=9) rfl (i) (r:=[.ns .u8 z]) (xM hez) 700 rfl
    revert U
    cases cO;clear bI cQ
    rcases cP with _|⟨ak,_|_⟩
    obtain⟨fH,fI,cS,eo⟩:=ak.ns_shape;subst cS
    intro U
    have aZ:=cR.dat 701 rfl (ak.cast (fun _ h=>(ia rfl h)));clear cR ak
    refine gz dP U (.c rfl (fun _ h_=>ii h_ rfl rfl U23 nZ (i) rfl (by omega))<|.loadC0 aZ (i:=700) rfl rfl U22 rfl<|.assign rfl<|.nil) fun Y U=>wsk fun ep dQ =>?_
    have dR:∀ (a:Act) (w:World),(∃ (z:List Int) (B1 G1 B5 c9 cz:Nat) (p9 pz:Option Addr),z.length≤59999∧BytesL z∧Has 191 [(164,.slice p9 4 c9),(165,.int .i64 4),(166,.int .i64 i),(24,.slice pz z.length cz),(25,.pointer (some ⟨B1,0,none⟩)),(26,.pointer (some ⟨B5,0,none⟩))] a∧MemOk (cx (fun _=>True) w0) w0 [(1,.box B1 87 [.map (some G1)]),(2,.mp G1 11 ((([]:List VolV)).map iU) ((([]:List VolV)).map ij)),(3,.box B5 32 [.slice none ((([]:List VolV)).map ij).length 0]),(4,.dat (.slice none ((([]:List VolV)).map ij).length 0) (.l 11 ((([]:List VolV)).map ij))),(9,.dat (.slice p9 4 c9) (.l 1 (us.map bD))),(20,.dat (.slice pz z.length cz) (.ns .u8 z))] w)→ep a w:=by
      clear U aZ
      rintro Y fJ ⟨z,B1,G1,B5,c9,cz,p9,pz,hzl,hzb,U,bJ⟩
      refine dQ _ _<|wsk fun dS dT =>?_
      have cT:∀ (a:Act) (w:World),(Has 191 [(164,.slice p9 4 c9),(165,.int .i64 4),(166,.int .i64 i),(189,.bool false)] a∧MemOk (cx (fun _=>True) w0) w0 [(9,.dat (.slice p9 4 c9) (.l 1 (us.map bD)))] w)→dS a w:=by
        clear U bJ
        rintro Y fK ⟨U,dU⟩
        refine dT _ _<|wcf U<|zss<|dO _ _<|wp_region_lit<|g9 U (.inc (i+1)<|.move rfl .nil) fun Y U=>wpList_nil ?_
        show ∃ n',n'<_∧_
        exact⟨4 - (i+1),by omega,i+1,_,_,by omega,rfl,U.only [164,165,166],dU.ren [(9,9)] (by decide)⟩
      obtain⟨b9,M1,hld⟩:=ldZ z
      have hMs:=hld.srt
      have cU:=bJ.dat 800 rfl (bJ.rd (i:=20) rfl)
      have dV:=cU.dat 801 rfl (cU.rd (i:=20) rfl)
      have bK:=dV.oz [1,2,3,4,9,20,800,801]
      refine region_p 16 (B:=[(9,_)]) (bK.to i1l) bK (by kernel_rfl) (fun fL ao a0 =>?_);clear bK
      refine y5 (I:=fun a w => ∃ (G9:Nat) (p:Option Addr) (c:Nat),Has 191 [(164,.slice p9 4 c9),(165,.int .i64 4),(166,.int .i64 i),(25,.pointer (some ⟨B1,0,none⟩)),(26,.pointer (some ⟨B5,0,none⟩)),(175,.bool b9),(178,.bool b9)] a∧MemOk (cx (fun _=>True) w0) w0 [(1,.box B1 87 [.map (some G9)]),(2,.mp G9 11 ((M1).map iU) ((M1).map ij)),(3,.box B5 32 [.slice p ((M1).map ij).length c]),(4,.dat (.slice p ((M1).map ij).length c) (.l 11 ((M1).map ij))),(9,.dat (.slice p9 4 c9) (.l 1 (us.map bD)))] w) 11 63 ?_ fun hD =>?_
      ·
       clear U a0
       rintro Y fM ⟨G9,p,c,U,aa⟩
       refine goA ao [6,7] 2 63 255 U (aa.to i1l) (.neqB rfl rfl U4<|.move rfl .nil) fun Y U=>bc U 180 ?_ ?_
       · intro hb _;exact absurd hb (by simp)
       clear U;intro _ U
       refine goA ao [8,10,11,12] 4 255 7679 U (aa.to i1l) (.move rfl<|.move rfl<|.nilCheck rfl<|.fa 0 rfl U32 .nil) fun Y U=>qI 9 13 rfl rfl (by kernel_rfl) (iq U rfl rfl rfl rfl) (iq U rfl rfl rfl rfl) (fun K hK =>?_) (fun K hK =>?_)
       ·
        refine iw U Tryz.func17 rfl rfl rfl rfl (rA _ _ _ M1 _ (fun y hy=>(hMs.2.1 y hy).cp) (by have:=hMs.2.2;omega) (aa.into [(1,1),(2,2)] (by decide) rfl)) ?_
        rintro e fN ⟨fO,fP,rfl,bt⟩
        have cV:=aa.back bt [(1,1),(2,2),(900,3)] (by decide);clear bt aa
        have ap:=cV.oz [1,2,900,3,4,9]
        refine⟨_,rfl,?_⟩;intro Y U
        refine hK _ _ (fun _=>(ap.to i1l)) ?_;clear hK K
        rw[kC (List.Perm.refl M1) hMs.1] at ap U
        refine ig 13 rfl (by kernel_rfl) (iq U rfl rfl rfl rfl)<|fun K hK=>e_y U rfl (jx U ap (i:=3) rfl rfl rfl U30 rfl) fun Y U =>?_
        refine hK _ _ (ap.to i1l) ?_;clear hK K
        refine ig 14 rfl (by kernel_rfl) (iq U rfl rfl rfl rfl)<|fun K hK=>iw U Tryz.func16 rfl rfl rfl rfl (nf M1 _ _ _ _ _ ((ap.rd (i:=900) rfl).any) ((ap.rd (i:=4) rfl).any) (fun y hy=>(hMs.2.1 y hy).b) (by have:=hMs.2.2;omega)) ?_
        rintro e fQ ⟨rfl,cW⟩
        have bL:=ap.later cW
        refine⟨_,rfl,?_⟩;intro Y U
        refine hK _ _ (bL.to i1l) ?_;clear hK K
        refine goA ao [15] 1 32767 65535 U (bL.to i1l) (.not rfl .nil) fun Y U=>se 16 ?_
        refine e_y U rfl (j0 U rfl rfl) fun Y U=>wad ?_
        show dS _ _
        exact cT _ _ ⟨U.only [164,165,166,189],bL.ren [(9,9)] (by decide)⟩
       refine e_y U rfl (jx U aa (i:=3) rfl rfl rfl U30 rfl) fun Y U =>?_
       refine hK _ _ (fun _=>(aa.to i1l)) ?_;clear hK K
       refine ig 9 rfl (by kernel_rfl) (iq U rfl rfl rfl rfl)<|fun K hK=>iw U Tryz.func17 rfl rfl rfl rfl (rA _ _ _ M1 _ (fun y hy=>(hMs.2.1 y hy).cp) (by have:=hMs.2.2;omega) (aa.into [(1,1),(2,2)] (by decide) rfl)) ?_
       rintro e fR ⟨fS,fT,rfl,bu⟩
       have cX:=aa.back bu [(1,1),(2,2),(900,3)] (by decide);clear bu aa
       have a1:=cX.oz [1,2,900,3,4,9]
       refine⟨_,rfl,?_⟩;intro Y U
       refine hK _ _ (a1.to i1l) ?_;clear hK K
       rw[kC (List.Perm.refl M1) hMs.1] at a1 U
       refine ig 14 rfl (by kernel_rfl) (iq U rfl rfl rfl rfl)<|fun K hK=>iw U Tryz.func16 rfl rfl rfl rfl (nf M1 _ _ _ _ _ ((a1.rd (i:=900) rfl).any) ((a1.rd (i:=4) rfl).any) (fun y hy=>(hMs.2.1 y hy).b) (by have:=hMs.2.2;omega)) ?_
       rintro e fU ⟨rfl,cY⟩
       have bM:=a1.later cY
       refine⟨_,rfl,?_⟩;intro Y U
       refine hK _ _ (bM.to i1l) ?_;clear hK K
       refine goA ao [15] 1 32767 65535 U (bM.to i1l) (.not rfl .nil) fun Y U=>se 16 ?_
       refine e_y U rfl (j0 U rfl rfl) fun Y U=>wad ?_
       show dS _ _
       exact cT _ _ ⟨U.only [164,165,166,189],bM.ren [(9,9)] (by decide)⟩
      refine goA ao [0,1,3,4] 4 0 27 U (a0.to i1l) (.move rfl<|.move rfl<|.move rfl<|.move rfl .nil) fun Y U=>so 2 ?_
      refine ecl U Tryz.func23 rfl (xR _ _ _ z _ M1 hld hzl hzb _ _ _ (a0.into [(1,1),(2,2),(3,800)] (by decide) rfl)) ?_
      rintro e fV ⟨G9,rfl,bv⟩
      have cZ:=a0.back bv [(1,1),(2,2)] (by decide);clear bv a0
      have bh:=cZ.oz [1,2,3,4,9,20,801]
      refine⟨_,rfl,?_⟩;intro Y U
      refine⟨bh.to i1l,?_⟩
      refine so 5 ?_
      refine ecl U Tryz.func24 rfl (vN _ _ _ _ z _ M1 hld hzl hzb _ _ _ (bh.into [(1,3),(2,4),(3,801)] (by decide) rfl)) ?_
      rintro e fW ⟨fX,fY,rfl,bw⟩
      have c0:=bh.back bw [(3,1),(4,2)] (by decide);clear bw bh
      have c1:=c0.oz [3,4,1,2,9,20]
      refine⟨_,rfl,?_⟩;intro Y U
      refine⟨c1.to i1l,?_⟩
      exact ldl 63<|hD _ _ ⟨_,_,_,U.only [164,165,166,25,26,175,178],c1.ren [(1,1),(2,2),(3,3),(4,4),(9,9)] (by decide)⟩
    refine wp_region_lit<|plz (ecl U Tryz.func9 rfl (ms _ _ (aZ.into [] (by decide) rfl)) ?_)
    rintro e fZ ⟨B1,G1,rfl,bx⟩
    have c2:=aZ.back bx [(1,1),(2,2)] (by decide);clear bx aZ
    have dW:=c2.oz [1,2,9,700,701]
    refine⟨_,rfl,?_⟩;intro Y U
    refine g9 U (.build rfl sK ry rfl (by dsimp only [iY,List.set] <;> rfl) .nil) fun Y U=>plz<|iu U dW 702 (cs:=[_]) rfl rfl rfl fun f0 Y f1 U dX _ _=>g9 U (.assign rfl<|.assign rfl .nil) fun Y U=>wpList_nil ?_
    have c3:=dX.dat 97 rfl (Rd.l0 none 0 11)
    show ep _ _
    exact dR _ _ ⟨z,_,_,_,_,_,_,_,hzl,hzb,U.only [164,165,166,24,25,26],c3.ren [(1,1),(2,2),(3,702),(4,97),(9,9),(20,701)] (by decide)⟩
   intro aY U;try simp only [QQ,Qax] at aY
   refine wcf U<|wp_exit<|dK _ _<|hC U (.assign rfl .nil) fun Y U=>rt1 U ?_
   exact⟨rfl,bI.below⟩
 replace U:=U.oz [3,4,11,12,16,21,22]
 have dY:=cL.freezeN 502 rfl
 have bN:=dY.oz [1,2,3,4,500,501,502]
 refine region_p 17 (B:=[(1,_),(2,_),(3,_),(4,_),(500,_),(501,_),(502,_)]) (bN.to i7l) bN (by kernel_rfl) (fun f2 aS bi =>?_);clear bN
 refine goA aS [0,1,2,3,4,5,6,7] 8 0 255 U (bi.to i7l) (.move rfl<|.move rfl<|.move rfl<|.move rfl<|.conv rfl U25 U3 (IntWalk.i64_in _ (by omega))<|.move rfl<|.len rfl U22<|.rem rfl rfl (by omega) (r:=(jj:Int)) hjj .nil) fun Y U =>?_
 have bj:=bi.takeN (i:=500) rfl (jj) (Nat.le_of_lt hjl) 503 rfl
 have bk:=(bi.rd (i:=500) rfl).ns_out.cap;clear bi
 refine goA aS [8,9,11,16] 4 255 68607 U (bj.to i7l) (.p (fun _ _ h_=>ji h_ (jj) rfl rfl U22 jw rfl (Nat.le_trans (Nat.le_of_lt hjl) bk.1))<|.move rfl<|.move rfl<|.move rfl .nil) fun Y U=>dtw 10 12 ?_ ?_
 ·
  refine jr U bj 504 rfl rfl (bj.nums (i:=500) rfl) U22 jU (by decide) (by omega) rfl fun f3 f4 Y f5 U c4=>⟨fun _=>(c4.to i7l),?_⟩
  refine so 12 ?_
  refine iv U c4 505 (k:=.u8) rfl rfl U22 jU rfl rfl rfl rfl fun f6 Y f7 U bO=>⟨bO.to i7l,?_⟩
  refine so 13 ?_
  refine iC U bO 504 rfl rfl rfl (bO.numsO (i:=505) rfl) U22 jU (by decide) (by simp only [List.length_append,List.length_singleton,List.length_cons,List.length_nil];omega) rfl fun f8 f9 Y ga U c5=>⟨c5.to i7l,?_⟩
  have a2:=c5.freezeN 504 rfl
  refine so 14 ?_
  refine iN U a2 506 (mm:=1) rfl (.cons rfl rfl (.cons (a2.rd (i:=500) rfl) .nil)<|.cons rfl rfl (.cons (a2.rd (i:=502) rfl) .nil)<|.cons rfl rfl (.cons (a2.rd (i:=503) rfl) .nil)<|.cons rfl rfl (.cons (a2.rd (i:=504) rfl) .nil) .nil) U23 mS rfl rfl rfl rfl rfl fun gb Y gc U bP=>⟨bP.to i7l,?_⟩
  refine goA aS [15] 1 98303 131071 U (bP.to i7l) (.len rfl U23 .nil) fun Y U=>wad ?_
  have c6:=bP.freezeR 506 rfl
  obtain⟨us,hus⟩:∃ us,us=[sb,sb.set jj xv,sb.take jj,sb++[n4]]:=⟨_,rfl⟩
  rw[show[[D.ns .u8 sb],[.ns .u8 (sb.set jj xv)],[.ns .u8 (sb.take jj)],[.ns .u8 (sb++[n4])]]=us.map bD by rw[hus];rfl] at c6
  have huB:∀ z∈us,z.length≤59999∧BytesL z:=by rw[hus];exact xN ⟨by omega,hsB⟩ ⟨by rw[List.length_set];omega,uc hsB hxb⟩ ⟨by rw[List.length_take];omega,fun x hx=>hsB x (List.mem_of_mem_take hx)⟩ ⟨by rw[List.length_append,List.length_singleton];omega,i7 hsB (fun z hz=>by simp at hz;omega)⟩
  have hul:us.length=4:=by rw[hus];rfl
  show dL _ _
  exact cM _ _ ⟨us,_,_,hul,huB,U.only [164,165,166],c6.ren [(9,506)] (by decide)⟩
 refine iv U bj 504 (k:=.u8) rfl rfl U22 jU rfl rfl rfl rfl fun gf Y gg U bQ=>⟨fun _=>(bQ.to i7l),?_⟩
 refine so 10 ?_
 refine jr U bQ 505 rfl rfl (bQ.nums (i:=500) rfl) U22 jU (by decide) (by omega) rfl fun gh gi Y gj U bR=>⟨bR.to i7l,?_⟩
 refine so 13 ?_
 refine iC U bR 505 rfl rfl rfl (bR.numsO (i:=504) rfl) U22 jU (by decide) (by simp only [List.length_append,List.length_singleton,List.length_cons,List.length_nil];omega) rfl fun gk gl Y gm U c7=>⟨c7.to i7l,?_⟩
 have a3:=c7.freezeN 505 rfl
 refine so 14 ?_
 refine iN U a3 506 (mm:=1) rfl (.cons rfl rfl (.cons (a3.rd (i:=500) rfl) .nil)<|.cons rfl rfl (.cons (a3.rd (i:=502) rfl) .nil)<|.cons rfl rfl (.cons (a3.rd (i:=503) rfl) .nil)<|.cons rfl rfl (.cons (a3.rd (i:=505) rfl) .nil) .nil) U23 mS rfl rfl rfl rfl rfl fun gn Y gp U bS=>⟨bS.to i7l,?_⟩
 refine goA aS [15] 1 98303 131071 U (bS.to i7l) (.len rfl U23 .nil) fun Y U=>wad ?_
 have da:=bS.freezeR 506 rfl
 obtain⟨us,hus⟩:∃ us,us=[sb,sb.set jj xv,sb.take jj,sb++[n4]]:=⟨_,rfl⟩
 rw[show[[D.ns .u8 sb],[.ns .u8 (sb.set jj xv)],[.ns .u8 (sb.take jj)],[.ns .u8 (sb++[n4])]]=us.map bD by rw[hus];rfl] at da
 have huB:∀ z∈us,z.length≤59999∧BytesL z:=by rw[hus];exact xN ⟨by omega,hsB⟩ ⟨by rw[List.length_set];omega,uc hsB hxb⟩ ⟨by rw[List.length_take];omega,fun x hx=>hsB x (List.mem_of_mem_take hx)⟩ ⟨by rw[List.length_append,List.length_singleton];omega,i7 hsB (fun z hz=>by simp at hz;omega)⟩
 have hul:us.length=4:=by rw[hus];rfl
 show dL _ _
 exact cM _ _ ⟨us,_,_,hul,huB,U.only [164,165,166],da.ren [(9,506)] (by decide)⟩
end
section
abbrev cmdS:List Shp:=[.i .i64,.i .i64,.i .i64,.i .i64,.i .i64,.ns .i64,.i .i64,.i .i64,.i .i64,.l [.i .i64,.ns .u8]]
abbrev zS:List Shp:=[.i .i64,.i .i64,.i .i64,.i .i64,.ns .i64,.i .i64,.i .i64,.bo,.i .i64,.ns .i64,.l [.i .i64,.l [.i .i64,.ns .u8]]]
theorem xW:Fits Tryz.prog 59 [.i .i64,.ns .u8]:=.mk (sss:=[[.i .i64],[.ns .u8]]) U59 (by kernel_rfl) rfl (.cons rfl (by kernel_rfl) (.int U3) (.cons rfl (by kernel_rfl) (.nums U22 U5 (by kernel_rfl) (by kernel_rfl)) (.nil _)))
theorem vW:Fits Tryz.prog 38 cmdS:=.mk (sss:=[[.i .i64],[.i .i64],[.i .i64],[.i .i64],[.i .i64],[.ns .i64],[.i .i64],[.i .i64],[.i .i64],[.l [.i .i64,.ns .u8]]]) U38 (by kernel_rfl) rfl (.cons rfl (by kernel_rfl) (.int U3) (.cons rfl (by kernel_rfl) (.int U3) (.cons rfl (by kernel_rfl) (.int U3) (.cons rfl (by kernel_rfl) (.int U3) (.cons rfl (by kernel_rfl) (.int U3) (.cons rfl (by kernel_rfl) (.nums U35 U3 (by kernel_rfl) (by kernel_rfl)) (.cons rfl (by kernel_rfl) (.int U3) (.cons rfl (by kernel_rfl) (.int U2) (.cons rfl (by kernel_rfl) (.int U3) (.cons rfl (by kernel_rfl) (.rows U36 xW (by kernel_rfl) (by decide) (by kernel_rfl)) (.nil _)))))))))))
theorem fitsCmds:Fits Tryz.prog 24 [.l cmdS]:=.rows U24 vW (by kernel_rfl) (by decide) (by kernel_rfl)
theorem tx{r:List D}(h:DOkL [.i .i64,.ns .u8] r):∃ x:Int×List Int,r=itD x∧BytesL x.2:=by
 obtain⟨_,_,rfl,h0,h⟩:=h.cons_out
 obtain⟨_,_,rfl,h1,h⟩:=h.cons_out
 obtain rfl:=h.nil_out
 obtain⟨z0,rfl,-⟩:=h0.i_out
 obtain⟨zs,rfl,hl,hz⟩:=h1.ns_out
 exact⟨(z0,zs),rfl,fun z hz9=>bounds_u8 (hz z hz9)⟩
theorem cmd_formB{r:List D}(h:DOkL cmdS r):∃ c:Cm,r=cmD c∧(c.its.length≤140737488351232∧∀ e∈c.its,BytesL e.2):=by
 obtain⟨_,_,rfl,h0,h⟩:=h.cons_out
 obtain⟨_,_,rfl,h1,h⟩:=h.cons_out
 obtain⟨_,_,rfl,h2,h⟩:=h.cons_out
 obtain⟨_,_,rfl,h3,h⟩:=h.cons_out
 obtain⟨_,_,rfl,h4,h⟩:=h.cons_out
 obtain⟨_,_,rfl,h5,h⟩:=h.cons_out
 obtain⟨_,_,rfl,h6,h⟩:=h.cons_out
 obtain⟨_,_,rfl,h7,h⟩:=h.cons_out
 obtain⟨_,_,rfl,h8,h⟩:=h.cons_out
 obtain⟨_,_,rfl,h9,h⟩:=h.cons_out
 obtain rfl:=h.nil_out
 obtain⟨z0,rfl,-⟩:=h0.i_out
 obtain⟨z1,rfl,-⟩:=h1.i_out
 obtain⟨z2,rfl,-⟩:=h2.i_out
 obtain⟨z3,rfl,-⟩:=h3.i_out
 obtain⟨z4,rfl,-⟩:=h4.i_out
 obtain⟨z6,rfl,-⟩:=h6.i_out
 obtain⟨z7,rfl,-⟩:=h7.i_out
 obtain⟨z8,rfl,-⟩:=h8.i_out
 obtain⟨pl,rfl,-,-⟩:=h5.ns_out
 obtain⟨rows,rfl,hl,hr⟩:=h9.l_out
 obtain⟨its,rfl,hits⟩:=rows_map (fun r hr'=>tx (hr r hr'))
 exact⟨⟨z0,z1,z2,z3,z4,pl,z6,z7,z8,its⟩,rfl,by rw[List.length_map] at hl;unfold reachBytes at hl;exact hl,hits⟩
theorem lists_openB{H:Type}{enc:TypeId×Value→H}{len cap:Nat}{x:DataW H×List MemPlace}(h:DataW.trod enc Tryz.prog W base (fun _=>true) held fuel 23 [.slice a len cap]=some x)(ce:Tryz.prog.cellsOf 22=1)(cq:Tryz.prog.cellsOf 5=1) :
   ∃ ls:List (List Int),Rd (fun _=>True) W (.slice a ls.length cap) (.l 1 (ls.map bD))∧ls.length=len∧∀ l∈ls,BytesL l:=by
 rcases Deep.open_int_rows U23 U22 U5 ce cq h with ⟨hcs,-⟩|⟨b,l,c,A,L,C,Z,hcs,-,hl,hm,-,hr⟩
 · simp only [List.cons.injEq,Value.slice.injEq,and_true] at hcs
   obtain⟨rfl,rfl,rfl⟩:=hcs
   exact⟨[],.l0 none 0 1,rfl,fun l hl=>by cases hl⟩
 simp only [List.cons.injEq,Value.slice.injEq,and_true] at hcs
 obtain⟨rfl,rfl,rfl⟩:=hcs
 have hex:∀ r,∃ ys:List Int,r<len→Rd (fun _=>True) W (.slice (A r) (L r) (C r)) (.ns .u8 ys)∧BytesL ys:=fun r=>by
   by_cases hrl:r<len
   · obtain⟨c1,c2,c3,c4,c5,c6,c7⟩:=hr r (by omega)
     obtain⟨ys,h1,h2,h3⟩:=NumsS.ofRow (k:=.u8) (w:=W) (a:=A r) (len:=L r) (cap:=C r) (zs:=Z r) (by
       cases hA:A r with
       | none =>
         have:=c6 hA
         exact .inl ⟨rfl,by omega,this,List.eq_nil_of_length_eq_zero (by omega)⟩
       | some a'=>exact .inr ⟨a',rfl,c2,c3,c4,fun i hi=>(c7 a' hA).2 i (by omega),c5⟩)
     exact⟨ys,fun _=>⟨h2 ▸ h1,fun z hz=>bounds_u8 (h3 z hz)⟩⟩
   exact⟨[],fun h=>absurd h hrl⟩
 obtain⟨Y,hY⟩:∃ Y:Nat→List Int,∀ r,r<len→Rd (fun _=>True) W (.slice (A r) (L r) (C r)) (.ns .u8 (Y r))∧BytesL (Y r):=⟨fun r=>Classical.choose (hex r),fun r=>Classical.choose_spec (hex r)⟩
 refine⟨(List.range len).map Y,?_,by simp,fun l hl=>by obtain⟨r,hr9,rfl⟩:=List.mem_map.1 hl;exact(hY r (List.mem_range.1 hr9)).2⟩
 by_cases h0:len=0
 · subst h0;exact .l0 _ _ _
 obtain⟨bb,bo,spot⟩:=b
 have hc0:=(hr 0 (by omega)).1
 have hspot:spot=none:=by simpa [Addr.add] using World.cell?_spot hc0
 subst hspot
 have hlen:(((List.range len).map Y).map bD).length=((List.range len).map Y).length:=by simp
 have:=Rd.l (S:=fun _=>True) (w:=W) 1 bb bo cap (((List.range len).map Y).map bD) (fun j _=>.slice (A j) (L j) (C j)) trivial (World.block_lt_of_cell? W _ hc0) (by simp;omega) (by simp [bD]) (fun j q hj hq=>by
   have hjl:j<len:=by simpa using hj
   have c1:=(hr j (by omega)).1
   rw[Addr.add_lit] at c1
   obtain rfl:q=0:=by omega
   rw[Nat.mul_one,Nat.add_zero]
   exact⟨c1,rfl⟩) (fun j q r d hj hq=>by
   have hjl:j<len:=by have:=(List.getElem?_eq_some_iff.1 hj).1;simpa using this
   simp [bD,hjl] at hj
   subst hj
   have hq0:q=0:=by have:=(List.getElem?_eq_some_iff.1 hq).1;simpa using this
   subst hq0
   simp at hq
   subst hq
   exact(hY j hjl).1)
 rw[hlen] at this
 exact this
end
end Go.Proofs.YtkehgingagggaaaGreat.K
