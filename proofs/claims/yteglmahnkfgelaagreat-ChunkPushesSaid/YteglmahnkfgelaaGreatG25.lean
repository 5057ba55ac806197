/- General laws of walks. -/
import Derived.Test.YteglmahnkfgelaaGreatG24
import Derived.Test.YteglmahnkfgelaaGreatG15
import Derived.Test.YteglmahnkfgelaaGreatG14
import Derived.Test.YteglmahnkfgelaaGreatG17
import Derived.Test.YteglmahnkfgelaaGreatG22
namespace Go.Proofs.YteglmahnkfgelaaGreat.K
open Go.ChangeShapes Go.WideShapes Go.ChangeAt Go.RowKit
set_option linter.unusedVariables false
set_option linter.unusedSimpArgs false
set_option maxRecDepth 100000
set_option maxHeartbeats 4000000
set_option autoImplicit true
set_option relaxedAutoImplicit true
section
theorem yi:lR Tryz.prog 25 [.int .i64 0,.int .i64 0,.int .i64 0,.int .i64 0,.int .i64 0,.int .i64 0,.int .i64 0,.slice none 0 0]=true:=by kernel_rfl
theorem yj:lR Tryz.prog 30 [.int .i64 0,.slice none 0 0]=true:=by kernel_rfl
theorem yl:lR Tryz.prog 78 [.int .i64 0,.slice none 0 0]=true:=by kernel_rfl
def WKn:List (Int×List (Int×List Int)):=[(2,[(1,[120])])]
def HKn:List (List Ver):=[[],[(2,[120])]]
def PBn:List Int:=mO 0 0 2 1 0 3 0 WKn
def CBn:List Int:=oB 0 0 2 1 3 0 HKn
theorem ol:((strOfNums [120]).toList == ByteArray.toList ⟨#[120]⟩)=true:=by rw[show(⟨#[120]⟩:ByteArray)=strOfNums [120] from rfl];exact beq_self_eq_true _
theorem om:((strOfNums [0]).toList == ByteArray.toList ⟨#[0]⟩)=true:=by rw[show(⟨#[0]⟩:ByteArray)=strOfNums [0] from rfl];exact beq_self_eq_true _
theorem sP:nA 0 0 2 1 0 3 0 WKn:=by
 refine⟨⟨by decide,by decide,by decide,by decide⟩,by decide,by decide,by decide,by decide,fun j hj =>?_⟩
 obtain rfl:j=0:=by have:WKn.length=1:=rfl;omega
 refine⟨by decide,by decide,by decide,by decide,?_⟩
 intro j hj
 obtain rfl:j=0:=by have h9:((WKn.getD 0 w1).2).length=1:=rfl;omega
 decide
theorem zv:∀ e∈WKn,∀ x∈e.2,lg x.2:=by
 intro e he x hx y hy
 obtain rfl:=List.mem_singleton.1 he
 obtain rfl:=List.mem_singleton.1 hx
 obtain rfl:=List.mem_singleton.1 hy
 decide
theorem hb0:HB 900000 (List.replicate 2 []):=fun h hh=>by
 rw[List.eq_of_mem_replicate hh]
 exact⟨List.Pairwise.nil,by decide,(fun v hv=>by cases hv),by decide⟩
theorem ym{h:List Ver}(hh:h∈HKn):h=[]∨h=[(2,[120])]:=by
 rcases List.mem_cons.1 hh with h|h
 · exact .inl h
 exact .inr (List.mem_singleton.1 h)
theorem vt:vr HKn∧(∀ h∈HKn,Rise h)∧(∀ h∈HKn,∀ v∈h,0≤v.1∧v.1≤1099511627776∧v.2.length≤1000)∧(∀ h∈HKn,∀ v∈h,(0≤v.1∧v.1≤1099511627776)∧v.2.length≤32)∧(∀ h∈HKn,h.length≤1000000∧∀ v∈h,lg v.2):=by
 refine⟨?_,?_,?_,?_,?_⟩ <;> intro h hh <;> rcases ym hh with rfl|rfl
 · exact⟨by decide,fun v hv=>by cases hv⟩
 · exact⟨by decide,fun v hv=>by obtain rfl:=List.mem_singleton.1 hv;decide⟩
 · exact List.Pairwise.nil
 · exact List.pairwise_singleton _ _
 · intro v hv;cases hv
 · intro v hv;obtain rfl:=List.mem_singleton.1 hv;decide
 · intro v hv;cases hv
 · intro v hv;obtain rfl:=List.mem_singleton.1 hv;decide
 · exact⟨by decide,fun v hv=>by cases hv⟩
 exact⟨by decide,fun v hv y hy=>by obtain rfl:=List.mem_singleton.1 hv;obtain rfl:=List.mem_singleton.1 hy;decide⟩
theorem xw:xi 0 0 2 1 3 0 HKn:=by
 refine⟨⟨by decide,by decide,by decide,by decide⟩,by decide,by decide,rfl,fun j hj =>?_⟩
 have h2:HKn.length=2:=rfl
 rcases(by omega:j=0∨j=1) with rfl|rfl
 · exact⟨fun j hj=>absurd hj (Nat.not_lt_zero _),rfl,fun j hj=>absurd hj (Nat.not_lt_zero _)⟩
 refine⟨fun j hj =>?_,by kernel_rfl,fun j hj =>?_⟩ <;> (obtain rfl:j=0:=by have h9:(HKn.getD 1 []).length=1:=rfl;omega)
 · exact⟨by decide,fun h=>absurd h (Nat.lt_irrefl _)⟩
 decide
theorem cbn:CBn.length≤1000∧lg CBn:=⟨by decide,by unfold lg;decide⟩
theorem xx(X:Cx)(pw:Option Addr)(cw:Nat)(w0:World)(m0:MemOk X w0 [] w0) :
   Calls Tryz.prog 21 #[.agg #[.int .i64 0,.int .i64 0,.int .i64 2,.int .i64 1,.int .i64 0,.int .i64 3,.int .i64 0,.slice pw 1 cw]] w0 fun e w' => ∃ (p9:Option Addr) (c9:Nat),e=.returned (.agg #[.int .i64 0,.int .i64 0,.int .i64 2,.int .i64 1,.int .i64 0,.int .i64 0,.slice p9 2 c9])∧MemOk X w0 [(9,.row (.slice p9 2 c9) 94 1 ((List.replicate 2 ([]:List Ver)).map hD))] w':=by
 exact xo X 0 0 1 0 3 0 2 pw 1 cw w0 (by decide) m0
theorem qz(X:Cx)(p pw:Option Addr)(c cw:Nat)(w0:World)(m0:MemOk X w0 [(1,.dat (.slice p 2 c) (.l 1 ((List.replicate 2 ([]:List Ver)).map hD))),(2,.dat (.slice pw 1 cw) (.l 2 (WKn.map wrD)))] w0) :
   Calls Tryz.prog 17 #[.agg #[.int .i64 0,.int .i64 0,.int .i64 2,.int .i64 1,.int .i64 0,.int .i64 0,.slice p 2 c],.agg #[.int .i64 0,.int .i64 0,.int .i64 2,.int .i64 1,.int .i64 0,.int .i64 3,.int .i64 0,.slice pw 1 cw]] w0 fun e w' => ∃ (p9:Option Addr) (c9:Nat),e=.returned (.agg #[.int .i64 0,.int .i64 0,.int .i64 2,.int .i64 1,.int .i64 3,.int .i64 0,.slice p9 2 c9])∧MemOk X w0 [(1,.dat (.slice p 2 c) (.l 1 ((List.replicate 2 ([]:List Ver)).map hD))),(2,.dat (.slice pw 1 cw) (.l 2 (WKn.map wrD))),(9,.row (.slice p9 2 c9) 94 1 (HKn.map hD))] w':=by
 have h:=sL X 0 0 2 1 0 0 0 3 0 (List.replicate 2 []) WKn p pw 2 c 1 cw w0 hb0 rfl sP (by decide) m0
 have e1:(lP 0 (List.replicate 2 []) WKn).map (fun h=>lr h (max 0 0))=HKn:=by kernel_rfl
 rw[e1] at h
 exact h
theorem rU(X:Cx)(p:Option Addr)(c:Nat)(w0:World)(m0:MemOk X w0 [(1,.dat (.slice p 2 c) (.l 1 (HKn.map hD)))] w0) :
   Calls Tryz.prog 33 #[.agg #[.int .i64 0,.int .i64 0,.int .i64 2,.int .i64 1,.int .i64 3,.int .i64 0,.slice p 2 c],.int .i64 1,.int .i64 2] w0 fun e w' => ∃ (p9:Option Addr) (c9:Nat),e=.returned (.tuple #[.slice p9 1 c9,.int .i64 0])∧MemOk X w0 [(1,.dat (.slice p 2 c) (.l 1 (HKn.map hD))),(9,.dat (.slice p9 1 c9) (.ns .u8 [120]))] w':=by
 have h:=tC X 0 0 2 1 3 0 HKn 1 2 p c w0 (by decide) vt.1 vt.2.1 (by decide) (by decide) (by decide) (by decide) (by decide) (d:=[120]) (by kernel_rfl) m0
 have e1:(atF (HKn.getD 1 []) 2).getD (List.replicate (1:Int).toNat 0)=[120]:=by kernel_rfl
 rw[e1] at h
 exact h
theorem rV(X:Cx)(p:Option Addr)(c:Nat)(w0:World)(m0:MemOk X w0 [(1,.dat (.slice p 2 c) (.l 1 (HKn.map hD)))] w0) :
   Calls Tryz.prog 33 #[.agg #[.int .i64 0,.int .i64 0,.int .i64 2,.int .i64 1,.int .i64 3,.int .i64 0,.slice p 2 c],.int .i64 1,.int .i64 1] w0 fun e w' => ∃ (p9:Option Addr) (c9:Nat),e=.returned (.tuple #[.slice p9 1 c9,.int .i64 0])∧MemOk X w0 [(1,.dat (.slice p 2 c) (.l 1 (HKn.map hD))),(9,.dat (.slice p9 1 c9) (.ns .u8 [0]))] w':=by
 have h:=tD X 0 0 2 1 3 0 HKn 1 1 p c w0 (by decide) vt.1 vt.2.1 (by decide) (by decide) (by decide) (by decide) (by decide) (by kernel_rfl) m0
 have e1:(atF (HKn.getD 1 []) 1).getD (List.replicate (1:Int).toNat 0)=[0]:=by kernel_rfl
 rw[e1] at h
 exact h
theorem rW(p:Option Addr)(c:Nat)(w0:World) :
   Calls Tryz.prog 33 #[.agg #[.int .i64 0,.int .i64 0,.int .i64 2,.int .i64 1,.int .i64 3,.int .i64 0,.slice p 2 c],.int .i64 1,.int .i64 4] w0 fun e w'=>e=.returned (.tuple #[.slice none 0 0,.int .i64 32])∧Below w0.heap.size w0 w':=by
 exact vS 0 0 2 1 3 0 1 4 p 2 c w0 (by decide) (by decide) (by decide)
theorem rX(p:Option Addr)(c:Nat)(w0:World) :
   Calls Tryz.prog 33 #[.agg #[.int .i64 0,.int .i64 0,.int .i64 2,.int .i64 1,.int .i64 3,.int .i64 0,.slice p 2 c],.int .i64 2,.int .i64 1] w0 fun e w'=>e=.returned (.tuple #[.slice none 0 0,.int .i64 28])∧Below w0.heap.size w0 w':=by
 exact vT 0 0 2 1 3 0 2 1 p 2 c w0 (by decide)
theorem yn(X:Cx)(p:Option Addr)(c:Nat)(w0:World)(m0:MemOk X w0 [(1,.dat (.slice p 1 c) (.l 2 (WKn.map wrD)))] w0) :
   Calls Tryz.prog 12 #[.agg #[.int .i64 0,.int .i64 0,.int .i64 2,.int .i64 1,.int .i64 0,.int .i64 3,.int .i64 0,.slice p 1 c]] w0 fun e w' => ∃ (p9:Option Addr) (c9:Nat),e=.returned (.tuple #[.slice p9 PBn.length c9,.int .i64 0])∧MemOk X w0 [(1,.dat (.slice p 1 c) (.l 2 (WKn.map wrD))),(9,.num (.slice p9 PBn.length c9) 5 .u8 PBn)] w':=by
 exact oO X 0 0 2 1 0 3 0 WKn p 1 c w0 sP m0
theorem yo(X:Cx)(p:Option Addr)(c:Nat)(w0:World)(m0:MemOk X w0 [(1,.dat (.slice p PBn.length c) (.ns .u8 PBn))] w0) :
   Calls Tryz.prog 19 #[.slice p PBn.length c] w0 fun e w' => ∃ (p9:Option Addr) (c9:Nat),e=.returned (.tuple #[.agg #[.int .i64 0,.int .i64 0,.int .i64 2,.int .i64 1,.int .i64 0,.int .i64 3,.int .i64 0,.slice p9 1 c9],.int .i64 0])∧MemOk X w0 [(1,.dat (.slice p PBn.length c) (.ns .u8 PBn)),(9,.dat (.slice p9 1 c9) (.l 2 (WKn.map wrD)))] w':=by
 exact og X 0 0 2 1 0 3 0 WKn PBn p c w0 sP zv rfl m0
theorem uw(X:Cx)(p:Option Addr)(c:Nat)(w0:World)(m0:MemOk X w0 [(1,.dat (.slice p 2 c) (.l 1 (HKn.map hD)))] w0) :
   Calls Tryz.prog 25 #[.agg #[.int .i64 0,.int .i64 0,.int .i64 2,.int .i64 1,.int .i64 3,.int .i64 0,.slice p 2 c]] w0 fun e w' => ∃ (p9:Option Addr) (c9:Nat),e=.returned (.slice p9 CBn.length c9)∧MemOk X w0 [(1,.dat (.slice p 2 c) (.l 1 (HKn.map hD))),(9,.num (.slice p9 CBn.length c9) 5 .u8 CBn)] w':=by
 exact zw X 0 0 2 1 3 0 HKn p 2 c w0 (by decide) vt.1 vt.2.2.1 (by decide) (by decide) (by decide) (by decide) (by decide) (by decide) (by decide) m0
theorem rY(X:Cx)(B:Nat)(p:Option Addr)(c:Nat)(w0:World)(m0:MemOk X w0 [(1,.box B 115 [.slice p CBn.length c,.int .i64 0]),(2,.dat (.slice p CBn.length c) (.ns .u8 CBn))] w0) :
   Calls Tryz.prog 28 #[.pointer (some ⟨B,0,none⟩)] w0 fun e w' => ∃ (p':Option Addr) (c':Nat) (p9:Option Addr) (c9:Nat),e=.returned (.tuple #[.agg #[.int .i64 0,.int .i64 0,.int .i64 2,.int .i64 1,.int .i64 3,.int .i64 0,.slice p9 2 c9],.bool true])∧MemOk X w0 [(1,.box B 115 [.slice p' 0 c',.int .i64 0]),(2,.dat (.slice p' 0 c') (.ns .u8 [])),(9,.dat (.slice p9 2 c9) (.l 1 (HKn.map hD)))] w':=by
 exact yp X 0 0 2 1 3 0 HKn [] B p c w0 xw vt.1 vt.2.2.2.1 (by rw[List.append_nil];rfl) ⟨Nat.le_trans cbn.1 (by decide),cbn.2⟩ m0
theorem rZ(X:Cx)(p q:Option Addr)(c d:Nat)(w0:World)(m0:MemOk X w0 [(1,.dat (.slice p 2 c) (.l 1 (HKn.map hD))),(2,.dat (.slice q 2 d) (.l 1 (HKn.map hD)))] w0) :
   Calls Tryz.prog 35 #[.agg #[.int .i64 0,.int .i64 0,.int .i64 2,.int .i64 1,.int .i64 3,.int .i64 0,.slice p 2 c],.agg #[.int .i64 0,.int .i64 0,.int .i64 2,.int .i64 1,.int .i64 3,.int .i64 0,.slice q 2 d]] w0 fun e w'=>e=.returned (.bool true)∧MemOk X w0 [(1,.dat (.slice p 2 c) (.l 1 (HKn.map hD))),(2,.dat (.slice q 2 d) (.l 1 (HKn.map hD)))] w':=by
 exact yq X 0 0 2 1 3 0 HKn p c q d w0 (by decide) vt.2.2.2.2 m0
theorem qA(X:Cx)(p:Option Addr)(c:Nat)(w0:World)(m0:MemOk X w0 [(1,.dat (.slice p 2 c) (.l 1 (HKn.map hD)))] w0) :
   Calls Tryz.prog 23 #[.agg #[.int .i64 0,.int .i64 0,.int .i64 2,.int .i64 1,.int .i64 3,.int .i64 0,.slice p 2 c]] w0 fun e w'=>e=.returned (.bool true)∧MemOk X w0 [(1,.dat (.slice p 2 c) (.l 1 (HKn.map hD)))] w':=by
 refine(nS X 0 0 2 1 3 0 HKn p 2 c w0 (by decide) vt.1 m0).mono fun e w' h =>?_
 obtain⟨b,h1,h2,h3⟩:=h
 exact⟨by rw[h1,h2.2 xw],h3⟩
theorem pC(X:Cx)(p:Option Addr)(c:Nat)(w0:World)(m0:MemOk X w0 [(1,.dat (.slice p 1 c) (.l 2 (WKn.map wrD)))] w0) :
   Calls Tryz.prog 14 #[.agg #[.int .i64 0,.int .i64 0,.int .i64 2,.int .i64 1,.int .i64 0,.int .i64 3,.int .i64 0,.slice p 1 c]] w0 fun e w'=>e=.returned (.bool true)∧MemOk X w0 [(1,.dat (.slice p 1 c) (.l 2 (WKn.map wrD)))] w':=by
 refine(nh X 0 0 2 1 0 3 0 WKn p 1 c w0 (by decide) (fun e he=>by obtain rfl:=List.mem_singleton.1 he;decide) m0).mono fun e w' h =>?_
 obtain⟨b,h1,h2,h3⟩:=h
 exact⟨by rw[h1,h2.2 sP],h3⟩
theorem vN(w0:World):Calls Tryz.prog 7 #[] w0 fun e w'=>e=.returned (.bool true)∧Below w0.heap.size w0 w':=by
 refine AS Tryz.func7 rfl Tryz.ntmps7 fun Y U =>?_
 have m0:=MemOk.start (fun _=>False) w0
 refine la U (.assign rfl .nil) fun Y U =>?_
 refine zsr fun K0 hK0 =>?_
 refine plz (lj U m0 60 (k:=.u8) rfl rfl U22 lJ rfl rfl rfl rfl fun g2 Y w3 U m3 =>?_)
 refine plz (Av U m3 60 rfl rfl U22 U5 rfl fun Y w4 U m4 =>?_)
 refine k9 U (.build rfl pz yl rfl (by dsimp only [l9,List.set] <;> rfl) .nil) fun Y U =>?_
 refine plz (lq U m4 61 (mm:=2) rfl (.cons rfl rfl (.cons (.v _) (.cons (m4.rd (i:=60) rfl) .nil)) .nil) U28 ow rfl rfl rfl rfl rfl fun g6 Y w7 U m7 =>?_)
 refine k9 U (.build rfl rJ yj rfl (by dsimp only [l9,List.set] <;> rfl) .nil) fun Y U =>?_
 have cP:=m7.freezeR 61 rfl
 refine plz (lq U cP 62 (mm:=2) rfl (.cons rfl rfl (.cons (.v _) (.cons (cP.rd (i:=61) rfl) .nil)) .nil) U23 oM rfl rfl rfl rfl rfl fun g9 Y eK U c1 =>?_)
 refine k9 U (.build rfl mL yi rfl (by dsimp only [l9,List.set] <;> rfl) .nil) fun Y U =>?_
 refine plz (lc U c1 63 mL rfl fun eL Y eM U c2 _ _ =>?_)
 refine plz (stw U c2 63 lF fun eN c3 _ =>?_)
 refine znl (hK0 _ _ ?_)
 refine wsk fun K1 hK1 =>?_
 replace U:=U.oz [0,1]
 have c4:=c3.freezeR 62 rfl
 have c5:=c4.oz [60,61,62,63]
 have bZ:=c5.oz [60,61,62,63]
 refine region_p 5 (B:=[(60,_),(61,_),(62,_),(63,_)]) (bZ.to i4l) bZ (by kernel_rfl) (fun eO b0 a8 =>?_);clear bZ
 refine goR b0 [0,2] [0,2] 2 0 5 U (a8.to i4l) (.loadBR hh (i:=63) rfl rfl U25 rfl lF (by simp) (by dsimp only [List.drop,List.take] <;> rfl)<|.loadBR hh (i:=63) rfl rfl U25 rfl lF (by simp) (by dsimp only [List.drop,List.take] <;> rfl) .nil) fun Y U =>?_
 refine dtw 1 4 ?_ ?_
 ·
  refine ecl U Tryz.func21 rfl (xx _ _ _ _ (a8.into [] (by decide) rfl)) ?_
  rintro e eP ⟨eQ,eR,rfl,a9⟩
  have b1:=a8.back a9 [(64,9)] (by decide);clear a9 a8
  have b4:=b1.oz [64,60,61,62,63]
  refine⟨_,rfl,?_⟩;intro Y U
  refine⟨fun _=>(b4.to i4l),?_⟩
  refine dtw 3 4 ?_ ?_
  ·
   have b5:=b4.freezeR 64 rfl
   refine ecl U Tryz.func17 rfl (qz _ _ _ _ _ _ (b5.into [(1,64),(2,62)] (by decide) rfl)) ?_
   rintro e eS ⟨eT,eU,rfl,ba⟩
   have b6:=b5.back ba [(64,1),(62,2),(65,9)] (by decide);clear ba b5
   have cQ:=b6.oz [64,62,65,60,61,63]
   refine⟨_,rfl,?_⟩;intro Y U
   refine⟨fun _=>(cQ.to i4l),?_⟩
   refine so 4 ?_
   refine lc U cQ 66 oV rfl fun eV Y eW U cR _ _ =>?_
   refine⟨cR.to i4l,?_⟩
   refine se 5 ?_
   refine stw U cR 66 lH fun eX cS _ =>?_
   refine wad ?_
   refine hK1 _ _ ?_
   refine zsr fun K2 hK2 =>?_
   refine k9 U (.loadBR cS (i:=66) rfl rfl U39 rfl lH (by simp) (by dsimp only [List.drop,List.take] <;> rfl) .nil) fun Y U =>?_
   have b7:=cS.freezeR 65 rfl
   refine plz (ecl U Tryz.func33 rfl (rU _ _ _ _ (b7.into [(1,65)] (by decide) rfl)) ?_)
   rintro e eY ⟨eZ,e0,rfl,bb⟩
   have b8:=b7.back bb [(65,1),(67,9)] (by decide);clear bb b7
   have bW:=b8.oz [65,67,60,61,62,63,64,66]
   refine⟨_,rfl,?_⟩;intro Y U
   refine gz hK2 U (.move rfl<|.extract rfl rfl<|.extract rfl rfl<|.assign rfl<|.assign rfl<|.nil) fun Y U =>?_
   replace U:=U.oz [0,1,2,3,4]
   refine zsr fun K3 hK3 =>?_
   refine k9 U (.loadBR bW (i:=66) rfl rfl U39 rfl lH (by simp) (by dsimp only [List.drop,List.take] <;> rfl) .nil) fun Y U =>?_
   refine plz (ecl U Tryz.func33 rfl (rV _ _ _ _ (bW.into [(1,65)] (by decide) rfl)) ?_)
   rintro e e1 ⟨e2,e3,rfl,bd⟩
   have b9:=bW.back bd [(65,1),(68,9)] (by decide);clear bd bW
   have cT:=b9.oz [65,68,60,61,62,63,64,66,67]
   refine⟨_,rfl,?_⟩;intro Y U
   refine gz hK3 U (.move rfl<|.extract rfl rfl<|.extract rfl rfl<|.assign rfl<|.assign rfl<|.nil) fun Y U =>?_
   refine zsr fun K4 hK4 =>?_
   refine k9 U (.loadBR cT (i:=66) rfl rfl U39 rfl lH (by simp) (by dsimp only [List.drop,List.take] <;> rfl) .nil) fun Y U =>?_
   refine plz (ecb U Tryz.func33 rfl cT (rW _ _ _) fun Y e4 U cU =>?_)
   refine gz hK4 U (.move rfl<|.extract rfl rfl<|.extract rfl rfl<|.assign rfl<|.assign rfl<|.nil) fun Y U =>?_
   replace U:=U.oz [0,1,2,3,4,5,6,8]
   refine zsr fun K5 hK5 =>?_
   refine k9 U (.loadBR cU (i:=66) rfl rfl U39 rfl lH (by simp) (by dsimp only [List.drop,List.take] <;> rfl) .nil) fun Y U =>?_
   refine plz (ecb U Tryz.func33 rfl cU (rX _ _ _) fun Y e5 U bX =>?_)
   refine gz hK5 U (.move rfl<|.extract rfl rfl<|.extract rfl rfl<|.assign rfl<|.assign rfl<|.nil) fun Y U =>?_
   replace U:=U.oz [0,1,2,3,4,5,6,8,10]
   refine zsr fun K6 hK6 =>?_
   refine k9 U (.loadBR bX (i:=63) rfl rfl U25 rfl lF (by simp) (by dsimp only [List.drop,List.take] <;> rfl) .nil) fun Y U =>?_
   refine plz (ecl U Tryz.func12 rfl (yn _ _ _ _ (bX.into [(1,62)] (by decide) rfl)) ?_)
   rintro e e6 ⟨e7,e8,rfl,be⟩
   have ca:=bX.back be [(62,1),(69,9)] (by decide);clear be bX
   have c6:=ca.oz [62,69,60,61,63,64,65,66,67,68]
   refine⟨_,rfl,?_⟩;intro Y U
   refine gz hK6 U (.move rfl<|.extract rfl rfl<|.extract rfl rfl<|.assign rfl<|.assign rfl<|.nil) fun Y U =>?_
   refine zsr fun K7 hK7 =>?_
   refine k9 U (.move rfl .nil) fun Y U =>?_
   have cb:=c6.freezeN 69 rfl
   refine plz (ecl U Tryz.func19 rfl (yo _ _ _ _ (cb.into [(1,69)] (by decide) rfl)) ?_)
   rintro e e9 ⟨fb,fc,rfl,bf⟩
   have cc:=cb.back bf [(69,1),(70,9)] (by decide);clear bf cb
   have c7:=cc.oz [69,70,60,61,62,63,64,65,66,67,68]
   refine⟨_,rfl,?_⟩;intro Y U
   refine k9 U (.move rfl<|.extract rfl rfl<|.extract rfl rfl .nil) fun Y U =>?_
   refine plz (lc U c7 71 mL rfl fun fd Y fe U c8 _ _ =>?_)
   refine plz (stw U c8 71 lF fun ff bY _ =>?_)
   refine gz hK7 U (.assign rfl .nil) fun Y U =>?_
   replace U:=U.oz [0,1,2,3,4,5,6,8,10,12,13,14]
   refine zsr fun K8 hK8 =>?_
   refine k9 U (.loadBR bY (i:=66) rfl rfl U39 rfl lH (by simp) (by dsimp only [List.drop,List.take] <;> rfl) .nil) fun Y U =>?_
   refine plz (ecl U Tryz.func25 rfl (uw _ _ _ _ (bY.into [(1,65)] (by decide) rfl)) ?_)
   rintro e fg ⟨fh,fi,rfl,bg⟩
   have cd:=bY.back bg [(65,1),(72,9)] (by decide);clear bg bY
   have c9:=cd.oz [65,72,60,61,62,63,64,66,67,68,69,70,71]
   refine⟨_,rfl,?_⟩;intro Y U
   have ce:=c9.freezeN 72 rfl
   refine plz (ecl U Tryz.func27 rfl (sQ _ CBn _ _ _ (Nat.le_trans cbn.1 (by decide)) (ce.into [(1,72)] (by decide) rfl)) ?_)
   rintro e da ⟨db,dc,de,rfl,av⟩
   have bh:=ce.back av [(73,1),(74,2),(72,3)] (by decide);clear av ce
   have aX:=bh.oz [73,74,72,60,61,62,63,64,65,66,67,68,69,70,71]
   refine⟨_,rfl,?_⟩;intro Y U
   refine plz (ecl U Tryz.func28 rfl (rY _ _ _ _ _ (aX.into [(1,73),(2,74)] (by decide) rfl)) ?_)
   rintro e df ⟨dg,dh,cV,cW,rfl,aw⟩
   have bi:=aX.back aw [(73,1),(75,2),(76,9)] (by decide);clear aw aX
   have cf:=bi.oz [73,75,76,60,61,62,63,64,65,66,67,68,69,70,71,72]
   refine⟨_,rfl,?_⟩;intro Y U
   refine k9 U (.move rfl<|.extract rfl rfl<|.extract rfl rfl .nil) fun Y U =>?_
   refine plz (lc U cf 77 oV rfl fun di Y dj U cg _ _ =>?_)
   refine plz (stw U cg 77 lH fun dk aa _ =>?_)
   refine gz hK8 U (.assign rfl .nil) fun Y U =>?_
   replace U:=U.oz [0,1,2,3,4,5,6,8,10,12,13,14,15,16]
   refine zsr fun K9 hK9 =>?_
   refine k9 U (.fa 4 rfl U39<|.lb aa 66 U2 rfl rfl rfl<|.eql rfl rfl<|.move rfl .nil) fun Y U =>?_
   refine bc U 68 ?_ ?_
   rotate_left
   · intro hb _;exact absurd hb (by first|decide|(rw[ol];decide)|(rw[om];decide)|simp)
   clear U;intro _ U
   refine k9 U (.moveZ rfl<|.eqlZ rfl rfl<|.pickT rfl rfl<|.move rfl .nil) fun Y U =>?_
   refine bc U 72 ?_ ?_
   rotate_left
   · intro hb _;exact absurd hb (by first|decide|(rw[ol];decide)|(rw[om];decide)|simp)
   clear U;intro _ U
   refine k9 U (.moveZ rfl<|.strZ rfl (aa.nums (i:=67) rfl) U22 U5 U9<|.eqlSZ rfl rfl<|.pickT rfl rfl<|.move rfl .nil) fun Y U =>?_
   refine bc U 77 ?_ ?_
   rotate_left
   · intro hb _;exact absurd hb (by first|decide|(rw[ol];decide)|(rw[om];decide)|simp)
   clear U;intro _ U
   refine k9 U (.moveZ rfl<|.eqlZ rfl rfl<|.pickT rfl rfl<|.move rfl .nil) fun Y U =>?_
   refine bc U 81 ?_ ?_
   rotate_left
   · intro hb _;exact absurd hb (by first|decide|(rw[ol];decide)|(rw[om];decide)|simp)
   clear U;intro _ U
   refine k9 U (.moveZ rfl<|.strZ rfl (aa.nums (i:=68) rfl) U22 U5 U9<|.eqlSZ rfl rfl<|.pickT rfl rfl<|.move rfl .nil) fun Y U =>?_
   refine bc U 86 ?_ ?_
   rotate_left
   · intro hb _;exact absurd hb (by first|decide|(rw[ol];decide)|(rw[om];decide)|simp)
   clear U;intro _ U
   refine k9 U (.moveZ rfl<|.eqlZ rfl rfl<|.pickT rfl rfl<|.move rfl .nil) fun Y U =>?_
   refine bc U 90 ?_ ?_
   rotate_left
   · intro hb _;exact absurd hb (by first|decide|(rw[ol];decide)|(rw[om];decide)|simp)
   clear U;intro _ U
   refine k9 U (.moveZ rfl<|.eqlZ rfl rfl<|.pickT rfl rfl<|.move rfl .nil) fun Y U =>?_
   refine bc U 94 ?_ ?_
   rotate_left
   · intro hb _;exact absurd hb (by first|decide|(rw[ol];decide)|(rw[om];decide)|simp)
   clear U;intro _ U
   refine k9 U (.moveZ rfl<|.eqlZ rfl rfl<|.pickT rfl rfl<|.move rfl .nil) fun Y U =>?_
   refine bc U 98 ?_ ?_
   rotate_left
   · intro hb _;exact absurd hb (by first|decide|(rw[ol];decide)|(rw[om];decide)|simp)
   clear U;intro _ U
   refine k9 U (.moveZ rfl<|.eqlZ rfl rfl<|.pickT rfl rfl<|.move rfl .nil) fun Y U =>?_
   refine bc U 102 ?_ ?_
   rotate_left
   · intro hb _;exact absurd hb (by first|decide|(rw[ol];decide)|(rw[om];decide)|simp)
   clear U;intro _ U
   refine k9 U (.faZ 5 rfl U25<|.loadB1Z aa (i:=71) rfl rfl rfl U2 rfl<|.eqlZ rfl rfl<|.pickT rfl rfl<|.move rfl .nil) fun Y U =>?_
   refine bc U 107 ?_ ?_
   rotate_left
   · intro hb _;exact absurd hb (by first|decide|(rw[ol];decide)|(rw[om];decide)|simp)
   clear U;intro _ U
   refine k9 U (.moveZ rfl<|.pickT rfl rfl<|.move rfl<|.loadBRZ aa (i:=77) rfl rfl U39 rfl lH (by simp) (by dsimp only [List.drop,List.take] <;> rfl)<|.loadBRZ aa (i:=66) rfl rfl U39 rfl lH (by simp) (by dsimp only [List.drop,List.take] <;> rfl) .nil) fun Y U =>?_
   refine stz U (ecl U Tryz.func35 rfl (rZ _ _ _ _ _ _ (aa.into [(1,76),(2,65)] (by decide) rfl)) ?_)
   rintro e dl ⟨rfl,ax⟩
   have bj:=aa.back ax [(76,1),(65,2)] (by decide);clear ax aa
   have ad:=bj.oz [76,65,60,61,62,63,64,66,67,68,69,70,71,72,73,75,77]
   refine⟨_,rfl,?_⟩;intro Y U
   refine k9 U (.pickT rfl rfl<|.move rfl<|.loadBRZ ad (i:=66) rfl rfl U39 rfl lH (by simp) (by dsimp only [List.drop,List.take] <;> rfl) .nil) fun Y U =>?_
   refine stz U (ecl U Tryz.func23 rfl (qA _ _ _ _ (ad.into [(1,65)] (by decide) rfl)) ?_)
   rintro e dm ⟨rfl,ay⟩
   have bk:=ad.back ay [(65,1)] (by decide);clear ay ad
   have ae:=bk.oz [65,60,61,62,63,64,66,67,68,69,70,71,72,73,75,76,77]
   refine⟨_,rfl,?_⟩;intro Y U
   refine k9 U (.pickT rfl rfl<|.move rfl<|.loadBRZ ae (i:=63) rfl rfl U25 rfl lF (by simp) (by dsimp only [List.drop,List.take] <;> rfl) .nil) fun Y U =>?_
   refine stz U (ecl U Tryz.func14 rfl (pC _ _ _ _ (ae.into [(1,62)] (by decide) rfl)) ?_)
   rintro e dn ⟨rfl,az⟩
   have bm:=ae.back az [(62,1)] (by decide);clear az ae
   have ci:=bm.oz [62,60,61,63,64,65,66,67,68,69,70,71,72,73,75,76,77]
   refine⟨_,rfl,?_⟩;intro Y U
   refine gz hK9 U (.pickT rfl rfl<|.assign rfl<|.nil) fun Y U =>?_
   refine rt1 U ?_
   exact⟨by(first|rfl|simp),ci.below⟩
  refine lc U b4 65 oV rfl fun dp Y dq U bn _ _ =>?_
  refine⟨fun _=>(bn.to i4l),?_⟩
  have aY:=bn.freezeR 64 rfl
  refine so 3 ?_
  refine ecl U Tryz.func17 rfl (qz _ _ _ _ _ _ (aY.into [(1,64),(2,62)] (by decide) rfl)) ?_
  rintro e dr ⟨ds,dt,rfl,aA⟩
  have bo:=aY.back aA [(64,1),(62,2),(66,9)] (by decide);clear aA aY
  have bp:=bo.oz [64,62,66,60,61,63,65]
  refine⟨_,rfl,?_⟩;intro Y U
  refine⟨bp.to i4l,?_⟩
  refine se 5 ?_
  refine stw U bp 65 lH fun du bq _ =>?_
  refine wad ?_
  refine hK1 _ _ ?_
  refine zsr fun fj cj =>?_
  refine k9 U (.loadBR bq (i:=65) rfl rfl U39 rfl lH (by simp) (by dsimp only [List.drop,List.take] <;> rfl) .nil) fun Y U =>?_
  have aZ:=bq.freezeR 66 rfl
  refine plz (ecl U Tryz.func33 rfl (rU _ _ _ _ (aZ.into [(1,66)] (by decide) rfl)) ?_)
  rintro e dv ⟨dw,dx,rfl,aB⟩
  have br:=aZ.back aB [(66,1),(67,9)] (by decide);clear aB aZ
  have ag:=br.oz [66,67,60,61,62,63,64,65]
  refine⟨_,rfl,?_⟩;intro Y U
  refine gz cj U (.move rfl<|.extract rfl rfl<|.extract rfl rfl<|.assign rfl<|.assign rfl<|.nil) fun Y U =>?_
  replace U:=U.oz [0,1,2,3,4]
  refine zsr fun fk ck =>?_
  refine k9 U (.loadBR ag (i:=65) rfl rfl U39 rfl lH (by simp) (by dsimp only [List.drop,List.take] <;> rfl) .nil) fun Y U =>?_
  refine plz (ecl U Tryz.func33 rfl (rV _ _ _ _ (ag.into [(1,66)] (by decide) rfl)) ?_)
  rintro e dy ⟨dz,dA,rfl,aC⟩
  have bs:=ag.back aC [(66,1),(68,9)] (by decide);clear aC ag
  have bt:=bs.oz [66,68,60,61,62,63,64,65,67]
  refine⟨_,rfl,?_⟩;intro Y U
  refine gz ck U (.move rfl<|.extract rfl rfl<|.extract rfl rfl<|.assign rfl<|.assign rfl<|.nil) fun Y U =>?_
  refine zsr fun fm cl =>?_
  refine k9 U (.loadBR bt (i:=65) rfl rfl U39 rfl lH (by simp) (by dsimp only [List.drop,List.take] <;> rfl) .nil) fun Y U =>?_
  refine plz (ecb U Tryz.func33 rfl bt (rW _ _ _) fun Y dB U bu =>?_)
  refine gz cl U (.move rfl<|.extract rfl rfl<|.extract rfl rfl<|.assign rfl<|.assign rfl<|.nil) fun Y U =>?_
  replace U:=U.oz [0,1,2,3,4,5,6,8]
  refine zsr fun fo cm =>?_
  refine k9 U (.loadBR bu (i:=65) rfl rfl U39 rfl lH (by simp) (by dsimp only [List.drop,List.take] <;> rfl) .nil) fun Y U =>?_
  refine plz (ecb U Tryz.func33 rfl bu (rX _ _ _) fun Y dC U ah =>?_)
  refine gz cm U (.move rfl<|.extract rfl rfl<|.extract rfl rfl<|.assign rfl<|.assign rfl<|.nil) fun Y U =>?_
  replace U:=U.oz [0,1,2,3,4,5,6,8,10]
  refine zsr fun fp co =>?_
  refine k9 U (.loadBR ah (i:=63) rfl rfl U25 rfl lF (by simp) (by dsimp only [List.drop,List.take] <;> rfl) .nil) fun Y U =>?_
  refine plz (ecl U Tryz.func12 rfl (yn _ _ _ _ (ah.into [(1,62)] (by decide) rfl)) ?_)
  rintro e dD ⟨dE,dF,rfl,aD⟩
  have bv:=ah.back aD [(62,1),(69,9)] (by decide);clear aD ah
  have cp:=bv.oz [62,69,60,61,63,64,65,66,67,68]
  refine⟨_,rfl,?_⟩;intro Y U
  refine gz co U (.move rfl<|.extract rfl rfl<|.extract rfl rfl<|.assign rfl<|.assign rfl<|.nil) fun Y U =>?_
  refine zsr fun fq cq =>?_
  refine k9 U (.move rfl .nil) fun Y U =>?_
  have a0:=cp.freezeN 69 rfl
  refine plz (ecl U Tryz.func19 rfl (yo _ _ _ _ (a0.into [(1,69)] (by decide) rfl)) ?_)
  rintro e dG ⟨dH,dI,rfl,aE⟩
  have bw:=a0.back aE [(69,1),(70,9)] (by decide);clear aE a0
  have cr:=bw.oz [69,70,60,61,62,63,64,65,66,67,68]
  refine⟨_,rfl,?_⟩;intro Y U
  refine k9 U (.move rfl<|.extract rfl rfl<|.extract rfl rfl .nil) fun Y U =>?_
  refine plz (lc U cr 71 mL rfl fun dJ Y dK U cs _ _ =>?_)
  refine plz (stw U cs 71 lF fun dL ai _ =>?_)
  refine gz cq U (.assign rfl .nil) fun Y U =>?_
  replace U:=U.oz [0,1,2,3,4,5,6,8,10,12,13,14]
  refine zsr fun fs ct =>?_
  refine k9 U (.loadBR ai (i:=65) rfl rfl U39 rfl lH (by simp) (by dsimp only [List.drop,List.take] <;> rfl) .nil) fun Y U =>?_
  refine plz (ecl U Tryz.func25 rfl (uw _ _ _ _ (ai.into [(1,66)] (by decide) rfl)) ?_)
  rintro e dM ⟨dN,dO,rfl,aF⟩
  have bx:=ai.back aF [(66,1),(72,9)] (by decide);clear aF ai
  have cu:=bx.oz [66,72,60,61,62,63,64,65,67,68,69,70,71]
  refine⟨_,rfl,?_⟩;intro Y U
  have a1:=cu.freezeN 72 rfl
  refine plz (ecl U Tryz.func27 rfl (sQ _ CBn _ _ _ (Nat.le_trans cbn.1 (by decide)) (a1.into [(1,72)] (by decide) rfl)) ?_)
  rintro e dP ⟨dQ,dR,dS,rfl,aG⟩
  have bz:=a1.back aG [(73,1),(74,2),(72,3)] (by decide);clear aG a1
  have a2:=bz.oz [73,74,72,60,61,62,63,64,65,66,67,68,69,70,71]
  refine⟨_,rfl,?_⟩;intro Y U
  refine plz (ecl U Tryz.func28 rfl (rY _ _ _ _ _ (a2.into [(1,73),(2,74)] (by decide) rfl)) ?_)
  rintro e dT ⟨dU,dV,cX,cY,rfl,aH⟩
  have bA:=a2.back aH [(73,1),(75,2),(76,9)] (by decide);clear aH a2
  have cv:=bA.oz [73,75,76,60,61,62,63,64,65,66,67,68,69,70,71,72]
  refine⟨_,rfl,?_⟩;intro Y U
  refine k9 U (.move rfl<|.extract rfl rfl<|.extract rfl rfl .nil) fun Y U =>?_
  refine plz (lc U cv 77 oV rfl fun dW Y dX U cw _ _ =>?_)
  refine plz (stw U cw 77 lH fun dY ab _ =>?_)
  refine gz ct U (.assign rfl .nil) fun Y U =>?_
  replace U:=U.oz [0,1,2,3,4,5,6,8,10,12,13,14,15,16]
  refine zsr fun ft cy =>?_
  refine k9 U (.fa 4 rfl U39<|.lb ab 65 U2 rfl rfl rfl<|.eql rfl rfl<|.move rfl .nil) fun Y U =>?_
  refine bc U 68 ?_ ?_
  rotate_left
  · intro hb _;exact absurd hb (by first|decide|(rw[ol];decide)|(rw[om];decide)|simp)
  clear U;intro _ U
  refine k9 U (.moveZ rfl<|.eqlZ rfl rfl<|.pickT rfl rfl<|.move rfl .nil) fun Y U =>?_
  refine bc U 72 ?_ ?_
  rotate_left
  · intro hb _;exact absurd hb (by first|decide|(rw[ol];decide)|(rw[om];decide)|simp)
  clear U;intro _ U
  refine k9 U (.moveZ rfl<|.strZ rfl (ab.nums (i:=67) rfl) U22 U5 U9<|.eqlSZ rfl rfl<|.pickT rfl rfl<|.move rfl .nil) fun Y U =>?_
  refine bc U 77 ?_ ?_
  rotate_left
  · intro hb _;exact absurd hb (by first|decide|(rw[ol];decide)|(rw[om];decide)|simp)
  clear U;intro _ U
  refine k9 U (.moveZ rfl<|.eqlZ rfl rfl<|.pickT rfl rfl<|.move rfl .nil) fun Y U =>?_
  refine bc U 81 ?_ ?_
  rotate_left
  · intro hb _;exact absurd hb (by first|decide|(rw[ol];decide)|(rw[om];decide)|simp)
  clear U;intro _ U
  refine k9 U (.moveZ rfl<|.strZ rfl (ab.nums (i:=68) rfl) U22 U5 U9<|.eqlSZ rfl rfl<|.pickT rfl rfl<|.move rfl .nil) fun Y U =>?_
  refine bc U 86 ?_ ?_
  rotate_left
  · intro hb _;exact absurd hb (by first|decide|(rw[ol];decide)|(rw[om];decide)|simp)
  clear U;intro _ U
  refine k9 U (.moveZ rfl<|.eqlZ rfl rfl<|.pickT rfl rfl<|.move rfl .nil) fun Y U =>?_
  refine bc U 90 ?_ ?_
  rotate_left
  · intro hb _;exact absurd hb (by first|decide|(rw[ol];decide)|(rw[om];decide)|simp)
  clear U;intro _ U
  refine k9 U (.moveZ rfl<|.eqlZ rfl rfl<|.pickT rfl rfl<|.move rfl .nil) fun Y U =>?_
  refine bc U 94 ?_ ?_
  rotate_left
  · intro hb _;exact absurd hb (by first|decide|(rw[ol];decide)|(rw[om];decide)|simp)
  clear U;intro _ U
  refine k9 U (.moveZ rfl<|.eqlZ rfl rfl<|.pickT rfl rfl<|.move rfl .nil) fun Y U =>?_
  refine bc U 98 ?_ ?_
  rotate_left
  · intro hb _;exact absurd hb (by first|decide|(rw[ol];decide)|(rw[om];decide)|simp)
  clear U;intro _ U
  refine k9 U (.moveZ rfl<|.eqlZ rfl rfl<|.pickT rfl rfl<|.move rfl .nil) fun Y U =>?_
  refine bc U 102 ?_ ?_
  rotate_left
  · intro hb _;exact absurd hb (by first|decide|(rw[ol];decide)|(rw[om];decide)|simp)
  clear U;intro _ U
  refine k9 U (.faZ 5 rfl U25<|.loadB1Z ab (i:=71) rfl rfl rfl U2 rfl<|.eqlZ rfl rfl<|.pickT rfl rfl<|.move rfl .nil) fun Y U =>?_
  refine bc U 107 ?_ ?_
  rotate_left
  · intro hb _;exact absurd hb (by first|decide|(rw[ol];decide)|(rw[om];decide)|simp)
  clear U;intro _ U
  refine k9 U (.moveZ rfl<|.pickT rfl rfl<|.move rfl<|.loadBRZ ab (i:=77) rfl rfl U39 rfl lH (by simp) (by dsimp only [List.drop,List.take] <;> rfl)<|.loadBRZ ab (i:=65) rfl rfl U39 rfl lH (by simp) (by dsimp only [List.drop,List.take] <;> rfl) .nil) fun Y U =>?_
  refine stz U (ecl U Tryz.func35 rfl (rZ _ _ _ _ _ _ (ab.into [(1,76),(2,66)] (by decide) rfl)) ?_)
  rintro e dZ ⟨rfl,aI⟩
  have bB:=ab.back aI [(76,1),(66,2)] (by decide);clear aI ab
  have aj:=bB.oz [76,66,60,61,62,63,64,65,67,68,69,70,71,72,73,75,77]
  refine⟨_,rfl,?_⟩;intro Y U
  refine k9 U (.pickT rfl rfl<|.move rfl<|.loadBRZ aj (i:=65) rfl rfl U39 rfl lH (by simp) (by dsimp only [List.drop,List.take] <;> rfl) .nil) fun Y U =>?_
  refine stz U (ecl U Tryz.func23 rfl (qA _ _ _ _ (aj.into [(1,66)] (by decide) rfl)) ?_)
  rintro e d0 ⟨rfl,aJ⟩
  have bC:=aj.back aJ [(66,1)] (by decide);clear aJ aj
  have ak:=bC.oz [66,60,61,62,63,64,65,67,68,69,70,71,72,73,75,76,77]
  refine⟨_,rfl,?_⟩;intro Y U
  refine k9 U (.pickT rfl rfl<|.move rfl<|.loadBRZ ak (i:=63) rfl rfl U25 rfl lF (by simp) (by dsimp only [List.drop,List.take] <;> rfl) .nil) fun Y U =>?_
  refine stz U (ecl U Tryz.func14 rfl (pC _ _ _ _ (ak.into [(1,62)] (by decide) rfl)) ?_)
  rintro e d1 ⟨rfl,aK⟩
  have bE:=ak.back aK [(62,1)] (by decide);clear aK ak
  have cz:=bE.oz [62,60,61,63,64,65,66,67,68,69,70,71,72,73,75,76,77]
  refine⟨_,rfl,?_⟩;intro Y U
  refine gz cy U (.pickT rfl rfl<|.assign rfl<|.nil) fun Y U =>?_
  refine rt1 U ?_
  exact⟨by(first|rfl|simp),cz.below⟩
 refine lc U a8 64 oV rfl fun d2 Y d3 U al _ _ =>?_
 refine⟨fun _=>(al.to i4l),?_⟩
 refine so 1 ?_
 refine ecl U Tryz.func21 rfl (xx _ _ _ _ (al.into [] (by decide) rfl)) ?_
 rintro e d4 ⟨d5,d6,rfl,aL⟩
 have bF:=al.back aL [(65,9)] (by decide);clear aL al
 have bG:=bF.oz [65,60,61,62,63,64]
 refine⟨_,rfl,?_⟩;intro Y U
 refine⟨bG.to i4l,?_⟩
 have a3:=bG.freezeR 65 rfl
 refine so 3 ?_
 refine ecl U Tryz.func17 rfl (qz _ _ _ _ _ _ (a3.into [(1,65),(2,62)] (by decide) rfl)) ?_
 rintro e d7 ⟨d8,d9,rfl,aM⟩
 have bH:=a3.back aM [(65,1),(62,2),(66,9)] (by decide);clear aM a3
 have bI:=bH.oz [65,62,66,60,61,63,64]
 refine⟨_,rfl,?_⟩;intro Y U
 refine⟨bI.to i4l,?_⟩
 refine se 5 ?_
 refine stw U bI 64 lH fun ea bJ _ =>?_
 refine wad ?_
 refine hK1 _ _ ?_
 refine zsr fun fu cA =>?_
 refine k9 U (.loadBR bJ (i:=64) rfl rfl U39 rfl lH (by simp) (by dsimp only [List.drop,List.take] <;> rfl) .nil) fun Y U =>?_
 have a4:=bJ.freezeR 66 rfl
 refine plz (ecl U Tryz.func33 rfl (rU _ _ _ _ (a4.into [(1,66)] (by decide) rfl)) ?_)
 rintro e eb ⟨ec,ed,rfl,aN⟩
 have bK:=a4.back aN [(66,1),(67,9)] (by decide);clear aN a4
 have ao:=bK.oz [66,67,60,61,62,63,64,65]
 refine⟨_,rfl,?_⟩;intro Y U
 refine gz cA U (.move rfl<|.extract rfl rfl<|.extract rfl rfl<|.assign rfl<|.assign rfl<|.nil) fun Y U =>?_
 replace U:=U.oz [0,1,2,3,4]
 refine zsr fun fv cB =>?_
 refine k9 U (.loadBR ao (i:=64) rfl rfl U39 rfl lH (by simp) (by dsimp only [List.drop,List.take] <;> rfl) .nil) fun Y U =>?_
 refine plz (ecl U Tryz.func33 rfl (rV _ _ _ _ (ao.into [(1,66)] (by decide) rfl)) ?_)
 rintro e ee ⟨ef,eg,rfl,aO⟩
 have bL:=ao.back aO [(66,1),(68,9)] (by decide);clear aO ao
 have bM:=bL.oz [66,68,60,61,62,63,64,65,67]
 refine⟨_,rfl,?_⟩;intro Y U
 refine gz cB U (.move rfl<|.extract rfl rfl<|.extract rfl rfl<|.assign rfl<|.assign rfl<|.nil) fun Y U =>?_
 refine zsr fun fw cC =>?_
 refine k9 U (.loadBR bM (i:=64) rfl rfl U39 rfl lH (by simp) (by dsimp only [List.drop,List.take] <;> rfl) .nil) fun Y U =>?_
 refine plz (ecb U Tryz.func33 rfl bM (rW _ _ _) fun Y eh U bN =>?_)
 refine gz cC U (.move rfl<|.extract rfl rfl<|.extract rfl rfl<|.assign rfl<|.assign rfl<|.nil) fun Y U =>?_
 replace U:=U.oz [0,1,2,3,4,5,6,8]
 refine zsr fun fx cD =>?_
 refine k9 U (.loadBR bN (i:=64) rfl rfl U39 rfl lH (by simp) (by dsimp only [List.drop,List.take] <;> rfl) .nil) fun Y U =>?_
 refine plz (ecb U Tryz.func33 rfl bN (rX _ _ _) fun Y ei U ap =>?_)
 refine gz cD U (.move rfl<|.extract rfl rfl<|.extract rfl rfl<|.assign rfl<|.assign rfl<|.nil) fun Y U =>?_
 replace U:=U.oz [0,1,2,3,4,5,6,8,10]
 refine zsr fun fy cE =>?_
 refine k9 U (.loadBR ap (i:=63) rfl rfl U25 rfl lF (by simp) (by dsimp only [List.drop,List.take] <;> rfl) .nil) fun Y U =>?_
 refine plz (ecl U Tryz.func12 rfl (yn _ _ _ _ (ap.into [(1,62)] (by decide) rfl)) ?_)
 rintro e ej ⟨ek,el,rfl,aP⟩
 have bO:=ap.back aP [(62,1),(69,9)] (by decide);clear aP ap
 have cF:=bO.oz [62,69,60,61,63,64,65,66,67,68]
 refine⟨_,rfl,?_⟩;intro Y U
 refine gz cE U (.move rfl<|.extract rfl rfl<|.extract rfl rfl<|.assign rfl<|.assign rfl<|.nil) fun Y U =>?_
 refine zsr fun fz cG =>?_
 refine k9 U (.move rfl .nil) fun Y U =>?_
 have a5:=cF.freezeN 69 rfl
 refine plz (ecl U Tryz.func19 rfl (yo _ _ _ _ (a5.into [(1,69)] (by decide) rfl)) ?_)
 rintro e em ⟨en,eo,rfl,aQ⟩
 have bP:=a5.back aQ [(69,1),(70,9)] (by decide);clear aQ a5
 have cH:=bP.oz [69,70,60,61,62,63,64,65,66,67,68]
 refine⟨_,rfl,?_⟩;intro Y U
 refine k9 U (.move rfl<|.extract rfl rfl<|.extract rfl rfl .nil) fun Y U =>?_
 refine plz (lc U cH 71 mL rfl fun ep Y er U cI _ _ =>?_)
 refine plz (stw U cI 71 lF fun es aq _ =>?_)
 refine gz cG U (.assign rfl .nil) fun Y U =>?_
 replace U:=U.oz [0,1,2,3,4,5,6,8,10,12,13,14]
 refine zsr fun fA cJ =>?_
 refine k9 U (.loadBR aq (i:=64) rfl rfl U39 rfl lH (by simp) (by dsimp only [List.drop,List.take] <;> rfl) .nil) fun Y U =>?_
 refine plz (ecl U Tryz.func25 rfl (uw _ _ _ _ (aq.into [(1,66)] (by decide) rfl)) ?_)
 rintro e et ⟨eu,ew,rfl,aR⟩
 have bQ:=aq.back aR [(66,1),(72,9)] (by decide);clear aR aq
 have cK:=bQ.oz [66,72,60,61,62,63,64,65,67,68,69,70,71]
 refine⟨_,rfl,?_⟩;intro Y U
 have a6:=cK.freezeN 72 rfl
 refine plz (ecl U Tryz.func27 rfl (sQ _ CBn _ _ _ (Nat.le_trans cbn.1 (by decide)) (a6.into [(1,72)] (by decide) rfl)) ?_)
 rintro e ex ⟨ey,ez,eA,rfl,aS⟩
 have bR:=a6.back aS [(73,1),(74,2),(72,3)] (by decide);clear aS a6
 have a7:=bR.oz [73,74,72,60,61,62,63,64,65,66,67,68,69,70,71]
 refine⟨_,rfl,?_⟩;intro Y U
 refine plz (ecl U Tryz.func28 rfl (rY _ _ _ _ _ (a7.into [(1,73),(2,74)] (by decide) rfl)) ?_)
 rintro e eB ⟨eC,eD,cZ,c0,rfl,aT⟩
 have bS:=a7.back aT [(73,1),(75,2),(76,9)] (by decide);clear aT a7
 have cL:=bS.oz [73,75,76,60,61,62,63,64,65,66,67,68,69,70,71,72]
 refine⟨_,rfl,?_⟩;intro Y U
 refine k9 U (.move rfl<|.extract rfl rfl<|.extract rfl rfl .nil) fun Y U =>?_
 refine plz (lc U cL 77 oV rfl fun eE Y eF U cM _ _ =>?_)
 refine plz (stw U cM 77 lH fun eG ac _ =>?_)
 refine gz cJ U (.assign rfl .nil) fun Y U =>?_
 replace U:=U.oz [0,1,2,3,4,5,6,8,10,12,13,14,15,16]
 refine zsr fun fB cN =>?_
 refine k9 U (.fa 4 rfl U39<|.lb ac 64 U2 rfl rfl rfl<|.eql rfl rfl<|.move rfl .nil) fun Y U =>?_
 refine bc U 68 ?_ ?_
 rotate_left
 · intro hb _;exact absurd hb (by first|decide|(rw[ol];decide)|(rw[om];decide)|simp)
 clear U;intro _ U
 refine k9 U (.moveZ rfl<|.eqlZ rfl rfl<|.pickT rfl rfl<|.move rfl .nil) fun Y U =>?_
 refine bc U 72 ?_ ?_
 rotate_left
 · intro hb _;exact absurd hb (by first|decide|(rw[ol];decide)|(rw[om];decide)|simp)
 clear U;intro _ U
 refine k9 U (.moveZ rfl<|.strZ rfl (ac.nums (i:=67) rfl) U22 U5 U9<|.eqlSZ rfl rfl<|.pickT rfl rfl<|.move rfl .nil) fun Y U =>?_
 refine bc U 77 ?_ ?_
 rotate_left
 · intro hb _;exact absurd hb (by first|decide|(rw[ol];decide)|(rw[om];decide)|simp)
 clear U;intro _ U
 refine k9 U (.moveZ rfl<|.eqlZ rfl rfl<|.pickT rfl rfl<|.move rfl .nil) fun Y U =>?_
 refine bc U 81 ?_ ?_
 rotate_left
 · intro hb _;exact absurd hb (by first|decide|(rw[ol];decide)|(rw[om];decide)|simp)
 clear U;intro _ U
 refine k9 U (.moveZ rfl<|.strZ rfl (ac.nums (i:=68) rfl) U22 U5 U9<|.eqlSZ rfl rfl<|.pickT rfl rfl<|.move rfl .nil) fun Y U =>?_
 refine bc U 86 ?_ ?_
 rotate_left
 · intro hb _;exact absurd hb (by first|decide|(rw[ol];decide)|(rw[om];decide)|simp)
 clear U;intro _ U
 refine k9 U (.moveZ rfl<|.eqlZ rfl rfl<|.pickT rfl rfl<|.move rfl .nil) fun Y U =>?_
 refine bc U 90 ?_ ?_
 rotate_left
 · intro hb _;exact absurd hb (by first|decide|(rw[ol];decide)|(rw[om];decide)|simp)
 clear U;intro _ U
 refine k9 U (.moveZ rfl<|.eqlZ rfl rfl<|.pickT rfl rfl<|.move rfl .nil) fun Y U =>?_
 refine bc U 94 ?_ ?_
 rotate_left
 · intro hb _;exact absurd hb (by first|decide|(rw[ol];decide)|(rw[om];decide)|simp)
 clear U;intro _ U
 refine k9 U (.moveZ rfl<|.eqlZ rfl rfl<|.pickT rfl rfl<|.move rfl .nil) fun Y U =>?_
 refine bc U 98 ?_ ?_
 rotate_left
 · intro hb _;exact absurd hb (by first|decide|(rw[ol];decide)|(rw[om];decide)|simp)
 clear U;intro _ U
 refine k9 U (.moveZ rfl<|.eqlZ rfl rfl<|.pickT rfl rfl<|.move rfl .nil) fun Y U =>?_
 refine bc U 102 ?_ ?_
 rotate_left
 · intro hb _;exact absurd hb (by first|decide|(rw[ol];decide)|(rw[om];decide)|simp)
 clear U;intro _ U
 refine k9 U (.faZ 5 rfl U25<|.loadB1Z ac (i:=71) rfl rfl rfl U2 rfl<|.eqlZ rfl rfl<|.pickT rfl rfl<|.move rfl .nil) fun Y U =>?_
 refine bc U 107 ?_ ?_
 rotate_left
 · intro hb _;exact absurd hb (by first|decide|(rw[ol];decide)|(rw[om];decide)|simp)
 clear U;intro _ U
 refine k9 U (.moveZ rfl<|.pickT rfl rfl<|.move rfl<|.loadBRZ ac (i:=77) rfl rfl U39 rfl lH (by simp) (by dsimp only [List.drop,List.take] <;> rfl)<|.loadBRZ ac (i:=64) rfl rfl U39 rfl lH (by simp) (by dsimp only [List.drop,List.take] <;> rfl) .nil) fun Y U =>?_
 refine stz U (ecl U Tryz.func35 rfl (rZ _ _ _ _ _ _ (ac.into [(1,76),(2,66)] (by decide) rfl)) ?_)
 rintro e eH ⟨rfl,aU⟩
 have bT:=ac.back aU [(76,1),(66,2)] (by decide);clear aU ac
 have ar:=bT.oz [76,66,60,61,62,63,64,65,67,68,69,70,71,72,73,75,77]
 refine⟨_,rfl,?_⟩;intro Y U
 refine k9 U (.pickT rfl rfl<|.move rfl<|.loadBRZ ar (i:=64) rfl rfl U39 rfl lH (by simp) (by dsimp only [List.drop,List.take] <;> rfl) .nil) fun Y U =>?_
 refine stz U (ecl U Tryz.func23 rfl (qA _ _ _ _ (ar.into [(1,66)] (by decide) rfl)) ?_)
 rintro e eI ⟨rfl,aV⟩
 have bU:=ar.back aV [(66,1)] (by decide);clear aV ar
 have au:=bU.oz [66,60,61,62,63,64,65,67,68,69,70,71,72,73,75,76,77]
 refine⟨_,rfl,?_⟩;intro Y U
 refine k9 U (.pickT rfl rfl<|.move rfl<|.loadBRZ au (i:=63) rfl rfl U25 rfl lF (by simp) (by dsimp only [List.drop,List.take] <;> rfl) .nil) fun Y U =>?_
 refine stz U (ecl U Tryz.func14 rfl (pC _ _ _ _ (au.into [(1,62)] (by decide) rfl)) ?_)
 rintro e eJ ⟨rfl,aW⟩
 have bV:=au.back aW [(62,1)] (by decide);clear aW au
 have cO:=bV.oz [62,60,61,63,64,65,66,67,68,69,70,71,72,73,75,76,77]
 refine⟨_,rfl,?_⟩;intro Y U
 refine gz cN U (.pickT rfl rfl<|.assign rfl<|.nil) fun Y U =>?_
 refine rt1 U ?_
 exact⟨by(first|rfl|simp),cO.below⟩
end
section
theorem r8{bl sz:Int}{l:List (Int×List Int)}(h:mb bl sz l){x:Int×List Int}(hx:x∈l):0≤x.1∧x.1<bl∧(x.2.length:Int)=sz:=by
 obtain⟨j,hj,rfl⟩:=List.getElem_of_mem hx
 have h1:=h.2.2 j hj
 rw[List.getD,List.getElem?_eq_getElem hj] at h1
 exact⟨h1.1,h1.2.1,h1.2.2.1⟩
theorem sj{bl sz fi cnt:Int}{l:List (Int×List Int)}(h:mb bl sz l)(hne:0<(lu fi cnt l).length):mb cnt sz (lu fi cnt l):=by
 refine⟨hne,Nat.le_trans (oR fi cnt l) h.2.1,?_⟩
 have hu:(lu fi cnt l).Pairwise fun x y=>x.1≠y.1:=by
   unfold lu
   rw[List.pairwise_map]
   refine((pZ h).filter _).imp ?_
   intro a b hab e
   exact hab (by have e':a.1 - fi=b.1 - fi:=e;omega)
 intro j hj
 have hm:(lu fi cnt l)[j]∈lu fi cnt l:=List.getElem_mem hj
 have hg:(lu fi cnt l).getD j i0=(lu fi cnt l)[j]:=by rw[List.getD,List.getElem?_eq_getElem hj];rfl
 rw[hg]
 have hb:0≤((lu fi cnt l)[j]).1∧((lu fi cnt l)[j]).1<cnt∧((((lu fi cnt l)[j]).2.length:Nat):Int)=sz:=by
   revert hm
   generalize (lu fi cnt l)[j]=z
   intro hm
   unfold lu at hm
   obtain⟨x,hx,rfl⟩:=List.mem_map.1 hm
   have h1:=List.mem_filter.1 hx
   have h2:=of_decide_eq_true h1.2
   have h3:=r8 h h1.1
   exact⟨by show 0≤x.1 - fi;omega,by show x.1 - fi<cnt;omega,h3.2.2⟩
 refine⟨hb.1,hb.2.1,hb.2.2,?_⟩
 rintro⟨e,he,e1⟩
 obtain⟨i,hi,rfl⟩:=List.getElem_of_mem he
 rw[List.length_take] at hi
 rw[List.getElem_take] at e1
 exact(List.pairwise_iff_getElem.1 hu) i j (by omega) hj (by omega) e1
theorem qG{fi cnt:Int}{W:List PWr}{e:PWr}(he:e∈lI fi cnt W):0<e.2.length:=by
 unfold lI at he
 exact of_decide_eq_true (List.mem_filter.1 he).2
theorem yF{bl sz:Int}{ws:List PWr}(hw:oD bl sz ws ws.length)(hwl:ws.length≤1000000){vo ch fi cnt fl2:Int}(hsh:nW vo ch cnt sz){mk tq:Nat}(hmk:mk≤tq)(htq:tq≤ws.length)(h4:tq≤mk+4)(hfl2:0≤fl2∧fl2≤tq):nA vo ch cnt sz mk tq fl2 (lI fi cnt ((ws.take tq).drop mk)):=by
 refine⟨hsh,by omega,by omega,hfl2,?_,?_⟩
 · refine Nat.le_trans (qH _ _ _) ?_
   rw[List.length_drop,List.length_take];omega
 have hR:(lI fi cnt ((ws.take tq).drop mk)).Pairwise fun a b=>a.1<b.1:=rm ((sg hw).take).drop
 have hM:∀ e∈lI fi cnt ((ws.take tq).drop mk),(mk:Int)<e.1∧e.1≤tq∧mb cnt sz e.2:=by
   intro e he
   have h0:=qG he
   obtain⟨w,hwm,rfl⟩:=qx he
   have h2:=sf hw (List.mem_of_mem_drop hwm)
   exact⟨uN (e:=w) hw hwm,h2.2,sj (q9 hw (List.mem_of_mem_take (List.mem_of_mem_drop hwm))).1 h0⟩
 intro j hj
 have hg:(lI fi cnt ((ws.take tq).drop mk)).getD j w1=(lI fi cnt ((ws.take tq).drop mk))[j]:=by rw[List.getD,List.getElem?_eq_getElem hj];rfl
 rw[hg]
 have h1:=hM _ (List.getElem_mem hj)
 refine⟨?_,h1.2.1,h1.2.2⟩
 split
 · exact h1.1
 have hg2:(lI fi cnt ((ws.take tq).drop mk)).getD (j - 1) w1=(lI fi cnt ((ws.take tq).drop mk))[j - 1]'(by omega):=by rw[List.getD,List.getElem?_eq_getElem (by omega)];rfl
 rw[hg2]
 exact(List.pairwise_iff_getElem.1 hR) (j - 1) j (by omega) hj (by omega)
theorem xt{bl sz:Int}{ws:List PWr}(hw:oD bl sz ws ws.length)(hsz:sz≤32){fi fl:Int}{cnt m:Nat}(hm:m≤1000):HB 900000 (tL ws fi cnt m fl):=fun h hh=>by
 have h1:=uS hw hh
 exact⟨h1.1,by omega,fun v hv=>by have:=(h1.2.1 v hv).2.2;omega,by decide⟩
theorem tM{bl pe ch:Int}{len:Nat}(h1:1≤pe)(h2:pe≤bl)(h3:bl≤256)(hl:(len:Int)=(bl+pe - 1) / pe)(hc:0≤ch∧ch<len):0≤ch*pe∧ch*pe≤1000000∧1≤bl - ch*pe:=by
 have q1:=Int.ediv_mul_le (bl+pe - 1) (show pe≠0 by omega)
 rw[← hl] at q1
 have q3:0≤ch*pe:=Int.mul_nonneg hc.1 (by omega)
 have q4:ch*pe≤((len:Int) - 1)*pe:=Int.mul_le_mul_of_nonneg_right (by omega) (by omega)
 rw[Int.sub_mul,Int.one_mul] at q4
 exact⟨q3,by omega,by omega⟩
structure CkOk (y:VolV) (k fn cnt:Nat):Prop where
 kp:k<y.place.length
 fe:(fn:Int)=(k:Int)*y.pe
 ce:(cnt:Int)=min y.pe (y.bl - fn)
 pos:1≤cnt
 top:fn+cnt≤y.bl.toNat
 k255:k≤255
 c256:cnt≤256
 fnb:fn≤1000
theorem Ay{y:VolV}{n k:Nat}(hS:VolS n y)(hk:k<y.place.length):∃ fn cnt,CkOk y k fn cnt:=by
 obtain⟨v1,-⟩:=hS.1
 obtain⟨n1,n2,n3,n4,n5,n6,n7,n8,n9,n10,n11⟩:=v1
 have h:=tM n7 n8 n4 n9.2 (ch:=(k:Int)) ⟨by omega,by omega⟩
 have hkb:(k:Int)≤(k:Int)*y.pe:=by
   have:=Int.mul_le_mul_of_nonneg_left n7 (show(0:Int)≤k by omega)
   omega
 exact⟨((k:Int)*y.pe).toNat,(min y.pe (y.bl - (k:Int)*y.pe)).toNat,hk,by omega,by omega,by omega,by omega,by omega,by omega,by omega⟩
def tqN(y:VolV)(m:Nat):Nat:=min (m+4) y.ws.length
def pwN(y:VolV)(fn cnt m:Nat):List PWr:=lI (fn:Int) (cnt:Int) ((y.ws.take (tqN y m)).drop m)
def chN(y:VolV)(fn cnt m:Nat):List (List Ver):=tL y.ws (fn:Int) cnt m (min y.fl (m:Int))
theorem ut(y:VolV)(fn cnt m:Nat):(chN y fn cnt m).length=cnt:=mv _ _ _ _ _
structure VolF (y:VolV):Prop where
 wr:oD y.bl y.sz y.ws y.ws.length
 wl:y.ws.length≤1000
 fl0:0≤y.fl
 fl1:y.fl≤y.ws.length
 vo:0≤y.vo∧y.vo≤7
 bl:1≤y.bl∧y.bl≤256
 sz:1≤y.sz∧y.sz≤32
 pe:1≤y.pe∧y.pe≤y.bl
theorem VolS.f{y:VolV}{n:Nat}(hS:VolS n y)(hn:n≤1000):VolF y:=by
 obtain⟨v1,v2,v3,v4,v5,v6,v7,v8,v9⟩:=hS.1
 obtain⟨n1,n2,n3,n4,n5,n6,n7,n8,n9,n10,n11⟩:=v1
 have:=hS.2.2.2.1
 exact⟨v9,by omega,v6,v7,⟨n1,n2⟩,⟨n3,n4⟩,⟨n5,n6⟩,⟨n7,n8⟩⟩
theorem CkOk.sh{y:VolV}{k fn cnt:Nat}(h:CkOk y k fn cnt)(hF:VolF y):nW y.vo k cnt y.sz:=⟨hF.vo,⟨by omega,by have:=h.k255;omega⟩,⟨by have:=h.pos;omega,by have:=h.c256;omega⟩,hF.sz⟩
theorem zr{y:VolV}{k fn cnt:Nat}(h:CkOk y k fn cnt)(hF:VolF y){m:Nat}(hm:m≤y.ws.length):nA y.vo k cnt y.sz m (tqN y m) (min y.fl (tqN y m)) (pwN y fn cnt m):=by
 have:=hF.wl;have:=hF.fl0
 exact yF hF.wr (by omega) (h.sh hF) (by unfold tqN;omega) (by unfold tqN;omega) (by unfold tqN;omega) (by omega)
theorem wn{y:VolV}{k fn cnt:Nat}(h:CkOk y k fn cnt)(hF:VolF y){m:Nat}(hm:m≤y.ws.length):(lP m (chN y fn cnt m) (pwN y fn cnt m)).map (fun x=>lr x (min y.fl (tqN y m)))=chN y fn cnt (tqN y m):=by
 have:=hF.wl
 have h1:=uQ hF.wr (by omega) (fi:=fn) (fl:=min y.fl (m:Int)) (fl2:=min y.fl (tqN y m)) (cnt:=cnt) (mk:=m) (m:=m) (tq:=tqN y m) (Nat.le_refl _) hm (by unfold tqN;omega)
 rw[show max m (tqN y m)=tqN y m by unfold tqN;omega] at h1
 exact h1
end
section
theorem pD(X:Cx)(y:VolV)(k fn cnt m:Nat)(hC:CkOk y k fn cnt)(hF:VolF y)(hwo:rT y.ws)(pp pn pw:Option Addr)(cp nn9 cn9 cw:Nat)(mi:Int)(w0:World)(hmi:mi=(m:Int))(hm:m≤y.ws.length)(m0:MemOk X w0 [(3,.dat (.slice pw (y.ws.map wrD).length cw) (.l 2 (y.ws.map wrD)))] w0) :
   Calls Tryz.prog 36 #[.agg #[.int .i64 y.vo,.int .i64 y.bl,.int .i64 y.sz,.int .i64 y.pe,.slice pp y.place.length cp,.int .i64 y.to,.int .i64 y.ne,.bool y.hi,.int .i64 y.fl,.slice pn nn9 cn9,.slice pw (y.ws.map wrD).length cw],.int .i64 (k:Int),.int .i64 mi] w0 fun e w' => ∃ (p:Option Addr) (c:Nat),e=.returned (.tuple #[.agg #[.int .i64 y.vo,.int .i64 (k:Int),.int .i64 (cnt:Int),.int .i64 y.sz,.int .i64 mi,.int .i64 (tqN y m:Int),.int .i64 (min y.fl (tqN y m:Int)),.slice p (pwN y fn cnt m).length c],.bool true])∧MemOk X w0 [(3,.dat (.slice pw (y.ws.map wrD).length cw) (.l 2 (y.ws.map wrD))),(9,.dat (.slice p (pwN y fn cnt m).length c) (.l 2 ((pwN y fn cnt m).map wrD)))] w':=by
 subst hmi
 have hw:=hF.wr;have hl:=hF.wl;have hk:=hC.kp;have h1:=hC.fe;have h2:=hC.ce;have h3:=hC.pos;have h4:=hC.fnb;have hb:=hF.bl;have hp:=hF.pe
 have h:=ux X y.vo y.bl y.sz y.pe y.to y.ne y.fl y.hi pp pn pw cp nn9 cn9 cw y.place y.ws (k:Int) (fn:Int) (cnt:Int) m (tqN y m) w0 ⟨by omega,by omega⟩ hp.1 h1.symm ⟨by omega,by omega⟩ ⟨by omega,by omega⟩ h2.symm (by omega) (by omega) hwo (fun e he x hx=>⟨(r8 (q9 hw he).1 hx).1,(r8 (q9 hw he).1 hx).2.1⟩) hm (by unfold tqN;omega) m0
 refine h.mono fun e w' h9 =>?_
 obtain⟨p,c,h5,h6⟩:=h9
 rw[List.length_map] at h5
 have h7:(List.map wrD (lI (fn:Int) (cnt:Int) ((y.ws.take (tqN y m)).drop m))).length=(pwN y fn cnt m).length:=List.length_map ..
 rw[h7] at h6
 exact⟨p,c,h5,h6⟩
theorem uy(y:VolV)(pp pn pw:Option Addr)(np cp nn9 cn9 cw:Nat)(w0:World) :
   Calls Tryz.prog 37 #[.agg #[.int .i64 y.vo,.int .i64 y.bl,.int .i64 y.sz,.int .i64 y.pe,.slice pp np cp,.int .i64 y.to,.int .i64 y.ne,.bool y.hi,.int .i64 y.fl,.slice pn nn9 cn9,.slice pw (y.ws.map wrD).length cw]] w0 fun e w'=>e=.returned (.int .i64 (y.ws.length:Int))∧Below w0.heap.size w0 w':=by
 have h:=me y.vo y.bl y.sz y.pe y.to y.ne y.fl y.hi pp pn pw np cp nn9 cn9 (y.ws.map wrD).length cw w0
 rw[List.length_map] at h
 rw[List.length_map]
 exact h
end
section
theorem yG:lR Tryz.prog 39 [.int .i64 0,.int .i64 0,.int .i64 0,.int .i64 0,.int .i64 0,.int .i64 0,.slice none 0 0]=true:=by kernel_rfl
theorem xq(X:Cx)(vo ch sz fr to fl:Int)(n9:Nat)(pw:Option Addr)(nw cw:Nat)(w0:World)(hn:n9≤256)(m0:MemOk X w0 [] w0) :
   Calls Tryz.prog 22 #[.agg #[.int .i64 vo,.int .i64 ch,.int .i64 n9,.int .i64 sz,.int .i64 fr,.int .i64 to,.int .i64 fl,.slice pw nw cw]] w0 fun e w' => ∃ (p9:Option Addr) (c9:Nat),e=.returned (.agg #[.int .i64 vo,.int .i64 ch,.int .i64 n9,.int .i64 sz,.int .i64 0,.int .i64 0,.slice p9 n9 c9])∧MemOk X w0 [(9,.row (.slice p9 n9 c9) 94 1 ((List.replicate n9 ([]:List Ver)).map hD))] w':=by
 refine mp Tryz.func22 rfl Tryz.ntmps22 fun Y U =>?_
 refine zsr fun K0 hK0 =>?_
 refine plz (ly U m0 20 (cs:=[_,_,_,_,_,_,_,_]) rfl rfl rfl fun g1 Y w2 U m2 _ _ =>?_)
 refine plz (lc U m2 21 oV rfl fun g3 Y w4 U m4 _ _ =>?_)
 refine znl (hK0 _ _ ?_)
 refine wsk fun K1 hK1 =>?_
 have m5:=m4.oz [20,21]
 refine region_p 14 (B:=[(20,_),(21,_)]) (m5.to i2l) m5 (by kernel_rfl) (fun w6 hP6 m6 =>?_);clear m5
 refine goR hP6 [0,1,2,3,4,5,6,7,8,9,10,11] [1,3,5,7,9] 12 0 4095 U (m6.to i2l) (.fa 0 rfl U25<|.lb hh 20 U3 rfl rfl rfl<|.fa 1 rfl U25<|.lb hh 20 U3 rfl rfl rfl<|.fa 2 rfl U25<|.lb hh 20 U3 rfl rfl rfl<|.fa 3 rfl U25<|.lb hh 20 U3 rfl rfl rfl<|.fa 2 rfl U25<|.lb hh 20 U3 rfl rfl rfl<|.p (fun _ _ h_=>oK h_ rfl rfl (r:=(n9:Int)) (by omega))<|.p (fun _ _ h_=>qN h_ rfl rfl (r:=(n9:Int)) (by omega)) .nil) fun Y U =>?_
 refine so 12 ?_
 refine uB U m6 22 (n9) 2 rfl rfl rfl rfl U37 ue (by decide) (by omega) rfl fun ac ad Y ae U aa =>?_
 refine⟨aa.to i2l,?_⟩
 refine goA hP6 [13] 1 8191 16383 U (aa.to i2l) (.build rfl oV yG rfl (by dsimp only [l9,List.set] <;> rfl) .nil) fun Y U =>?_
 refine se 14 ?_
 refine stw U aa 21 lH fun ag ab _ =>?_
 refine wad ?_
 refine hK1 _ _ ?_
 refine rtd (mK (fn:=Tryz.f22) U ab (i:=21) rfl rfl rfl U39 rfl lH ?_)
 have hE:List.replicate n9 [D.l 2 []]=(List.replicate n9 ([]:List Ver)).map hD:=by rw[List.map_replicate];rfl
 rw[hE] at ab
 exact⟨_,_,rfl,ab.ren [(9,22)] (by decide)⟩
end
section
theorem zJ(X:Cx)(y:VolV)(k fn cnt:Nat)(hC:CkOk y k fn cnt)(hF:VolF y)(mi tq fl:Int)(pw:Option Addr)(nw cw:Nat)(w0:World)(m0:MemOk X w0 [] w0) :
   Calls Tryz.prog 22 #[.agg #[.int .i64 y.vo,.int .i64 (k:Int),.int .i64 (cnt:Int),.int .i64 y.sz,.int .i64 mi,.int .i64 tq,.int .i64 fl,.slice pw nw cw]] w0 fun e w' => ∃ (p9:Option Addr) (c9:Nat),e=.returned (.agg #[.int .i64 y.vo,.int .i64 (k:Int),.int .i64 (cnt:Int),.int .i64 y.sz,.int .i64 0,.int .i64 0,.slice p9 cnt c9])∧MemOk X w0 [(9,.row (.slice p9 cnt c9) 94 1 ((chN y fn cnt 0).map hD))] w':=by
 have h:=xq X y.vo (k:Int) y.sz mi tq fl cnt pw nw cw w0 hC.c256 m0
 rw[← uR y.ws (fn:Int) cnt (min y.fl ((0:Nat):Int))] at h
 exact h
theorem wt(X:Cx)(y:VolV)(k fn cnt m:Nat)(hC:CkOk y k fn cnt)(hF:VolF y)(mi fi:Int)(p pw:Option Addr)(c cw:Nat)(w0:World)(hmi:mi=(m:Int))(hfi:fi=min y.fl (m:Int))(hm:m≤y.ws.length)(m0:MemOk X w0 [(1,.dat (.slice p cnt c) (.l 1 ((chN y fn cnt m).map hD))),(2,.dat (.slice pw (pwN y fn cnt m).length cw) (.l 2 ((pwN y fn cnt m).map wrD)))] w0) :
   Calls Tryz.prog 18 #[.agg #[.int .i64 y.vo,.int .i64 (k:Int),.int .i64 (cnt:Int),.int .i64 y.sz,.int .i64 mi,.int .i64 fi,.slice p cnt c],.agg #[.int .i64 y.vo,.int .i64 (k:Int),.int .i64 (cnt:Int),.int .i64 y.sz,.int .i64 mi,.int .i64 (tqN y m:Int),.int .i64 (min y.fl (tqN y m:Int)),.slice pw (pwN y fn cnt m).length cw]] w0 fun e w' => ∃ (p9:Option Addr) (c9:Nat),e=.returned (.agg #[.int .i64 y.vo,.int .i64 (k:Int),.int .i64 (cnt:Int),.int .i64 y.sz,.int .i64 (tqN y m:Int),.int .i64 (min y.fl (tqN y m:Int)),.slice p9 cnt c9])∧MemOk X w0 [(1,.dat (.slice p cnt c) (.l 1 ((chN y fn cnt m).map hD))),(2,.dat (.slice pw (pwN y fn cnt m).length cw) (.l 2 ((pwN y fn cnt m).map wrD))),(9,.row (.slice p9 cnt c9) 94 1 ((chN y fn cnt (tqN y m)).map hD))] w':=by
 subst hmi hfi
 have hl:=hF.wl
 have h:=sN X y.vo (k:Int) (cnt:Int) y.sz (m:Int) (min y.fl (m:Int)) (m:Int) (tqN y m:Int) (min y.fl (tqN y m:Int)) (chN y fn cnt m) (pwN y fn cnt m) p pw cnt c (pwN y fn cnt m).length cw w0 (xt hF.wr hF.sz.2 (by omega)) (by rw[ut]) (zr hC hF hm) (Int.le_refl _) m0
 rw[show max (m:Int) (tqN y m:Int)=(tqN y m:Int) by unfold tqN;omega,show max (min y.fl (m:Int)) (min y.fl (tqN y m:Int))=min y.fl (tqN y m:Int) by unfold tqN;omega,wn hC hF hm] at h
 exact h
theorem vO(X:Cx)(y:VolV)(k fn cnt:Nat)(hC:CkOk y k fn cnt)(hF:VolF y)(hwo:rT y.ws)(pp pn pw:Option Addr)(cp nn9 cn9 cw:Nat)(mark:Int)(w0:World)(m0:MemOk X w0 [(3,.dat (.slice pw (y.ws.map wrD).length cw) (.l 2 (y.ws.map wrD)))] w0) :
   Calls Tryz.prog 10 #[.agg #[.int .i64 y.vo,.int .i64 y.bl,.int .i64 y.sz,.int .i64 y.pe,.slice pp y.place.length cp,.int .i64 y.to,.int .i64 y.ne,.bool y.hi,.int .i64 y.fl,.slice pn nn9 cn9,.slice pw (y.ws.map wrD).length cw],.int .i64 (k:Int),.int .i64 mark] w0 fun e w' => ∃ (m:Nat) (pc:Option Addr) (cc:Nat),m≤y.ws.length∧(mark≤(m:Int)∨m=y.ws.length)∧e=.returned (.agg #[.int .i64 y.vo,.int .i64 (k:Int),.int .i64 (cnt:Int),.int .i64 y.sz,.int .i64 (m:Int),.int .i64 (min y.fl (m:Int)),.slice pc cnt cc])∧MemOk X w0 [(3,.dat (.slice pw (y.ws.map wrD).length cw) (.l 2 (y.ws.map wrD))),(9,.dat (.slice pc cnt cc) (.l 1 ((chN y fn cnt m).map hD)))] w':=by
 refine qr Tryz.func10 rfl Tryz.ntmps10 fun Y U =>?_
 have hf0:=hF.fl0
 refine zsr fun K0 hK0 =>?_
 refine plz (ly U m0 60 (cs:=[_,_,_,_,_,_,_,_,_,_,_]) rfl rfl rfl fun g1 Y w2 U m2 _ _ =>?_)
 refine plz (lc U m2 61 oV rfl fun g3 Y w4 U m4 _ _ =>?_)
 refine znl (hK0 _ _ ?_)
 refine zsr fun K1 hK1 =>?_
 refine k9 U (.loadBR m4 (i:=60) rfl rfl U34 rfl ld (by simp) (by dsimp only [List.drop,List.take] <;> rfl)<|.move rfl .nil) fun Y U =>?_
 refine plz (ecl U Tryz.func36 rfl (pD _ y k fn cnt 0 hC hF hwo _ _ _ _ _ _ _ _ _ rfl (Nat.zero_le _) (m4.into [(3,3)] (by decide) rfl)) ?_)
 rintro e w9 ⟨p9,c9,rfl,hm9⟩
 have mx9:=m4.back hm9 [(3,3),(62,9)] (by decide);clear hm9 m4
 have m9:=mx9.oz [3,62,60,61]
 refine⟨_,rfl,?_⟩;intro Y U
 refine k9 U (.move rfl<|.extract rfl rfl<|.extract rfl rfl .nil) fun Y U =>?_
 refine plz (lc U m9 63 mL rfl fun aG Y aH U ax _ _ =>?_)
 refine plz (stw U ax 63 lF fun aI ak _ =>?_)
 refine gz hK1 U (.assign rfl .nil) fun Y U =>?_
 replace U:=U.oz [1,2,3,6,7,8]
 refine zsr fun K2 hK2 =>?_
 refine k9 U (.loadBR ak (i:=63) rfl rfl U25 rfl lF (by simp) (by dsimp only [List.drop,List.take] <;> rfl) .nil) fun Y U =>?_
 refine plz (ecl U Tryz.func22 rfl (zJ _ y k fn cnt hC hF _ _ _ _ _ _ _ (ak.into [] (by decide) rfl)) ?_)
 rintro e aJ ⟨aK,aL,rfl,ag⟩
 have al:=ak.back ag [(64,9)] (by decide);clear ag ak
 have ay:=al.oz [64,3,60,61,62,63]
 refine⟨_,rfl,?_⟩;intro Y U
 refine plz (lc U ay 65 oV rfl fun aM Y aN U az _ _ =>?_)
 refine plz (stw U az 65 lH fun aO aA _ =>?_)
 refine znl (hK2 _ _ ?_)
 refine wsk fun K3 hK3 =>?_
 refine wp_block ?_
 have au:=aA.freezeR 64 rfl
 refine wp_loop_ghost (fun g a w => ∃ (m B3 B6 B7 B9:Nat) (pc:Option Addr) (cc:Nat) (a1 a2 a3 a4 a5 a6 a7:Int) (pq:Option Addr) (nq cq:Nat),m≤y.ws.length∧g=y.ws.length - m∧Has 44 [(1,.int .i64 (k:Int)),(2,.int .i64 mark),(3,.pointer (some ⟨B3,0,none⟩)),(6,.pointer (some ⟨B6,0,none⟩)),(7,.pointer (some ⟨B7,0,none⟩)),(8,.bool true),(9,.pointer (some ⟨B9,0,none⟩))] a∧MemOk X w0 [(3,.dat (.slice pw (y.ws.map wrD).length cw) (.l 2 (y.ws.map wrD))),(20,.box B3 34 [.int .i64 y.vo,.int .i64 y.bl,.int .i64 y.sz,.int .i64 y.pe,.slice pp y.place.length cp,.int .i64 y.to,.int .i64 y.ne,.bool y.hi,.int .i64 y.fl,.slice pn nn9 cn9,.slice pw (y.ws.map wrD).length cw]),(21,.box B6 39 [.int .i64 0,.int .i64 0,.int .i64 0,.int .i64 0,.int .i64 0,.int .i64 0,.slice none 0 0]),(22,.box B7 25 [.int .i64 a1,.int .i64 a2,.int .i64 a3,.int .i64 a4,.int .i64 a5,.int .i64 a6,.int .i64 a7,.slice pq nq cq]),(25,.box B9 39 [.int .i64 y.vo,.int .i64 (k:Int),.int .i64 (cnt:Int),.int .i64 y.sz,.int .i64 (m:Nat),.int .i64 (min y.fl (m:Nat)),.slice pc cnt cc]),(26,.dat (.slice pc cnt cc) (.l 1 ((chN y fn cnt m).map hD)))] w) (y.ws.length) ?_ ?_
 · have hz0:min y.fl ((0:Nat):Int)=0:=by omega
   exact⟨0,_,_,_,_,_,_,_,_,_,_,_,_,_,_,_,_,Nat.zero_le _,rfl,U.only [1,2,3,6,7,8,9],by rw[hz0];exact au.ren [(3,3),(20,60),(21,61),(22,63),(25,65),(26,64)] (by decide)⟩
 clear U au
 rintro g Y aP ⟨m,B3,B6,B7,B9,pc,cc,a1,a2,a3,a4,a5,a6,a7,pq,nq,cq,hmn,hg,U,aB⟩
 refine wsk fun K4 hK4 =>?_
 refine wsk fun K5 hK5 =>?_
 have ao:=aB.oz [3,20,21,22,25,26]
 refine region_p 14 (B:=[(3,_),(20,_),(21,_),(22,_),(25,_),(26,_)]) (ao.to i6l) ao (by kernel_rfl) (fun aQ ac ae =>?_);clear ao
 refine goR ac [0,1,2,3,4,5,6,7] [3] 8 0 255 U (ae.to i6l) (.move rfl<|.move rfl<|.fa 4 rfl U39<|.lb hh 25 U2 rfl rfl rfl<|.move rfl<|.lss rfl rfl<|.pickT rfl rfl<|.move rfl .nil) fun Y U =>?_
 refine bc U 25 ?_ ?_
 ·
  intro aa U;try simp only [QQ,Qax] at aa
  have hlm:(m:Int)<mark:=by have:=aa;first|omega|(simp at this;omega)
  refine goR ac [8,9,10] [9,10] 3 255 2047 U (ae.to i6l) (.fa 4 rfl U39<|.lb hh 25 U2 rfl rfl rfl<|.loadBR hh (i:=20) rfl rfl U34 rfl ld (by simp) (by dsimp only [List.drop,List.take] <;> rfl) .nil) fun Y U =>?_
  refine lh 11 rfl (by kernel_rfl) (lA U rfl rfl rfl rfl) (fun K hK =>?_)
  refine lG U Tryz.func37 rfl rfl rfl rfl (uy y _ _ _ _ _ _ _ _ _) ?_
  rintro e aR ⟨rfl,ap⟩
  have ad:=ae.later ap
  refine⟨_,rfl,?_⟩;intro Y U
  refine hK _ _ (ad.to i6l) ?_;clear hK K
  refine goA ac [12,13] 2 4095 16383 U (ad.to i6l) (.lss rfl rfl<|.pickT rfl rfl .nil) fun Y U =>?_
  refine wad ?_
  refine hK5 _ _ ?_
  refine bc U 31 ?_ ?_
  ·
   intro ab U;try simp only [QQ,Qax] at ab
   have hln:m<y.ws.length:=by have:=ab;first|omega|(simp at this;omega)
   refine wct U ?_
   refine zss (hK4 _ _ ?_)
   refine wp_block ?_
   replace U:=U.oz [1,2,3,6,7,8,9]
   refine zsr fun K6 hK6 =>?_
   refine k9 U (.loadBR ad (i:=20) rfl rfl U34 rfl ld (by simp) (by dsimp only [List.drop,List.take] <;> rfl)<|.move rfl<|.fa 4 rfl U39<|.lb ad 25 U2 rfl rfl rfl .nil) fun Y U =>?_
   refine plz (ecl U Tryz.func36 rfl (pD _ y k fn cnt m hC hF hwo _ _ _ _ _ _ _ _ _ rfl hmn (ad.into [(3,3)] (by decide) rfl)) ?_)
   rintro e aS ⟨aT,aU,rfl,ah⟩
   have aq:=ad.back ah [(3,3),(100,9)] (by decide);clear ah ad
   have aC:=aq.oz [3,100,20,21,22,25,26]
   refine⟨_,rfl,?_⟩;intro Y U
   refine k9 U (.move rfl<|.extract rfl rfl<|.extract rfl rfl .nil) fun Y U =>?_
   refine plz (stw U aC 22 lF fun aV ai _ =>?_)
   refine gz hK6 U (.assign rfl .nil) fun Y U =>?_
   replace U:=U.oz [1,2,3,6,7,8,9,39]
   refine wp_region_lit ?_
   refine k9 U (.loadBR ai (i:=25) rfl rfl U39 rfl lH (by simp) (by dsimp only [List.drop,List.take] <;> rfl)<|.loadBR ai (i:=22) rfl rfl U25 rfl lF (by simp) (by dsimp only [List.drop,List.take] <;> rfl) .nil) fun Y U =>?_
   refine plz (ecl U Tryz.func18 rfl (wt _ y k fn cnt m hC hF _ _ _ _ _ _ _ rfl rfl hmn (ai.into [(1,26),(2,100)] (by decide) rfl)) ?_)
   rintro e aW ⟨aX,aY,rfl,aj⟩
   have ar:=ai.back aj [(26,1),(100,2),(101,9)] (by decide);clear aj ai
   have aD:=ar.oz [26,100,101,3,20,21,22,25]
   refine⟨_,rfl,?_⟩;intro Y U
   refine plz (stw U aD 25 lH fun aZ aE _ =>?_)
   refine wpList_nil ?_
   show ∃ n',n'<_∧_
   have aF:=aE.freezeR 101 rfl
   exact⟨y.ws.length - tqN y m,by unfold tqN;omega,tqN y m,_,_,_,_,_,_,_,_,_,_,_,_,_,_,_,_,by unfold tqN;omega,rfl,U.only [1,2,3,6,7,8,9],aF.ren [(3,3),(20,20),(21,21),(22,22),(25,25),(26,101)] (by decide)⟩
  intro ab U;try simp only [QQ,Qax] at ab
  have hfin:mark≤(m:Int)∨m=y.ws.length:=.inr (by have:=ab;first|omega|(simp at this;omega))
  refine wcf U ?_
  refine wp_exit ?_
  refine hK3 _ _ ?_
  replace U:=U.oz [1,2,3,6,7,8,9]
  refine zsr fun K7 hK7 =>?_
  refine k9 U (.loadBR ad (i:=25) rfl rfl U39 rfl lH (by simp) (by dsimp only [List.drop,List.take] <;> rfl) .nil) fun Y U =>?_
  refine plz (stw U ad 21 lH fun a0 av _ =>?_)
  refine znl (hK7 _ _ ?_)
  refine rtd (mK (fn:=Tryz.f10) U av (i:=21) rfl rfl rfl U39 rfl lH ?_)
  exact⟨m,_,_,hmn,hfin,rfl,av.ren [(3,3),(9,26)] (by decide)⟩
 intro aa U;try simp only [QQ,Qax] at aa
 have hfin:mark≤(m:Int)∨m=y.ws.length:=.inl (by have:=aa;first|omega|(simp at this;omega))
 refine goA ac [8,9,10,11,12,13] 6 255 16383 U (ae.to i6l) (.s<|.s<|.s<|.s<|.s<|.pickF rfl rfl .nil) fun Y U =>?_
 refine wad ?_
 refine hK5 _ _ ?_
 refine wcf U ?_
 refine wp_exit ?_
 refine hK3 _ _ ?_
 replace U:=U.oz [1,2,3,6,7,8,9]
 refine zsr fun K8 hK8 =>?_
 refine k9 U (.loadBR ae (i:=25) rfl rfl U39 rfl lH (by simp) (by dsimp only [List.drop,List.take] <;> rfl) .nil) fun Y U =>?_
 refine plz (stw U ae 21 lH fun a8 aw _ =>?_)
 refine znl (hK8 _ _ ?_)
 refine rtd (mK (fn:=Tryz.f10) U aw (i:=21) rfl rfl rfl U39 rfl lH ?_)
 exact⟨m,_,_,hmn,hfin,rfl,aw.ren [(3,3),(9,26)] (by decide)⟩
end
section
theorem xr(a b:Nat):(a:Int).tmod b=((a % b:Nat):Int):=by rw[Int.tmod_eq_emod_of_nonneg (by omega)];rfl
theorem uT{y:VolV}{n:Nat}(hS:VolS n y):0<y.place.length:=by
 obtain⟨v1,-⟩:=hS.1
 obtain⟨n1,n2,n3,n4,n5,n6,n7,n8,n9,n10,n11⟩:=v1
 have h:(1:Int)≤(y.bl+y.pe - 1) / y.pe:=Int.le_ediv_of_mul_le (by omega) (by omega)
 have:=n9.2
 omega
theorem uU{y:VolV}{n:Nat}(hS:VolS n y):y.place.length≤1000:=by
 obtain⟨v1,-⟩:=hS.1
 obtain⟨n1,n2,n3,n4,n5,n6,n7,n8,n9,n10,n11⟩:=v1
 have h:(y.bl+y.pe - 1) / y.pe≤y.bl+y.pe - 1:=Int.ediv_le_self _ (by omega)
 have:=n9.2
 omega
end
section
def rdF(y:VolV)(fn cnt m i:Nat)(t:Int):List Int:=(atF ((chN y fn cnt m).getD i []) t).getD (List.replicate y.sz.toNat 0)
end
end Go.Proofs.YteglmahnkfgelaaGreat.K
