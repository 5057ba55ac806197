/- General laws of walks. -/
import Derived.Test.YtkehgingagggaaaGreatG8
import Derived.Test.YtkehgingagggaaaGreatG4
import Derived.Sort.OwnSortedInts
import Derived.Shelf.SlGeneric
import Derived.Shelf.SortG.Plain
import Derived.Shelf.SortG.SortNone
import Derived.Shelf.SlicesG.Delete
import Derived.Shelf.SlicesG.Turned
import Derived.Ground.SlgnProg
import Derived.Test.YtkehgingagggaaaGreatProg
namespace Go.Proofs.YtkehgingagggaaaGreat.K
open Go.ChangeShapes Go.WideShapes Go.ChangeAt Go.RowKit
set_option linter.unusedVariables false
set_option linter.unusedSimpArgs false
set_option maxRecDepth 100000
set_option maxHeartbeats 4000000
set_option autoImplicit true
set_option relaxedAutoImplicit true
section
theorem wv:iO Tryz.prog 103 [.int .i64 0,.slice none 0 0]=true:=by kernel_rfl
theorem uh:iO Tryz.prog 44 [.int .i64 0,.int .i64 0,.int .i64 0,.int .i64 0,.slice none 0 0]=true:=by kernel_rfl
open Classical in
noncomputable def wrR(bl sz:Int)(ws:List (Int×List (Int×List Int)))(it:List (Int×List Int)):List (Int×List (Int×List Int))×Int:=if kb bl sz it then (ws++[((ws.length:Int)+1,it)],0) else (ws,23)
abbrev ya:=Int×Bool×Int×List (Int×List (Int×List Int))×Int
noncomputable def q5(bl sz ne fl:Int)(hi:Bool)(ws:List (Int×List (Int×List Int)))(it:List (Int×List Int)):ya:=if hi=true then (ne,hi,fl,ws,28) else (ne,hi,fl,(wrR bl sz ws it).1,(wrR bl sz ws it).2)
def iJ(hi:Bool)(fl at0 nd:Int):Int:=if hi=true then 28 else if at0<fl then 30 else if nd<at0 then 31 else 0
def ka(ne fl:Int)(hi:Bool)(pins:List Int)(ws:List (Int×List (Int×List Int)))(at0:Int):ya:=if iJ hi fl at0 (nO ws.length pins)=0 then (ne,hi,at0,ws,0) else (ne,hi,fl,ws,iJ hi fl at0 (nO ws.length pins))
noncomputable def takeR(bl sz to ne fl:Int)(hi:Bool)(ws:List (Int×List (Int×List Int)))(ix:Int)(it:List (Int×List Int)):ya:=
 if hi=false then (ne,hi,fl,ws,33) else if 0≤ix∧ix≤ne - 1 then (ne,hi,fl,ws,0) else if ix≠ne∨ne=to then (ne,hi,fl,ws,33)
 else if (wrR bl sz ws it).2=0 then (ne+1,hi,fl,(wrR bl sz ws it).1,0) else (ne,hi,fl,(wrR bl sz ws it).1,(wrR bl sz ws it).2)
def jd(to ne fl:Int)(hi:Bool)(ws:List (Int×List (Int×List Int))):ya:=if hi=false∨ne≠to then (ne,hi,fl,ws,33) else (ne,false,(ws.length:Int),ws,0)
noncomputable def doR(bl sz to ne fl:Int)(hi:Bool)(pins:List Int)(ws:List (Int×List (Int×List Int)))(kd at0 ix:Int)(it:List (Int×List Int)):ya:=
 if kd=2 then q5 bl sz ne fl hi ws it else if kd=3 then ka ne fl hi pins ws at0 else if kd=6 then takeR bl sz to ne fl hi ws ix it
 else if kd=7 then jd to ne fl hi ws else if kd=8 then (ne,hi,fl,ws,0) else (ne,hi,fl,ws,23)
theorem yc(vo bl sz pe to ne fl:Int)(hi)(place pins:List Int)(ws:List (Int×List (Int×List Int)))(pp pn pw:Option Addr)(cp cn9 cw:Nat)(nn)(w0:World)(h1:Rd (fun _=>True) w0 (.slice pn pins.length cn9) (.ns .i64 pins))(hp:pins.length≤1000000)(hnn:nn=ws.length:=by simp) :
   Calls Tryz.prog 170 #[.agg #[.int .i64 vo,.int .i64 bl,.int .i64 sz,.int .i64 pe,.slice pp place.length cp,.int .i64 to,.int .i64 ne,.bool hi,.int .i64 fl,.slice pn pins.length cn9,.slice pw nn cw]] w0 fun e w'=>e=.returned (.int .i64 (nO ws.length pins))∧Below w0.heap.size w0 w':=by
 subst hnn;exact wy vo bl sz pe to ne fl hi place pins ws pp pn pw cp cn9 cw w0 h1 hp
theorem ui(X B)(vo bl sz pe to ne fl:Int)(hi)(place pins:List Int)(ws:List (Int×List (Int×List Int)))(items:List (Int×List Int))(pp pn pw:Option Addr)(cp cn9 cw:Nat)(pi ci w0)(hl:ws.length≤900000)(hil:items.length≤1000000)(hio:j3 items)(m0:MemOk X w0 [(1,.box B 51 [.int .i64 vo,.int .i64 bl,.int .i64 sz,.int .i64 pe,.slice pp place.length cp,.int .i64 to,.int .i64 ne,.bool hi,.int .i64 fl,.slice pn pins.length cn9,.slice pw (ws.map wrD).length cw]),(2,.seg (.slice pw (ws.map wrD).length cw) 103 2 (ws.map wrD)),(3,.dat (.slice pi items.length ci) (.l 2 (items.map itD)))] w0) :
   Calls Tryz.prog 168 #[.pointer (some ⟨B,0,none⟩),.slice pi items.length ci] w0 fun e w' => ∃ (ws':List (Int×List (Int×List Int))) (e9:Int) (pw':Option Addr) (cw':Nat),e=.returned (.int .i64 e9)∧wrR bl sz ws items=(ws',e9)∧MemOk X w0 [(1,.box B 51 [.int .i64 vo,.int .i64 bl,.int .i64 sz,.int .i64 pe,.slice pp place.length cp,.int .i64 to,.int .i64 ne,.bool hi,.int .i64 fl,.slice pn pins.length cn9,.slice pw' (ws'.map wrD).length cw']),(2,.seg (.slice pw' (ws'.map wrD).length cw') 103 2 (ws'.map wrD)),(3,.dat (.slice pi items.length ci) (.l 2 (items.map itD)))] w':=by
 refine iZ Tryz.func168 rfl Tryz.ntmps168 fun Y U=>hC U (.assign rfl .nil) fun Y U=>wsk fun K0 hK0=>wsk fun K1 hK1 =>?_
 have m2:=m0.oz [1,2,3]
 refine region_p 11 (B:=[(1,_),(2,_),(3,_)]) (m2.to i3l) m2 (by kernel_rfl) (fun w3 hP3 m3 =>?_);clear m2
 refine goR hP3 [0,1,2,3,4,5,6,7,8] [3,7] 9 0 511 U (m3.to i3l) (.move rfl<|.nilCheck rfl<|.fa 1 rfl U51<|.lb hh 1 U3 rfl rfl rfl<|.move rfl<|.nilCheck rfl<|.fa 2 rfl U51<|.lb hh 1 U3 rfl rfl rfl<|.move rfl .nil) fun Y U=>so 9 ?_
 refine ecl U Tryz.func113 rfl (ko _ _ items _ _ _ _ ((m3.rd (i:=3) rfl).any) hil) ?_
 rintro e ar ⟨ib,rfl,hib,ag⟩
 have ac:=m3.later ag
 refine⟨_,rfl,?_⟩;intro Y U
 refine⟨ac.to i3l,?_⟩
 refine goA hP3 [10] 1 1023 2047 U (ac.to i3l) (.not rfl .nil) fun Y U=>wad<|hK1 _ _<|bc U 15 ?_ ?_
 ·
  intro ab U;try simp only [QQ,Qax] at ab
  refine wct U ?_
  replace U:=U.oz [0,1,4,15]
  refine hC U (.assign rfl .nil) fun Y U=>rt1 U ?_
  exact⟨ws,23,_,_,rfl,by rw[wrR,if_neg (fun h=>by have h9:=hib.2 h;simp_all)],ac.only [1,2,3]⟩
 intro ab U;try simp only [QQ,Qax] at ab
 refine wcf U<|zss<|hK0 _ _<|wsk fun K2 hK2 =>?_
 replace U:=U.oz [0,1,4,15]
 have ah:=ac.oz [1,2,3]
 refine region_p 14 (B:=[(1,_),(2,_),(3,_)]) (ah.to i3l) ah (by kernel_rfl) (fun au aa ak =>?_);clear ah
 refine goR aa [0,1,2,3,4,5,6,7,10] [4,7] 9 0 1279 U (ak.to i3l) (.move rfl<|.move rfl<|.nilCheck rfl<|.fa 10 rfl U51<|.lb hh 1 U49 rfl rfl rfl<|.move rfl<|.nilCheck rfl<|.loadBR hh (i:=1) rfl rfl U51 rfl hH (by simp) (by dsimp only [List.drop,List.take] <;> rfl)<|.move rfl .nil) fun Y U=>so 8 ?_
 refine ecb U Tryz.func111 rfl ak (je _ _ _ _ _ _ _ _ _ _ _ _ _ _ _ _ _ _) fun Y av U ad=>⟨ad.to i3l,?_⟩
 refine goA aa [9] 1 1535 2047 U (ad.to i3l) (.add rfl rfl (r:=(ws.length:Int)+1) (by rw[List.length_map];exact IntWalk.i64_in _ (by omega)) .nil) fun Y U=>so 11 ?_
 refine ecl U Tryz.func137 rfl (nP items _ _ _ _ ((ad.rd (i:=3) rfl).any) hil hio) ?_
 rintro e aw ⟨ax,ay,rfl,ai,aj⟩
 have ae:=ad.callF 20 rfl aj ai
 refine⟨_,rfl,?_⟩;intro Y U
 refine⟨ae.to i3l,?_⟩
 refine goA aa [12] 1 4095 8191 U (ae.to i3l) (.build rfl qr wv rfl (by dsimp only [iY,List.set] <;> rfl) .nil) fun Y U=>so 13 ?_
 refine iN U ae 21 (mm:=2) rfl (.cons rfl rfl (.cons (.v _) (.cons (ae.rd (i:=20) rfl) .nil)) .nil) U49 pV rfl rfl rfl rfl rfl fun az Y aA U al=>⟨al.to i3l,?_⟩
 have ao:=al.freezeR 21 rfl
 refine se 14 ?_
 refine nY U ao 2 rfl rfl rfl (ao.rd (i:=21) rfl).cells U49 pV rfl rfl (by decide) (by simp;omega) rfl fun aB aC Y aD U aq=>goB aa [15,16] 2 32767 131071 U (.nilCheck rfl<|.fa 10 rfl U51 .nil) fun Y U=>se 17 ?_
 refine st1 U aq 1 n5 fun aE ap _ =>?_
 refine wad<|hK2 _ _ ?_
 replace U:=U.oz [4,15]
 refine hC U (.assign rfl .nil) fun Y U=>rt1 U ?_
 have hE:ws.map wrD++[[D.v (.int .i64 ((ws.length:Int)+1)),.l 2 (items.map itD)]]=(ws++[((ws.length:Int)+1,items)]).map wrD:=by rw[List.map_append];rfl
 rw[hE] at ap
 exact⟨(ws++[((ws.length:Int)+1,items)]),0,_,_,rfl,by rw[wrR,if_pos (hib.1 (by simp_all))],ap.only [1,2,3]⟩
theorem zG(X B)(vo bl sz pe to ne fl:Int)(hi)(place pins:List Int)(ws:List (Int×List (Int×List Int)))(items:List (Int×List Int))(pp pn pw:Option Addr)(cp cn9 cw:Nat)(pi ci w0)(hl:ws.length≤900000)(hil:items.length≤1000000)(hio:j3 items)(m0:MemOk X w0 [(1,.box B 51 [.int .i64 vo,.int .i64 bl,.int .i64 sz,.int .i64 pe,.slice pp place.length cp,.int .i64 to,.int .i64 ne,.bool hi,.int .i64 fl,.slice pn pins.length cn9,.slice pw (ws.map wrD).length cw]),(2,.seg (.slice pw (ws.map wrD).length cw) 103 2 (ws.map wrD)),(3,.dat (.slice pi items.length ci) (.l 2 (items.map itD)))] w0) :
   Calls Tryz.prog 146 #[.pointer (some ⟨B,0,none⟩),.slice pi items.length ci] w0 fun e w' => ∃ (ne':Int) (hi':Bool) (fl':Int) (ws':List (Int×List (Int×List Int))) (e9:Int) (pw':Option Addr) (cw':Nat),e=.returned (.int .i64 e9)∧q5 bl sz ne fl hi ws items=(ne',hi',fl',ws',e9)∧MemOk X w0 [(1,.box B 51 [.int .i64 vo,.int .i64 bl,.int .i64 sz,.int .i64 pe,.slice pp place.length cp,.int .i64 to,.int .i64 ne',.bool hi',.int .i64 fl',.slice pn pins.length cn9,.slice pw' (ws'.map wrD).length cw']),(2,.seg (.slice pw' (ws'.map wrD).length cw') 103 2 (ws'.map wrD)),(3,.dat (.slice pi items.length ci) (.l 2 (items.map itD)))] w':=by
 refine iZ Tryz.func146 rfl Tryz.ntmps146 fun Y U=>hC U (.assign rfl .nil) fun Y U=>wsk fun K0 hK0=>hC U (.move rfl<|.nilCheck rfl<|.fa 7 rfl U51<|.lb m0 1 U4 rfl rfl rfl .nil) fun Y U=>bc U 8 ?_ ?_
 ·
  intro hb6 U;try simp only [QQ,Qax] at hb6
  refine wct U<|hC U (.assign rfl .nil) fun Y U=>rt1 U ?_
  exact⟨ne,hi,fl,ws,28,_,_,rfl,by rw[q5,if_pos (by assumption)],m0.only [1,2,3]⟩
 intro hb6 U;try simp only [QQ,Qax] at hb6
 refine wcf U<|zss<|hK0 _ _<|zsr fun K1 hK1=>g9 U (.move rfl<|.move rfl .nil) fun Y U=>plz (ecl U Tryz.func168 rfl (ui _ _ _ _ _ _ _ _ _ _ place pins ws items _ _ _ _ _ _ _ _ _ hl hil hio (m0.into [(1,1),(2,2),(3,3)] (by decide) rfl)) ?_)
 rintro e ag ⟨wx,ex,ac,ad,rfl,hw,aa⟩
 have ab:=m0.back aa [(1,1),(2,2),(3,3)] (by decide);clear aa m0
 have ae:=ab.oz [1,2,3]
 refine⟨_,rfl,?_⟩;intro Y U
 refine gz hK1 U (.assign rfl .nil) fun Y U=>rt1 U ?_
 exact⟨ne,hi,fl,wx,ex,_,_,rfl,by rw[q5,if_neg (by simp_all),hw],ae.only [1,2,3]⟩
theorem uj(X B)(vo bl sz pe to ne fl:Int)(hi)(place pins:List Int)(ws:List (Int×List (Int×List Int)))(pp pn pw:Option Addr)(cp cn9 cw:Nat)(at0 nd w0)(m0:MemOk X w0 [(1,.box B 51 [.int .i64 vo,.int .i64 bl,.int .i64 sz,.int .i64 pe,.slice pp place.length cp,.int .i64 to,.int .i64 ne,.bool hi,.int .i64 fl,.slice pn pins.length cn9,.slice pw (ws.map wrD).length cw])] w0) :
   Calls Tryz.prog 169 #[.pointer (some ⟨B,0,none⟩),.int .i64 at0,.int .i64 nd] w0 fun e w' => ∃ e9:Int,e=.returned (.int .i64 e9)∧iJ hi fl at0 nd=e9∧MemOk X w0 [(1,.box B 51 [.int .i64 vo,.int .i64 bl,.int .i64 sz,.int .i64 pe,.slice pp place.length cp,.int .i64 to,.int .i64 ne,.bool hi,.int .i64 fl,.slice pn pins.length cn9,.slice pw (ws.map wrD).length cw])] w':=by
 refine uI Tryz.func169 rfl Tryz.ntmps169 fun Y U=>hC U (.assign rfl .nil) fun Y U=>wsk fun K0 hK0=>wp_block<|hC U (.move rfl<|.nilCheck rfl<|.fa 7 rfl U51<|.lb m0 1 U4 rfl rfl rfl<|.assign rfl .nil) fun Y U=>bc U 7 ?_ ?_
 ·
  intro hb7 U;try simp only [QQ,Qax] at hb7
  refine wct U<|hC U (.assign rfl .nil) fun Y U=>rt1 U ?_
  exact⟨_,rfl,by rw[iJ,if_pos (by assumption)],m0.only [1]⟩
 intro hb7 U;try simp only [QQ,Qax] at hb7
 refine wcf U<|hC U (.move rfl<|.move rfl<|.nilCheck rfl<|.fa 8 rfl U51<|.lb m0 1 U2 rfl rfl rfl<|.lss rfl rfl<|.assign rfl .nil) fun Y U=>bc U 12 ?_ ?_
 ·
  intro aa U;try simp only [QQ,Qax] at aa
  refine wct U ?_
  replace U:=U.oz [1,2,6,7,12]
  refine hC U (.assign rfl .nil) fun Y U=>rt1 U ?_
  exact⟨_,rfl,by rw[iJ,if_neg (by simp_all),if_pos (by assumption)],m0.only [1]⟩
 intro aa U;try simp only [QQ,Qax] at aa
 refine wcf U ?_
 replace U:=U.oz [1,2,6,7,12]
 refine hC U (.move rfl<|.move rfl<|.gtr rfl rfl<|.assign rfl .nil) fun Y U=>bc U 19 ?_ ?_
 ·
  intro ab U;try simp only [QQ,Qax] at ab
  refine wct U<|hC U (.assign rfl .nil) fun Y U=>rt1 U ?_
  exact⟨_,rfl,by rw[iJ,if_neg (by simp_all),if_neg (by omega),if_pos (by assumption)],m0.only [1]⟩
 intro ab U;try simp only [QQ,Qax] at ab
 refine wcf U<|zss<|hK0 _ _<|hC U (.assign rfl .nil) fun Y U=>rt1 U ?_
 exact⟨_,rfl,by rw[iJ,if_neg (by simp_all),if_neg (by omega),if_neg (by omega)],m0.only [1]⟩
theorem ye(X B)(vo bl sz pe to ne fl:Int)(hi)(place pins:List Int)(ws:List (Int×List (Int×List Int)))(pp pn pw:Option Addr)(cp cn9 cw:Nat)(at0 w0)(hp:pins.length≤1000000)(m0:MemOk X w0 [(1,.box B 51 [.int .i64 vo,.int .i64 bl,.int .i64 sz,.int .i64 pe,.slice pp place.length cp,.int .i64 to,.int .i64 ne,.bool hi,.int .i64 fl,.slice pn pins.length cn9,.slice pw (ws.map wrD).length cw]),(2,.seg (.slice pw (ws.map wrD).length cw) 103 2 (ws.map wrD)),(4,.dat (.slice pn pins.length cn9) (.ns .i64 pins))] w0) :
   Calls Tryz.prog 147 #[.pointer (some ⟨B,0,none⟩),.int .i64 at0] w0 fun e w' => ∃ (ne':Int) (hi':Bool) (fl':Int) (ws':List (Int×List (Int×List Int))) (e9:Int) (pw':Option Addr) (cw':Nat),e=.returned (.int .i64 e9)∧ka ne fl hi pins ws at0=(ne',hi',fl',ws',e9)∧MemOk X w0 [(1,.box B 51 [.int .i64 vo,.int .i64 bl,.int .i64 sz,.int .i64 pe,.slice pp place.length cp,.int .i64 to,.int .i64 ne',.bool hi',.int .i64 fl',.slice pn pins.length cn9,.slice pw' (ws'.map wrD).length cw']),(2,.seg (.slice pw' (ws'.map wrD).length cw') 103 2 (ws'.map wrD)),(4,.dat (.slice pn pins.length cn9) (.ns .i64 pins))] w':=by
 refine iZ Tryz.func147 rfl Tryz.ntmps147 fun Y U=>hC U (.assign rfl .nil) fun Y U=>zsr fun K0 hK0=>g9 U (.move rfl<|.move rfl<|.move rfl<|.nilCheck rfl<|.loadBR m0 (i:=1) rfl rfl U51 rfl hH (by simp) (by dsimp only [List.drop,List.take] <;> rfl) .nil) fun Y U=>plz<|ecb U Tryz.func170 rfl m0 (yc _ _ _ _ _ _ _ _ place pins ws _ _ _ _ _ _ _ _ ((m0.rd (i:=4) rfl).any) hp) fun Y ah U ac=>plz (ecl U Tryz.func169 rfl (uj _ _ _ _ _ _ _ _ _ _ place pins ws _ _ _ _ _ _ _ _ _ (ac.into [(1,1)] (by decide) rfl)) ?_)
 rintro e ai ⟨ex,rfl,hr,ab⟩
 have ad:=ac.back ab [(1,1)] (by decide);clear ab ac
 have ae:=ad.oz [1,2,4]
 refine⟨_,rfl,?_⟩;intro Y U
 refine gz hK0 U (.assign rfl .nil) fun Y U=>wsk fun K1 hK1 =>?_
 replace U:=U.oz [0,1,4,5]
 refine hC U (.move rfl<|.eql rfl rfl .nil) fun Y U=>bc U 14 ?_ ?_
 ·
  intro aa U;try simp only [QQ,Qax] at aa
  refine wct U<|wp_region_lit<|g9 U (.move rfl<|.move rfl<|.nilCheck rfl<|.fa 8 rfl U51 .nil) fun Y U=>plz (st1 U ae 1 iP fun aj ag _ =>?_)
  refine znl (hK1 _ _ ?_)
  replace U:=U.oz [4,5,14]
  refine hC U (.move rfl<|.assign rfl .nil) fun Y U=>rt1 U ?_
  exact⟨ne,hi,at0,ws,0,_,_,by simp_all,by rw[ka,if_pos (by rw[hr];assumption)],ag.only [1,2,4]⟩
 intro aa U;try simp only [QQ,Qax] at aa
 refine wcf U<|zss<|hK1 _ _<|hC U (.move rfl<|.assign rfl .nil) fun Y U=>rt1 U ?_
 exact⟨ne,hi,fl,ws,ex,_,_,rfl,by rw[ka,if_neg (by rw[hr];assumption),hr],ae.only [1,2,4]⟩
theorem y1(X B)(vo bl sz pe to ne fl:Int)(hi)(place pins:List Int)(ws:List (Int×List (Int×List Int)))(items:List (Int×List Int))(pp pn pw:Option Addr)(cp cn9 cw:Nat)(pi ci ix w0)(hne : -1000000000000000≤ne∧ne≤1000000000000000)(hl:ws.length≤900000)(hil:items.length≤1000000)(hio:j3 items)(m0:MemOk X w0 [(1,.box B 51 [.int .i64 vo,.int .i64 bl,.int .i64 sz,.int .i64 pe,.slice pp place.length cp,.int .i64 to,.int .i64 ne,.bool hi,.int .i64 fl,.slice pn pins.length cn9,.slice pw (ws.map wrD).length cw]),(2,.seg (.slice pw (ws.map wrD).length cw) 103 2 (ws.map wrD)),(3,.dat (.slice pi items.length ci) (.l 2 (items.map itD)))] w0) :
   Calls Tryz.prog 150 #[.pointer (some ⟨B,0,none⟩),.int .i64 ix,.slice pi items.length ci] w0 fun e w' => ∃ (ne':Int) (hi':Bool) (fl':Int) (ws':List (Int×List (Int×List Int))) (e9:Int) (pw':Option Addr) (cw':Nat),e=.returned (.int .i64 e9)∧takeR bl sz to ne fl hi ws ix items=(ne',hi',fl',ws',e9)∧MemOk X w0 [(1,.box B 51 [.int .i64 vo,.int .i64 bl,.int .i64 sz,.int .i64 pe,.slice pp place.length cp,.int .i64 to,.int .i64 ne',.bool hi',.int .i64 fl',.slice pn pins.length cn9,.slice pw' (ws'.map wrD).length cw']),(2,.seg (.slice pw' (ws'.map wrD).length cw') 103 2 (ws'.map wrD)),(3,.dat (.slice pi items.length ci) (.l 2 (items.map itD)))] w':=by
 refine uI Tryz.func150 rfl Tryz.ntmps150 fun Y U=>hC U (.assign rfl .nil) fun Y U=>wsk fun K0 hK0=>hC U (.move rfl<|.nilCheck rfl<|.fa 7 rfl U51<|.lb m0 1 U4 rfl rfl rfl<|.not rfl .nil) fun Y U=>bc U 12 ?_ ?_
 ·
  intro hb7 U;try simp only [QQ,Qax] at hb7
  refine wct U<|hC U (.assign rfl .nil) fun Y U=>rt1 U ?_
  exact⟨ne,hi,fl,ws,33,_,_,rfl,by rw[takeR,if_pos (by simp_all)],m0.only [1,2,3]⟩
 intro hb7 U;try simp only [QQ,Qax] at hb7
 refine wcf U<|zss<|hK0 _ _<|wsk fun K1 hK1=>zsr fun K2 hK2=>g9 U (.move rfl<|.move rfl<|.nilCheck rfl<|.fa 6 rfl U51<|.lb m0 1 U3 rfl rfl rfl<|.sub rfl rfl (r:=ne - 1) (IntWalk.i64_in _ (by omega)) .nil) fun Y U=>plz<|ecb U Tryz.func110 rfl m0 (jg _ _ _ _) fun Y ar U al=>znl<|hK2 _ _<|bc U 19 ?_ ?_
 ·
  intro ab U;try simp only [QQ,Qax] at ab
  refine wct U ?_
  replace U:=U.oz [0,1,2,6,12,19]
  refine hC U (.assign rfl .nil) fun Y U=>rt1 U ?_
  exact⟨ne,hi,fl,ws,0,_,_,rfl,by rw[takeR,if_neg (by simp_all),if_pos (by assumption)],al.only [1,2,3]⟩
 intro ab U;try simp only [QQ,Qax] at ab
 refine wcf U<|zss<|hK1 _ _<|wsk fun K3 hK3=>wsk fun K4 hK4 =>?_
 replace U:=U.oz [0,1,2,6,12,19]
 have ai:=al.oz [1,2,3]
 refine region_p 17 (B:=[(1,_),(2,_),(3,_)]) (ai.to i3l) ai (by kernel_rfl) (fun au ac aa =>?_);clear ai
 refine goR ac [0,1,2,3,4,5,6] [4] 7 0 127 U (aa.to i3l) (.move rfl<|.move rfl<|.nilCheck rfl<|.fa 6 rfl U51<|.lb hh 1 U3 rfl rfl rfl<|.neq rfl rfl<|.move rfl .nil) fun Y U=>bc U 26 ?_ ?_
 ·
  intro ad U;try simp only [QQ,Qax] at ad
  refine goA ac [7,8,9,10,11,12,13,14,15,16] 10 127 131071 U (aa.to i3l) (.s<|.s<|.s<|.s<|.s<|.s<|.s<|.s<|.s<|.pickT rfl rfl .nil) fun Y U=>wad<|hK4 _ _<|wct U ?_
  replace U:=U.oz [0,2,6,12,19,26,36]
  refine hC U (.assign rfl .nil) fun Y U=>rt1 U ?_
  exact⟨ne,hi,fl,ws,33,_,_,rfl,by rw[takeR,if_neg (by simp_all),if_neg (by assumption),if_pos (by omega)],aa.only [1,2,3]⟩
 intro ad U;try simp only [QQ,Qax] at ad
 refine goR ac [7,8,9,10,11,12,13,14,15,16] [10,14] 10 127 131071 U (aa.to i3l) (.move rfl<|.nilCheck rfl<|.fa 6 rfl U51<|.lb hh 1 U3 rfl rfl rfl<|.move rfl<|.nilCheck rfl<|.fa 5 rfl U51<|.lb hh 1 U3 rfl rfl rfl<|.eql rfl rfl<|.pickF rfl rfl .nil) fun Y U=>wad<|hK4 _ _<|bc U 36 ?_ ?_
 ·
  intro ae U;try simp only [QQ,Qax] at ae
  refine wct U ?_
  replace U:=U.oz [0,2,6,12,19,26,36]
  refine hC U (.assign rfl .nil) fun Y U=>rt1 U ?_
  exact⟨ne,hi,fl,ws,33,_,_,rfl,by rw[takeR,if_neg (by simp_all),if_neg (by assumption),if_pos (by omega)],aa.only [1,2,3]⟩
 intro ae U;try simp only [QQ,Qax] at ae
 refine wcf U<|zss (hK3 _ _ ?_)
 replace U:=U.oz [0,2,6,12,19,26,36]
 refine zsr fun K5 hK5=>g9 U (.move rfl<|.move rfl .nil) fun Y U=>plz (ecl U Tryz.func168 rfl (ui _ _ _ _ _ _ _ _ _ _ place pins ws items _ _ _ _ _ _ _ _ _ hl hil hio (aa.into [(1,1),(2,2),(3,3)] (by decide) rfl)) ?_)
 rintro e av ⟨wx,ex,ao,ap,rfl,hw,ah⟩
 have aj:=aa.back ah [(1,1),(2,2),(3,3)] (by decide);clear ah aa
 have ak:=aj.oz [1,2,3]
 refine⟨_,rfl,?_⟩;intro Y U
 refine gz hK5 U (.assign rfl .nil) fun Y U=>wsk fun K6 hK6=>hC U (.move rfl<|.eql rfl rfl .nil) fun Y U=>bc U 41 ?_ ?_
 ·
  intro ag U;try simp only [QQ,Qax] at ag
  refine wct U<|wp_region_lit<|g9 U (.move rfl<|.nilCheck rfl<|.fa 6 rfl U51<|.lb ak 1 U3 rfl rfl rfl<|.add rfl rfl (r:=ne+1) (IntWalk.i64_in _ (by omega))<|.nilCheck rfl<|.fa 6 rfl U51 .nil) fun Y U=>plz (st1 U ak 1 iG fun aw aq _ =>?_)
  refine znl (hK6 _ _ ?_)
  replace U:=U.oz [6,12,19,26,36,7,41]
  refine hC U (.move rfl<|.assign rfl .nil) fun Y U=>rt1 U ?_
  exact⟨ne+1,hi,fl,wx,0,_,_,by simp_all,by rw[takeR,if_neg (by simp_all),if_neg (by assumption),if_neg (by omega),hw,if_pos (by assumption)],aq.only [1,2,3]⟩
 intro ag U;try simp only [QQ,Qax] at ag
 refine wcf U<|zss (hK6 _ _ ?_)
 replace U:=U.oz [6,12,19,26,36,7,41]
 refine hC U (.move rfl<|.assign rfl .nil) fun Y U=>rt1 U ?_
 exact⟨ne,hi,fl,wx,ex,_,_,rfl,by rw[takeR,if_neg (by simp_all),if_neg (by assumption),if_neg (by omega),hw,if_neg (by assumption)],ak.only [1,2,3]⟩
theorem tK(X B)(vo bl sz pe to ne fl:Int)(hi)(place pins:List Int)(ws:List (Int×List (Int×List Int)))(pp pn pw:Option Addr)(cp cn9 cw:Nat)(w0)(m0:MemOk X w0 [(1,.box B 51 [.int .i64 vo,.int .i64 bl,.int .i64 sz,.int .i64 pe,.slice pp place.length cp,.int .i64 to,.int .i64 ne,.bool hi,.int .i64 fl,.slice pn pins.length cn9,.slice pw (ws.map wrD).length cw]),(2,.seg (.slice pw (ws.map wrD).length cw) 103 2 (ws.map wrD))] w0) :
   Calls Tryz.prog 151 #[.pointer (some ⟨B,0,none⟩)] w0 fun e w' => ∃ (ne':Int) (hi':Bool) (fl':Int) (ws':List (Int×List (Int×List Int))) (e9:Int) (pw':Option Addr) (cw':Nat),e=.returned (.int .i64 e9)∧jd to ne fl hi ws=(ne',hi',fl',ws',e9)∧MemOk X w0 [(1,.box B 51 [.int .i64 vo,.int .i64 bl,.int .i64 sz,.int .i64 pe,.slice pp place.length cp,.int .i64 to,.int .i64 ne',.bool hi',.int .i64 fl',.slice pn pins.length cn9,.slice pw' (ws'.map wrD).length cw']),(2,.seg (.slice pw' (ws'.map wrD).length cw') 103 2 (ws'.map wrD))] w':=by
 refine i9 Tryz.func151 rfl Tryz.ntmps151 fun Y U=>hC U (.assign rfl .nil) fun Y U=>wsk fun K0 hK0=>wsk fun K1 hK1 =>?_
 have m2:=m0.oz [1,2]
 refine region_p 16 (B:=[(1,_),(2,_)]) (m2.to i2l) m2 (by kernel_rfl) (fun w3 hP3 m3 =>?_);clear m2
 refine goR hP3 [0,1,2,3,4,5] [3] 6 0 63 U (m3.to i2l) (.move rfl<|.nilCheck rfl<|.fa 7 rfl U51<|.lb hh 1 U4 rfl rfl rfl<|.not rfl<|.move rfl .nil) fun Y U=>bc U 8 ?_ ?_
 ·
  intro aa U;try simp only [QQ,Qax] at aa
  refine goA hP3 [6,7,8,9,10,11,12,13,14,15] 10 63 65535 U (m3.to i2l) (.s<|.s<|.s<|.s<|.s<|.s<|.s<|.s<|.s<|.pickT rfl rfl .nil) fun Y U=>wad<|hK1 _ _<|wct U ?_
  replace U:=U.oz [0,2,8,18]
  refine hC U (.assign rfl .nil) fun Y U=>rt1 U ?_
  exact⟨ne,hi,fl,ws,33,_,_,rfl,by rw[jd,if_pos (by first|(left;simp_all;done)|(right;assumption)|omega)],m3.only [1,2]⟩
 intro aa U;try simp only [QQ,Qax] at aa
 refine goR hP3 [6,7,8,9,10,11,12,13,14,15] [9,13] 10 63 65535 U (m3.to i2l) (.move rfl<|.nilCheck rfl<|.fa 6 rfl U51<|.lb hh 1 U3 rfl rfl rfl<|.move rfl<|.nilCheck rfl<|.fa 5 rfl U51<|.lb hh 1 U3 rfl rfl rfl<|.neq rfl rfl<|.pickF rfl rfl .nil) fun Y U=>wad<|hK1 _ _<|bc U 18 ?_ ?_
 ·
  intro ab U;try simp only [QQ,Qax] at ab
  refine wct U ?_
  replace U:=U.oz [0,2,8,18]
  refine hC U (.assign rfl .nil) fun Y U=>rt1 U ?_
  exact⟨ne,hi,fl,ws,33,_,_,rfl,by rw[jd,if_pos (by first|(left;simp_all;done)|(right;assumption)|omega)],m3.only [1,2]⟩
 intro ab U;try simp only [QQ,Qax] at ab
 refine wcf U<|zss (hK0 _ _ ?_)
 replace U:=U.oz [0,2,8,18]
 refine zsr fun K2 hK2=>g9 U (.move rfl<|.move rfl<|.move rfl<|.nilCheck rfl<|.loadBR m3 (i:=1) rfl rfl U51 rfl hH (by simp) (by dsimp only [List.drop,List.take] <;> rfl) .nil) fun Y U=>plz<|ecb U Tryz.func111 rfl m3 (je _ _ _ _ _ _ _ _ _ _ _ _ _ _ _ _ _ _) fun Y ag U ac=>g9 U (.nilCheck rfl<|.fa 7 rfl U51 .nil) fun Y U=>plz (st1 U ac 1 sJ fun ah ad _ =>?_)
 refine g9 U (.nilCheck rfl<|.fa 8 rfl U51 .nil) fun Y U=>plz (st1 U ad 1 iP fun ai ae _ =>?_)
 refine znl (hK2 _ _ ?_)
 replace U:=U.oz [2,8,18]
 refine hC U (.assign rfl .nil) fun Y U=>rt1 U ?_
 exact⟨ne,false,ws.length,ws,0,_,_,rfl,by rw[jd,if_neg (by rintro(h|h) <;> simp_all)],by rw[← show(ws.map wrD).length=ws.length from List.length_map _];exact ae.only [1,2]⟩
theorem xdo(X B)(vo bl sz pe to ne fl:Int)(hi)(place pins:List Int)(ws:List (Int×List (Int×List Int)))(items:List (Int×List Int))(pp pn pw:Option Addr)(cp cn9 cw:Nat)(pi ci)(kd v1 v2 v3 v4 v5 at0 ix:Int)(q1 n1 c1 w0)(hk4:kd≠4)(hk5:kd≠5)(hne : -1000000000000000≤ne∧ne≤1000000000000000)(hl:ws.length≤900000)(hp:pins.length≤1000000)(hil:items.length≤1000000)(hio:j3 items)(m0:MemOk X w0 [(1,.box B 51 [.int .i64 vo,.int .i64 bl,.int .i64 sz,.int .i64 pe,.slice pp place.length cp,.int .i64 to,.int .i64 ne,.bool hi,.int .i64 fl,.slice pn pins.length cn9,.slice pw (ws.map wrD).length cw]),(2,.seg (.slice pw (ws.map wrD).length cw) 103 2 (ws.map wrD)),(3,.dat (.slice pi items.length ci) (.l 2 (items.map itD))),(4,.dat (.slice pn pins.length cn9) (.ns .i64 pins))] w0) :
   Calls Tryz.prog 133 #[.pointer (some ⟨B,0,none⟩),.agg #[.int .i64 kd,.int .i64 v1,.int .i64 v2,.int .i64 v3,.int .i64 v4,.slice q1 n1 c1,.int .i64 v5,.int .i64 at0,.int .i64 ix,.slice pi items.length ci]] w0 fun e w' => ∃ (ne':Int) (hi':Bool) (fl':Int) (ws':List (Int×List (Int×List Int))) (e9:Int) (pw':Option Addr) (cw':Nat),e=.returned (.int .i64 e9)∧doR bl sz to ne fl hi pins ws kd at0 ix items=(ne',hi',fl',ws',e9)∧MemOk X w0 [(1,.box B 51 [.int .i64 vo,.int .i64 bl,.int .i64 sz,.int .i64 pe,.slice pp place.length cp,.int .i64 to,.int .i64 ne',.bool hi',.int .i64 fl',.slice pn pins.length cn9,.slice pw' (ws'.map wrD).length cw']),(2,.seg (.slice pw' (ws'.map wrD).length cw') 103 2 (ws'.map wrD)),(3,.dat (.slice pi items.length ci) (.l 2 (items.map itD))),(4,.dat (.slice pn pins.length cn9) (.ns .i64 pins))] w':=by
 refine iZ Tryz.func133 rfl Tryz.ntmps133 fun Y U=>zsr fun K0 hK0=>plz<|iu U m0 20 (cs:=[_,_,_,_,_,_,_,_,_,_]) rfl rfl rfl fun g1 Y w2 U m2 _ _=>gz hK0 U (.assign rfl .nil) fun Y U=>wsk fun K1 hK1=>hC U (.fa 0 rfl U38<|.lb m2 20 U3 rfl rfl rfl .nil) fun Y U=>wp_block<|hC U (.eql rfl rfl<|.assign rfl .nil) fun Y U=>bc U 7 ?_ ?_
 ·
  intro hb8 U;try simp only [QQ,Qax] at hb8
  refine wct U<|zsr fun K2 hK2=>g9 U (.move rfl<|.fa 9 rfl U38<|.lb m2 20 U36 rfl rfl rfl .nil) fun Y U=>plz (ecl U Tryz.func146 rfl (zG _ _ _ _ _ _ _ _ _ _ place pins ws items _ _ _ _ _ _ _ _ _ hl hil hio (m2.into [(1,1),(2,2),(3,3)] (by decide) rfl)) ?_)
  rintro e aD ⟨ne1,hi1,fl1,ws1,e1,ap,aq,rfl,hR,ae⟩
  have aj:=m2.back ae [(1,1),(2,2),(3,3)] (by decide);clear ae m2
  have ar:=aj.oz [1,2,3,4,20]
  refine⟨_,rfl,?_⟩;intro Y U
  refine gz hK2 U (.assign rfl .nil) fun Y U=>rt1 U ?_
  exact⟨ne1,hi1,fl1,ws1,e1,_,_,rfl,by rw[doR,if_pos (by assumption)];exact hR,ar.only [1,2,3,4]⟩
 intro hb8 U;try simp only [QQ,Qax] at hb8
 refine wcf U<|hC U (.eql rfl rfl<|.assign rfl .nil) fun Y U=>bc U 13 ?_ ?_
 ·
  intro aa U;try simp only [QQ,Qax] at aa
  refine wct U<|zsr fun K3 hK3=>g9 U (.move rfl<|.fa 7 rfl U38<|.lb m2 20 U2 rfl rfl rfl .nil) fun Y U=>plz (ecl U Tryz.func147 rfl (ye _ _ _ _ _ _ _ _ _ _ place pins ws _ _ _ _ _ _ _ _ hp (m2.into [(1,1),(2,2),(4,4)] (by decide) rfl)) ?_)
  rintro e aE ⟨ne1,hi1,fl1,ws1,e1,au,av,rfl,hR,ag⟩
  have ak:=m2.back ag [(1,1),(2,2),(4,4)] (by decide);clear ag m2
  have aw:=ak.oz [1,2,4,3,20]
  refine⟨_,rfl,?_⟩;intro Y U
  refine gz hK3 U (.assign rfl .nil) fun Y U=>rt1 U ?_
  exact⟨ne1,hi1,fl1,ws1,e1,_,_,rfl,by rw[doR,if_neg (by omega),if_pos (by assumption)];exact hR,aw.only [1,2,3,4]⟩
 intro aa U;try simp only [QQ,Qax] at aa
 refine wcf U<|hC U (.eql rfl rfl<|.assign rfl .nil) fun Y U=>bcO U 19 fun U=>wcf U ?_
 replace U:=U.oz [0,3,4,6,7,13]
 refine hC U (.eql rfl rfl<|.assign rfl .nil) fun Y U=>bcO U 25 fun U=>wcf U<|hC U (.eql rfl rfl<|.assign rfl .nil) fun Y U=>bc U 31 ?_ ?_
 ·
  intro ab U;try simp only [QQ,Qax] at ab
  refine wct U<|zsr fun K4 hK4=>g9 U (.move rfl<|.fa 8 rfl U38<|.lb m2 20 U3 rfl rfl rfl<|.fa 9 rfl U38<|.lb m2 20 U36 rfl rfl rfl .nil) fun Y U=>plz (ecl U Tryz.func150 rfl (y1 _ _ _ _ _ _ _ _ _ _ place pins ws items _ _ _ _ _ _ _ _ _ _ hne hl hil hio (m2.into [(1,1),(2,2),(3,3)] (by decide) rfl)) ?_)
  rintro e aF ⟨ne1,hi1,fl1,ws1,e1,ax,ay,rfl,hR,ah⟩
  have al:=m2.back ah [(1,1),(2,2),(3,3)] (by decide);clear ah m2
  have az:=al.oz [1,2,3,4,20]
  refine⟨_,rfl,?_⟩;intro Y U
  refine gz hK4 U (.assign rfl .nil) fun Y U=>rt1 U ?_
  exact⟨ne1,hi1,fl1,ws1,e1,_,_,rfl,by rw[doR,if_neg (by omega),if_neg (by omega),if_pos (by assumption)];exact hR,az.only [1,2,3,4]⟩
 intro ab U;try simp only [QQ,Qax] at ab
 refine wcf U<|hC U (.eql rfl rfl<|.assign rfl .nil) fun Y U=>bc U 39 ?_ ?_
 ·
  intro ac U;try simp only [QQ,Qax] at ac
  refine wct U<|zsr fun K5 hK5=>g9 U (.move rfl .nil) fun Y U=>plz (ecl U Tryz.func151 rfl (tK _ _ _ _ _ _ _ _ _ _ place pins ws _ _ _ _ _ _ _ (m2.into [(1,1),(2,2)] (by decide) rfl)) ?_)
  rintro e aG ⟨ne1,hi1,fl1,ws1,e1,aA,aB,rfl,hR,ai⟩
  have ao:=m2.back ai [(1,1),(2,2)] (by decide);clear ai m2
  have aC:=ao.oz [1,2,3,4,20]
  refine⟨_,rfl,?_⟩;intro Y U
  refine gz hK5 U (.assign rfl .nil) fun Y U=>rt1 U ?_
  exact⟨ne1,hi1,fl1,ws1,e1,_,_,rfl,by rw[doR,if_neg (by omega),if_neg (by omega),if_neg (by omega),if_pos (by assumption)];exact hR,aC.only [1,2,3,4]⟩
 intro ac U;try simp only [QQ,Qax] at ac
 refine wcf U ?_
 replace U:=U.oz [4,6,7,13,31,39]
 refine hC U (.eql rfl rfl<|.assign rfl .nil) fun Y U=>bc U 43 ?_ ?_
 ·
  intro ad U;try simp only [QQ,Qax] at ad
  refine wct U<|hC U (.assign rfl .nil) fun Y U=>rt1 U ?_
  exact⟨ne,hi,fl,ws,0,_,_,rfl,by rw[doR,if_neg (by omega),if_neg (by omega),if_neg (by omega),if_neg (by omega),if_pos (by assumption)],m2.only [1,2,3,4]⟩
 intro ad U;try simp only [QQ,Qax] at ad
 refine wcf U<|zss<|hK1 _ _<|hC U (.assign rfl .nil) fun Y U=>rt1 U ?_
 exact⟨ne,hi,fl,ws,23,_,_,rfl,by rw[doR,if_neg (by omega),if_neg (by omega),if_neg (by omega),if_neg (by omega),if_neg (by omega)],m2.only [1,2,3,4]⟩
theorem xDo(X)(vo bl sz pe to ne fl:Int)(hi)(place pins:List Int)(ws:List (Int×List (Int×List Int)))(items:List (Int×List Int))(pp pn pw:Option Addr)(cp cn9 cw:Nat)(pi ci)(kd v1 v2 v3 v4 v5 at0 ix:Int)(q1 n1 c1 w0)(hn:place.length≤1000000)(hk4:kd≠4)(hk5:kd≠5)(hne : -1000000000000000≤ne∧ne≤1000000000000000)(hl:ws.length≤900000)(hp:pins.length≤1000000)(hil:items.length≤1000000)(hio:j3 items)(hok:kK ws)(m0:MemOk X w0 [(1,.dat (.slice pp place.length cp) (.ns .i64 place)),(2,.dat (.slice pn pins.length cn9) (.ns .i64 pins)),(3,.dat (.slice pw (ws.map wrD).length cw) (.l 2 (ws.map wrD))),(4,.dat (.slice pi items.length ci) (.l 2 (items.map itD)))] w0) :
   Calls Tryz.prog 96 #[.agg #[.int .i64 vo,.int .i64 bl,.int .i64 sz,.int .i64 pe,.slice pp place.length cp,.int .i64 to,.int .i64 ne,.bool hi,.int .i64 fl,.slice pn pins.length cn9,.slice pw (ws.map wrD).length cw],.agg #[.int .i64 kd,.int .i64 v1,.int .i64 v2,.int .i64 v3,.int .i64 v4,.slice q1 n1 c1,.int .i64 v5,.int .i64 at0,.int .i64 ix,.slice pi items.length ci]] w0 fun e w' => ∃ (ne':Int) (hi':Bool) (fl':Int) (ws':List (Int×List (Int×List Int))) (e9 rl rf rn:Int) (p1':Option Addr) (d1':Nat) (p2':Option Addr) (d2':Nat) (p3':Option Addr) (d3':Nat),e=.returned (.tuple #[.agg #[.int .i64 vo,.int .i64 bl,.int .i64 sz,.int .i64 pe,.slice p1' place.length d1',.int .i64 to,.int .i64 ne',.bool hi',.int .i64 fl',.slice p2' pins.length d2',.slice p3' (ws'.map wrD).length d3'],.agg #[.int .i64 e9,.int .i64 rl,.int .i64 rf,.int .i64 rn,.slice none 0 0]])∧doR bl sz to ne fl hi pins ws kd at0 ix items=(ne',hi',fl',ws',e9)∧((e9≠0∧rl=0∧rf=0∧rn=0)∨(e9=0∧rl=ws'.length∧rf=fl'∧rn=ne'))∧MemOk X w0 [(1,.dat (.slice pp place.length cp) (.ns .i64 place)),(2,.dat (.slice pn pins.length cn9) (.ns .i64 pins)),(3,.dat (.slice pw (ws.map wrD).length cw) (.l 2 (ws.map wrD))),(4,.dat (.slice pi items.length ci) (.l 2 (items.map itD))),(5,.dat (.slice p1' place.length d1') (.ns .i64 place)),(6,.dat (.slice p2' pins.length d2') (.ns .i64 pins)),(7,.seg (.slice p3' (ws'.map wrD).length d3') 103 2 (ws'.map wrD))] w':=by
 refine iZ Tryz.func96 rfl Tryz.ntmps96 fun Y U=>zsr fun K0 hK0=>plz<|iu U m0 20 (cs:=[_,_,_,_,_,_,_,_,_,_,_]) rfl rfl rfl fun g1 Y w2 U m2 _ _=>plz<|iu U m2 21 (cs:=[_,_,_,_,_,_,_,_,_,_]) rfl rfl rfl fun g3 Y w4 U m4 _ _=>plz<|hZ U m4 22 iA rfl fun g5 Y w6 U m6 _ _=>plz<|hZ U m6 23 iL rfl fun g7 Y w8 U m8 _ _=>znl<|hK0 _ _<|zsr fun K1 hK1=>g9 U (.loadBR m8 (i:=20) rfl rfl U51 rfl hH (by simp) (by dsimp only [List.drop,List.take] <;> rfl) .nil) fun Y U=>plz (ecl U Tryz.func52 rfl (qf _ _ _ _ _ _ _ _ _ place pins ws _ _ _ _ _ _ _ hn hp (by omega) hok (m8.into [(1,1),(2,2),(3,3)] (by decide) rfl)) ?_)
 rintro e aD ⟨ar,au,av,aw,ax,ay,rfl,ab⟩
 have ag:=m8.back ab [(1,1),(2,2),(3,3),(24,4),(25,5),(26,6)] (by decide);clear ab m8
 have az:=ag.oz [1,2,3,24,25,26,4,20,21,22,23]
 refine⟨_,rfl,?_⟩;intro Y U
 refine plz (stw U az 20 hH fun aE ae _ =>?_)
 refine znl<|hK1 _ _<|wsk fun K2 hK2=>zsr fun K3 hK3=>g9 U (.loadBR ae (i:=21) rfl rfl U38 rfl ip (by simp) (by dsimp only [List.drop,List.take] <;> rfl) .nil) fun Y U=>plz (ecl U Tryz.func133 rfl (xdo _ _ _ _ _ _ _ _ _ _ place pins ws items _ _ _ _ _ _ _ _ kd _ _ _ _ _ _ _ _ _ _ _ hk4 hk5 hne hl hp hil hio (ae.into [(1,20),(2,26),(3,4),(4,25)] (by decide) rfl)) ?_)
 rintro e aF ⟨ne1,hi1,fl1,ws1,e1,aA,aB,rfl,hR,ac⟩
 have ah:=ae.back ac [(20,1),(26,2),(4,3),(25,4)] (by decide);clear ac ae
 have ai:=ah.oz [20,26,4,25,1,2,3,21,22,23,24]
 refine⟨_,rfl,?_⟩;intro Y U
 refine gz hK3 U (.assign rfl .nil) fun Y U =>?_
 replace U:=U.oz [2,4,5,6]
 refine hC U (.move rfl<|.neq rfl rfl .nil) fun Y U=>bc U 12 ?_ ?_
 ·
  intro aa U;try simp only [QQ,Qax] at aa
  refine wct U<|zsr fun K4 hK4=>g9 U (.loadBR ai (i:=20) rfl rfl U51 rfl hH (by simp) (by dsimp only [List.drop,List.take] <;> rfl)<|.move rfl<|.build rfl iL uh rfl (by dsimp only [iY,List.set] <;> rfl) .nil) fun Y U=>plz (stw U ai 22 hH fun aG aC _ =>?_)
  refine plz (stw U aC 23 iz fun aH ao _ =>?_)
  refine znl<|hK4 _ _<|rtd (lp (fn:=Tryz.f96) U ao (i:=22) (i2:=23) rfl rfl rfl rfl rfl U51 rfl hH U44 rfl iz ?_)
  exact⟨ne1,hi1,fl1,ws1,e1,0,0,0,_,_,_,_,_,_,rfl,hR,.inl ⟨by assumption,rfl,rfl,rfl⟩,ao.ren [(1,1),(2,2),(3,3),(4,4),(5,24),(6,25),(7,26)] (by decide)⟩
 intro aa U;try simp only [QQ,Qax] at aa
 refine wcf U<|zss<|hK2 _ _<|wsk fun K5 hK5 =>?_
 have aj:=ai.oz [1,2,3,4,20,21,22,23,24,25,26]
 refine region_p 10 (B:=[(20,_)]) (aj.to i1l) aj (by kernel_rfl) (fun aI ad ap =>?_);clear aj
 refine goR ad [0,1,3,4,5,6] [0,1,4,6] 6 0 123 U (ap.to i1l) (.loadBR hh (i:=20) rfl rfl U51 rfl hH (by simp) (by dsimp only [List.drop,List.take] <;> rfl)<|.loadBR hh (i:=20) rfl rfl U51 rfl hH (by simp) (by dsimp only [List.drop,List.take] <;> rfl)<|.fa 8 rfl U51<|.lb hh 20 U2 rfl rfl rfl<|.fa 6 rfl U51<|.lb hh 20 U3 rfl rfl rfl .nil) fun Y U=>so 2 ?_
 refine ecb U Tryz.func111 rfl ap (je _ _ _ _ _ _ _ _ _ _ _ _ _ _ _ _ _ _) fun Y aJ U ak=>⟨ak.to i1l,?_⟩
 refine goA ad [7] 1 127 255 U (ak.to i1l) (.build rfl iL uh rfl (by dsimp only [iY,List.set] <;> rfl) .nil) fun Y U=>so 8 ?_
 refine stw U ak 22 hH fun aK aq _ =>?_
 refine⟨aq.to i1l,?_⟩
 refine so 9 ?_
 refine stw U aq 23 iz fun aL al _ =>?_
 refine⟨al.to i1l,?_⟩
 refine wad<|hK5 _ _<|rtd (lp (fn:=Tryz.f96) U al (i:=22) (i2:=23) rfl rfl rfl rfl rfl U51 rfl hH U44 rfl iz ?_)
 revert U
 obtain rfl:e1=0:=by first|assumption|(simp_all;done)|omega
 intro U
 exact⟨ne1,hi1,fl1,ws1,0,ws1.length,fl1,ne1,_,_,_,_,_,_,by rw[List.length_map],hR,.inr ⟨rfl,rfl,rfl,rfl⟩,al.ren [(1,1),(2,2),(3,3),(4,4),(5,24),(6,25),(7,26)] (by decide)⟩
theorem xT(X)(vo bl sz pe to ne fl:Int)(hi)(place pins:List Int)(ws:List (Int×List (Int×List Int)))(items:List (Int×List Int))(pp pn pw:Option Addr)(cp cn9 cw:Nat)(pi ci)(kd v1 v2 v3 v4 v5 at0 ix:Int)(q1 n1 c1 w0 ne' hi' fl')(ws':List (Int×List (Int×List Int)))(e9)(hd:doR bl sz to ne fl hi pins ws kd at0 ix items=(ne',hi',fl',ws',e9))(hn:place.length≤1000000)(hk4:kd≠4)(hk5:kd≠5)(hne : -1000000000000000≤ne∧ne≤1000000000000000)(hl:ws.length≤900000)(hp:pins.length≤1000000)(hil:items.length≤1000000)(hio:j3 items)(hok:kK ws)(m0:MemOk X w0 [(1,.dat (.slice pp place.length cp) (.ns .i64 place)),(2,.dat (.slice pn pins.length cn9) (.ns .i64 pins)),(3,.dat (.slice pw (ws.map wrD).length cw) (.l 2 (ws.map wrD))),(4,.dat (.slice pi items.length ci) (.l 2 (items.map itD)))] w0) :
   Calls Tryz.prog 96 #[.agg #[.int .i64 vo,.int .i64 bl,.int .i64 sz,.int .i64 pe,.slice pp place.length cp,.int .i64 to,.int .i64 ne,.bool hi,.int .i64 fl,.slice pn pins.length cn9,.slice pw (ws.map wrD).length cw],.agg #[.int .i64 kd,.int .i64 v1,.int .i64 v2,.int .i64 v3,.int .i64 v4,.slice q1 n1 c1,.int .i64 v5,.int .i64 at0,.int .i64 ix,.slice pi items.length ci]] w0 fun e w' => ∃ (rl rf rn:Int) (p1':Option Addr) (d1':Nat) (p2':Option Addr) (d2':Nat) (p3':Option Addr) (d3':Nat),e=.returned (.tuple #[.agg #[.int .i64 vo,.int .i64 bl,.int .i64 sz,.int .i64 pe,.slice p1' place.length d1',.int .i64 to,.int .i64 ne',.bool hi',.int .i64 fl',.slice p2' pins.length d2',.slice p3' (ws'.map wrD).length d3'],.agg #[.int .i64 e9,.int .i64 rl,.int .i64 rf,.int .i64 rn,.slice none 0 0]])∧((e9≠0∧rl=0∧rf=0∧rn=0)∨(e9=0∧rl=ws'.length∧rf=fl'∧rn=ne'))∧MemOk X w0 [(1,.dat (.slice pp place.length cp) (.ns .i64 place)),(2,.dat (.slice pn pins.length cn9) (.ns .i64 pins)),(3,.dat (.slice pw (ws.map wrD).length cw) (.l 2 (ws.map wrD))),(4,.dat (.slice pi items.length ci) (.l 2 (items.map itD))),(5,.dat (.slice p1' place.length d1') (.ns .i64 place)),(6,.dat (.slice p2' pins.length d2') (.ns .i64 pins)),(7,.seg (.slice p3' (ws'.map wrD).length d3') 103 2 (ws'.map wrD))] w':=by
 refine(xDo X vo bl sz pe to ne fl hi place pins ws items pp pn pw cp cn9 cw pi ci kd v1 v2 v3 v4 v5 at0 ix q1 n1 c1 w0 hn hk4 hk5 hne hl hp hil hio hok m0).mono ?_
 rintro e w' ⟨ne2,hi2,fl2,ws2,e2,rl,rf,rn,a1,b1,a2,b2,a3,b3,he,hd2,hr,hm⟩
 obtain⟨rfl,rfl,rfl,rfl,rfl⟩:ne2=ne'∧hi2=hi'∧fl2=fl'∧ws2=ws'∧e2=e9:=by
   have h:=hd2.symm.trans hd
   simp only [Prod.mk.injEq] at h
   exact h
 exact⟨rl,rf,rn,a1,b1,a2,b2,a3,b3,he,hr,hm⟩
end
section

end
end Go.Proofs.YtkehgingagggaaaGreat.K
section
namespace Go.Proofs.YtkehgingagggaaaGreat.K
set_option autoImplicit true
set_option relaxedAutoImplicit true
open Go.ChangeShapes Go.WideShapes Go.ChangeAt Go.RowKit Go.Sort
set_option linter.unusedVariables false
set_option linter.unusedSimpArgs false
variable {P:Program} {X:Cx} {M:Mm} {w w0:World}
def nD(z:Int):List D:=[.v (.int .i64 z)]
theorem kN{S:Nat→Prop}{zs:List Int}(h:SegOk S w v e 1 (zs.map nD)):OwnsAt w 0 e 1 v zs.length (zs.map (Value.int .i64)):=by
 obtain⟨cs,h1,h2,h3,h4,h5⟩:=h
 rw[List.length_map] at h1 h2
 have hcs:cs=zs.map (fun z => [Value.int .i64 z]):=by
   apply List.ext_getElem (by simp [h2])
   intro j g1 g2
   have hz:j<zs.length:=by omega
   obtain⟨a1,-⟩:=h3 cs[j] (List.getElem_mem g1)
   match hc:cs[j],a1 with
   | [x],_ =>
     have h:=h5 j 0 cs[j] (nD zs[j]) x (.v (.int .i64 zs[j])) (List.getElem?_eq_getElem g1) (by simp [hz]) (by rw[hc];rfl) rfl
     simp [h.v_out]
 have hfl:cs.flatten=zs.map (Value.int .i64):=by
   rw[hcs]
   clear h1 h2 h3 h4 h5 hcs
   induction zs with
   | nil=>rfl
   | cons z r ih=>simpa using ih
 rwa [hfl] at h1
theorem oQ{S:Nat→Prop}{zs:List Int}(h:OwnsAt w 0 e 1 v zs.length (zs.map (Value.int .i64))):SegOk S w v e 1 (zs.map nD):=by
 refine⟨zs.map (fun z => [Value.int .i64 z]),?_,by simp,?_,?_,?_⟩
 · have:(zs.map (fun z => [Value.int .i64 z])).flatten=zs.map (Value.int .i64):=by
     clear h
     induction zs with
     | nil=>rfl
     | cons z r ih=>simpa using ih
   rw[this,List.length_map];exact h
 · intro c hc
   obtain⟨z,-,rfl⟩:=List.mem_map.1 hc
   exact⟨rfl,fun x hx=>by simp at hx;subst hx;rfl⟩
 · intro r hr
   obtain⟨z,-,rfl⟩:=List.mem_map.1 hr
   rfl
 intro j q c r x d a1 a2 a3 a4
 rw[List.getElem?_map] at a1 a2
 cases hz:zs[j]? with
 | none=>rw[hz] at a1;cases a1
 | some z =>
   rw[hz] at a1 a2
   injection a1 with a1;injection a2 with a2
   subst a1;subst a2
   match q with
   | 0 =>
     injection a3 with a3;injection a4 with a4
     subst a3;subst a4;exact .v _
   | q+1=>cases a3
theorem qF{cur:Array Value}{zs:List Int}(hb:w.heap[g]? = some (.cells cur e (0,0)))(htk:(cur.toList.drop off).take n=zs.map (Value.int .i64))(hn:n=zs.length)(hj:j<zs.length):w.cell? ⟨g,off+j,none⟩=some (.int .i64 (zs.getD j 0)):=by
 subst hn
 have h1:((cur.toList.drop off).take zs.length)[j]? = (zs.map (Value.int .i64))[j]?:=by rw[htk]
 rw[List.getElem?_take_of_lt hj,List.getElem?_drop] at h1
 simp only [World.cell?,hb]
 simp only [Option.isSome_none,Bool.false_eq_true,if_false]
 rw[← Array.getElem?_toList,h1]
 simp [hj,List.getD]
theorem mO{cur:Array Value}{zs:List Int}(hb:w.heap[g]? = some (.cells cur e (0,0)))(htk:(cur.toList.drop off).take n=zs.map (Value.int .i64))(hn:n=zs.length):Holds (Value.int .i64) w g off zs.toArray:=by
 intro j hj
 have hj':j<zs.length:=by simpa using hj
 refine⟨?_,by simp [World.frozen?,hb]⟩
 rw[qF hb htk hn hj']
 simp [hj',List.getD]
theorem qG{S S':Nat→Prop}{v:Value}{zs:List Int}(h:SegOk S w v e 1 (zs.map nD))(hv:∀ b,v.ownBlock=some b→S' b):Rd S' w v (.ns .i64 zs):=by
 obtain⟨h1,h2⟩:=kN h
 refine .ns ?_
 rcases h2 with ⟨rfl,h0⟩|⟨g,off,cap,cur,rfl,-,hb,hnc,hcm,hcs,htk⟩
 · obtain rfl:=List.length_eq_zero_iff.1 h0
   exact(Rd.nilN _ _ .i64 none).ns_out
 exact⟨_,cap,rfl,⟨hnc,hcm⟩,.inr ⟨g,off,rfl,hv g rfl,(Array.getElem?_eq_some_iff.1 hb).1,fun j hj=>qF hb htk (by omega) hj⟩⟩
theorem uC{os:Array Obj}{cur:Array Value}{fr:Nat×Nat}(d:Array Int)(hb:w.heap[g]? = some (.cells cur e fr)) :
   (grow (putRow (Value.int .i64) (Sort.ahead w n) g off d) os).heap[g]? = some (.cells (putCells (Value.int .i64) off d cur) e fr):=by
 have hg:g<w.heap.size:=(Array.getElem?_eq_some_iff.1 hb).1
 rw[heap_grow_old _ _ (by simpa using hg)]
 simp [putRow,mapBlock,Sort.ahead,Array.getElem?_modify,hb,onCells]
theorem sA{os:Array Obj}(d:Array Int):w.grownBy (grow (putRow (Value.int .i64) (Sort.ahead w n) g off d) os) (some g):=by
 refine⟨rfl,rfl,rfl,by simp,fun k hk hne =>?_⟩
 rw[heap_grow_old _ _ (by simpa using hk)]
 have:g≠k:=fun e=>hne (by rw[e])
 simp [putRow,mapBlock,Sort.ahead,Array.getElem?_modify,this]
theorem wV(cur:Array Value)(off)(ts:List Int)(h:off+ts.length≤cur.size):((putCells (Value.int .i64) off ts.toArray cur).toList.drop off).take ts.length=ts.map (Value.int .i64):=by
 apply List.ext_getElem?
 intro j
 by_cases hj:j<ts.length
 · rw[List.getElem?_take_of_lt hj,List.getElem?_drop,Array.getElem?_toList]
   simp [putCells,hj,show off+j<cur.size by omega]
 rw[List.getElem?_take_eq_none (by omega),List.getElem?_eq_none (by simp;omega)]
theorem MemOk.putN(m:MemOk X w0 M w)(i){g off l c:Nat}{zs:List Int}(hm:lk M i=some (.seg (.slice (some ⟨g,off,none⟩) l c) e 1 (zs.map nD)))(ts:List Int)(hl:ts.length=zs.length)(n)(os:Array Obj) :
   MemOk X w0 ((i,.seg (.slice (some ⟨g,off,none⟩) l c) e 1 (ts.map nD)) :: M) (grow (putRow (Value.int .i64) (Sort.ahead w n) g off ts.toArray) os):=by
 obtain⟨h,hX⟩:=m.ok i _ hm
 have hkeep:Keep (fun b => ∃ r,lk M i=some r∧r.blk=some b) w (grow (putRow (Value.int .i64) (Sort.ahead w n) g off ts.toArray) os):=(jz (v:=.slice (some ⟨g,off,none⟩) l c) (sA ts.toArray)).mono (fun b hb=>⟨_,hm,hb⟩)
 refine m.upd i _ hkeep (fun b hb=>.inl ⟨_,hm,hb⟩) (fun hf _=>⟨oQ ?_,hX⟩)
 obtain⟨h1,h2⟩:=kN h
 refine⟨by simp,?_⟩
 rcases h2 with ⟨e1,-⟩|⟨g',off',cap,cur,e1,-,hb,hnc,hcm,hcs,htk⟩
 · cases e1
 injection e1 with e1 e2 e3
 injection e1 with e1
 injection e1 with e1 e4
 subst e1;subst e4;subst e2;subst e3
 refine .inr ⟨g,off,c,_,by rw[hl],Nat.zero_le _,uC _ hb,by omega,hcm,by simp [putCells];omega,?_⟩
 rw[Nat.mul_one]
 exact wV cur off ts (by omega)
theorem MemOk.numS(m:MemOk X w0 M w)(i){zs:List Int}(h:lk M i=some (.num v e .i64 zs)):MemOk X w0 ((i,.seg v e 1 (zs.map nD)) :: M) w:=by
 have h1:w.ownsRow w0.heap.size e 1 v zs.length (zs.map (Value.int .i64)):=m.ok i _ h
 have hl:=World.ownsRow.lt h1
 refine m.upd i _ (Keep.refl _ _) (fun b hb=>.inl ⟨_,h,hb⟩) (fun hf _=>⟨oQ ?_,fun b hb=>.inl (hl b hb).1⟩)
 obtain⟨a1,a2⟩:=OwnsAt.of h1
 refine⟨a1,?_⟩
 rcases a2 with a2|⟨g,off,cap,cur,b1,_,rest⟩
 · exact .inl a2
 exact .inr ⟨g,off,cap,cur,b1,Nat.zero_le _,rest⟩
theorem MemOk.rdN(m:MemOk X w0 M w){zs:List Int}(h:lk M i=some (.seg v e 1 (zs.map nD))):Rd (fun _=>True) w v (.ns .i64 zs):=qG (m.ok i _ h).1 (fun _ _=>trivial)
theorem MemOk.freezeSN(m:MemOk X w0 M w)(i){zs:List Int}(h:lk M i=some (.seg v e 1 (zs.map nD)))(hN:∀ b,b∉X.bad):MemOk X w0 ((i,.dat v (.ns .i64 zs)) :: M) w:=by
 have hh:=m.freezeS i h hN
 have ho:=m.ok i _ h
 have hown:=hh.ok i _ (by rw[iD,if_pos rfl])
 refine m.upd i _ (Keep.refl _ _) (fun b hb=>by cases hb) (fun hf hf2=>qG ho.1 (fun b hb=>hf2 b ⟨_,h,hb⟩ ((ho.2 b hb).resolve_right (hN b)) (fun c hc=>by cases hc)))
theorem MemOk.dropN(m:MemOk X w0 M w){p:Option Addr}{l c:Nat}{zs:List Int}(hm:lk M i=some (.dat (.slice p l c) (.ns k zs)))(j)(hj:j≤zs.length)(i2)(hi2:lk M i2=none):MemOk X w0 ((i2,.dat (.slice (if c=j then p else p.map (·.add (j*1))) (l - j) (c - j)) (.ns k (zs.drop j))) :: M) w:=
 m.dat i2 hi2 (.ns ((m.rd hm).ns_out.drop j hj))
end Go.Proofs.YtkehgingagggaaaGreat.K
end
section
namespace Go.Proofs
open Go.Shelf
def Tryz.sort64_ren : Go.Shelf.Ren := ⟨fun | 53 => 171 | 64 => 135 | 63 => 183 | 78 => 161 | 79 => 162 | 70 => 185 | 71 => 186 | 72 => 187 | 73 => 188 | 74 => 189 | 75 => 190 | 59 => 191 | 76 => 192 | 77 => 193 | 88 => 194 | 89 => 175 | 90 => 176 | 91 => 195 | 92 => 196 | 68 => 197 | 96 => 198 | n => n, fun | 22 => 48 | 23 => 2 | 3 => 3 | 51 => 169 | 0 => 0 | 67 => 194 | 69 => 108 | 4 => 4 | 61 => 186 | 60 => 185 | 44 => 191 | 5 => 5 | 9 => 9 | 75 => 205 | 79 => 209 | 83 => 214 | 84 => 215 | n => n, fun | n => n⟩
theorem Tryz.sort64 : Go.Proofs.SlLaysN.n53 Tryz.prog Tryz.sort64_ren := {
  mixed := by kernel_rfl
  f53 := ⟨Tryz.f171.name, by decide, Tryz.func171.trans (congrArg some (by kernel_rfl))⟩
  f59 := ⟨Tryz.f191.name, by decide, Tryz.func191.trans (congrArg some (by kernel_rfl))⟩
  f63 := ⟨Tryz.f183.name, by decide, Tryz.func183.trans (congrArg some (by kernel_rfl))⟩
  f64 := Tryz.func135.trans (congrArg some (by kernel_rfl))
  f68 := ⟨Tryz.f197.name, by decide, Tryz.func197.trans (congrArg some (by kernel_rfl))⟩
  f70 := ⟨Tryz.f185.name, by decide, Tryz.func185.trans (congrArg some (by kernel_rfl))⟩
  f71 := ⟨Tryz.f186.name, by decide, Tryz.func186.trans (congrArg some (by kernel_rfl))⟩
  f72 := ⟨Tryz.f187.name, by decide, Tryz.func187.trans (congrArg some (by kernel_rfl))⟩
  f73 := ⟨Tryz.f188.name, by decide, Tryz.func188.trans (congrArg some (by kernel_rfl))⟩
  f74 := ⟨Tryz.f189.name, by decide, Tryz.func189.trans (congrArg some (by kernel_rfl))⟩
  f75 := ⟨Tryz.f190.name, by decide, Tryz.func190.trans (congrArg some (by kernel_rfl))⟩
  f76 := ⟨Tryz.f192.name, by decide, Tryz.func192.trans (congrArg some (by kernel_rfl))⟩
  f77 := ⟨Tryz.f193.name, by decide, Tryz.func193.trans (congrArg some (by kernel_rfl))⟩
  f78 := Tryz.func161.trans (congrArg some (by kernel_rfl))
  f79 := Tryz.func162.trans (congrArg some (by kernel_rfl))
  f88 := ⟨Tryz.f194.name, by decide, Tryz.func194.trans (congrArg some (by kernel_rfl))⟩
  f89 := Tryz.func175.trans (congrArg some (by kernel_rfl))
  f90 := Tryz.func176.trans (congrArg some (by kernel_rfl))
  f91 := ⟨Tryz.f195.name, by decide, Tryz.func195.trans (congrArg some (by kernel_rfl))⟩
  f92 := ⟨Tryz.f196.name, by decide, Tryz.func196.trans (congrArg some (by kernel_rfl))⟩
  f96 := ⟨Tryz.f198.name, by decide, Tryz.func198.trans (congrArg some (by kernel_rfl))⟩
  t0 := Tryz.underlying0
  a0 := Tryz.isAgg0
  z0 := Tryz.sizeOf0
  v0 := Tryz.zeroValue0
  t3 := Tryz.underlying3
  a3 := Tryz.isAgg3
  z3 := Tryz.sizeOf3
  v3 := Tryz.zeroValue3
  t4 := Tryz.underlying4
  a4 := Tryz.isAgg4
  z4 := Tryz.sizeOf4
  v4 := Tryz.zeroValue4
  t5 := Tryz.underlying5
  a5 := Tryz.isAgg5
  z5 := Tryz.sizeOf5
  v5 := Tryz.zeroValue5
  t9 := Tryz.underlying9
  a9 := Tryz.isAgg9
  z9 := Tryz.sizeOf9
  v9 := Tryz.zeroValue9
  t22 := Tryz.underlying48
  a22 := Tryz.isAgg48
  z22 := Tryz.sizeOf48
  v22 := Tryz.zeroValue48
  t23 := Tryz.underlying2
  a23 := Tryz.isAgg2
  z23 := Tryz.sizeOf2
  v23 := Tryz.zeroValue2
  t44 := Tryz.underlying191
  a44 := Tryz.isAgg191
  z44 := Tryz.sizeOf191
  v44 := Tryz.zeroValue191
  t51 := Tryz.underlying169
  a51 := Tryz.isAgg169
  z51 := Tryz.sizeOf169
  v51 := Tryz.zeroValue169
  t60 := Tryz.underlying185
  a60 := Tryz.isAgg185
  z60 := Tryz.sizeOf185
  v60 := Tryz.zeroValue185
  t61 := Tryz.underlying186
  a61 := Tryz.isAgg186
  z61 := Tryz.sizeOf186
  v61 := Tryz.zeroValue186
  t67 := Tryz.underlying194
  a67 := Tryz.isAgg194
  z67 := Tryz.sizeOf194
  v67 := Tryz.zeroValue194
  t69 := Tryz.underlying108
  a69 := Tryz.isAgg108
  z69 := Tryz.sizeOf108
  v69 := Tryz.zeroValue108
  t75 := Tryz.underlying205
  a75 := Tryz.isAgg205
  z75 := Tryz.sizeOf205
  v75 := Tryz.zeroValue205
  t79 := Tryz.underlying209
  a79 := Tryz.isAgg209
  z79 := Tryz.sizeOf209
  v79 := Tryz.zeroValue209
  t83 := Tryz.underlying214
  a83 := Tryz.isAgg214
  z83 := Tryz.sizeOf214
  v83 := Tryz.zeroValue214
  t84 := Tryz.underlying215
  a84 := Tryz.isAgg215
  z84 := Tryz.sizeOf215
  v84 := Tryz.zeroValue215 }
def Tryz.delete64_ren : Go.Shelf.Ren := ⟨fun | 45 => 173 | n => n, fun | 22 => 48 | 23 => 2 | 3 => 3 | 4 => 4 | 0 => 0 | n => n, fun | n => n⟩
theorem Tryz.delete64 : Go.Proofs.SlLaysN.n45 Tryz.prog Tryz.delete64_ren := {
  mixed := by kernel_rfl
  f45 := ⟨Tryz.f173.name, by decide, Tryz.func173.trans (congrArg some (by kernel_rfl))⟩
  t0 := Tryz.underlying0
  a0 := Tryz.isAgg0
  z0 := Tryz.sizeOf0
  v0 := Tryz.zeroValue0
  t3 := Tryz.underlying3
  a3 := Tryz.isAgg3
  z3 := Tryz.sizeOf3
  v3 := Tryz.zeroValue3
  t4 := Tryz.underlying4
  a4 := Tryz.isAgg4
  z4 := Tryz.sizeOf4
  v4 := Tryz.zeroValue4
  t22 := Tryz.underlying48
  a22 := Tryz.isAgg48
  z22 := Tryz.sizeOf48
  v22 := Tryz.zeroValue48
  t23 := Tryz.underlying2
  a23 := Tryz.isAgg2
  z23 := Tryz.sizeOf2
  v23 := Tryz.zeroValue2
  i23 := by kernel_rfl }
def Tryz.index64_ren : Go.Shelf.Ren := ⟨fun | 29 => 172 | n => n, fun | 22 => 48 | 23 => 2 | 3 => 3 | 0 => 0 | 4 => 4 | n => n, fun | n => n⟩
theorem Tryz.index64 : Go.Proofs.SlLaysN.n29 Tryz.prog Tryz.index64_ren := {
  mixed := by kernel_rfl
  f29 := ⟨Tryz.f172.name, by decide, Tryz.func172.trans (congrArg some (by kernel_rfl))⟩
  t0 := Tryz.underlying0
  a0 := Tryz.isAgg0
  z0 := Tryz.sizeOf0
  v0 := Tryz.zeroValue0
  t3 := Tryz.underlying3
  a3 := Tryz.isAgg3
  z3 := Tryz.sizeOf3
  v3 := Tryz.zeroValue3
  t4 := Tryz.underlying4
  a4 := Tryz.isAgg4
  z4 := Tryz.sizeOf4
  v4 := Tryz.zeroValue4
  t22 := Tryz.underlying48
  a22 := Tryz.isAgg48
  z22 := Tryz.sizeOf48
  v22 := Tryz.zeroValue48
  t23 := Tryz.underlying2
  a23 := Tryz.isAgg2
  z23 := Tryz.sizeOf2
  v23 := Tryz.zeroValue2 }
def Tryz.sortI_ren : Go.Shelf.Ren := ⟨fun | 53 => 98 | 64 => 135 | 63 => 134 | 78 => 161 | 79 => 162 | 70 => 152 | 71 => 153 | 72 => 154 | 73 => 155 | 74 => 156 | 75 => 157 | 59 => 158 | 76 => 159 | 77 => 160 | 88 => 174 | 89 => 175 | 90 => 176 | 91 => 177 | 92 => 178 | 68 => 179 | 96 => 184 | n => n, fun | 22 => 35 | 23 => 3 | 3 => 3 | 51 => 169 | 0 => 0 | 67 => 194 | 69 => 108 | 4 => 4 | 61 => 186 | 60 => 185 | 44 => 191 | 5 => 5 | 9 => 9 | 75 => 205 | 79 => 209 | 83 => 214 | 84 => 215 | n => n, fun | n => n⟩
theorem Tryz.sortI : Go.Proofs.SlLaysN.n53 Tryz.prog Tryz.sortI_ren := {
  mixed := by kernel_rfl
  f53 := ⟨Tryz.f98.name, by decide, Tryz.func98.trans (congrArg some (by kernel_rfl))⟩
  f59 := ⟨Tryz.f158.name, by decide, Tryz.func158.trans (congrArg some (by kernel_rfl))⟩
  f63 := ⟨Tryz.f134.name, by decide, Tryz.func134.trans (congrArg some (by kernel_rfl))⟩
  f64 := Tryz.func135.trans (congrArg some (by kernel_rfl))
  f68 := ⟨Tryz.f179.name, by decide, Tryz.func179.trans (congrArg some (by kernel_rfl))⟩
  f70 := ⟨Tryz.f152.name, by decide, Tryz.func152.trans (congrArg some (by kernel_rfl))⟩
  f71 := ⟨Tryz.f153.name, by decide, Tryz.func153.trans (congrArg some (by kernel_rfl))⟩
  f72 := ⟨Tryz.f154.name, by decide, Tryz.func154.trans (congrArg some (by kernel_rfl))⟩
  f73 := ⟨Tryz.f155.name, by decide, Tryz.func155.trans (congrArg some (by kernel_rfl))⟩
  f74 := ⟨Tryz.f156.name, by decide, Tryz.func156.trans (congrArg some (by kernel_rfl))⟩
  f75 := ⟨Tryz.f157.name, by decide, Tryz.func157.trans (congrArg some (by kernel_rfl))⟩
  f76 := ⟨Tryz.f159.name, by decide, Tryz.func159.trans (congrArg some (by kernel_rfl))⟩
  f77 := ⟨Tryz.f160.name, by decide, Tryz.func160.trans (congrArg some (by kernel_rfl))⟩
  f78 := Tryz.func161.trans (congrArg some (by kernel_rfl))
  f79 := Tryz.func162.trans (congrArg some (by kernel_rfl))
  f88 := ⟨Tryz.f174.name, by decide, Tryz.func174.trans (congrArg some (by kernel_rfl))⟩
  f89 := Tryz.func175.trans (congrArg some (by kernel_rfl))
  f90 := Tryz.func176.trans (congrArg some (by kernel_rfl))
  f91 := ⟨Tryz.f177.name, by decide, Tryz.func177.trans (congrArg some (by kernel_rfl))⟩
  f92 := ⟨Tryz.f178.name, by decide, Tryz.func178.trans (congrArg some (by kernel_rfl))⟩
  f96 := ⟨Tryz.f184.name, by decide, Tryz.func184.trans (congrArg some (by kernel_rfl))⟩
  t0 := Tryz.underlying0
  a0 := Tryz.isAgg0
  z0 := Tryz.sizeOf0
  v0 := Tryz.zeroValue0
  t3 := Tryz.underlying3
  a3 := Tryz.isAgg3
  z3 := Tryz.sizeOf3
  v3 := Tryz.zeroValue3
  t4 := Tryz.underlying4
  a4 := Tryz.isAgg4
  z4 := Tryz.sizeOf4
  v4 := Tryz.zeroValue4
  t5 := Tryz.underlying5
  a5 := Tryz.isAgg5
  z5 := Tryz.sizeOf5
  v5 := Tryz.zeroValue5
  t9 := Tryz.underlying9
  a9 := Tryz.isAgg9
  z9 := Tryz.sizeOf9
  v9 := Tryz.zeroValue9
  t22 := Tryz.underlying35
  a22 := Tryz.isAgg35
  z22 := Tryz.sizeOf35
  v22 := Tryz.zeroValue35
  t23 := Tryz.underlying3
  a23 := Tryz.isAgg3
  z23 := Tryz.sizeOf3
  v23 := Tryz.zeroValue3
  t44 := Tryz.underlying191
  a44 := Tryz.isAgg191
  z44 := Tryz.sizeOf191
  v44 := Tryz.zeroValue191
  t51 := Tryz.underlying169
  a51 := Tryz.isAgg169
  z51 := Tryz.sizeOf169
  v51 := Tryz.zeroValue169
  t60 := Tryz.underlying185
  a60 := Tryz.isAgg185
  z60 := Tryz.sizeOf185
  v60 := Tryz.zeroValue185
  t61 := Tryz.underlying186
  a61 := Tryz.isAgg186
  z61 := Tryz.sizeOf186
  v61 := Tryz.zeroValue186
  t67 := Tryz.underlying194
  a67 := Tryz.isAgg194
  z67 := Tryz.sizeOf194
  v67 := Tryz.zeroValue194
  t69 := Tryz.underlying108
  a69 := Tryz.isAgg108
  z69 := Tryz.sizeOf108
  v69 := Tryz.zeroValue108
  t75 := Tryz.underlying205
  a75 := Tryz.isAgg205
  z75 := Tryz.sizeOf205
  v75 := Tryz.zeroValue205
  t79 := Tryz.underlying209
  a79 := Tryz.isAgg209
  z79 := Tryz.sizeOf209
  v79 := Tryz.zeroValue209
  t83 := Tryz.underlying214
  a83 := Tryz.isAgg214
  z83 := Tryz.sizeOf214
  v83 := Tryz.zeroValue214
  t84 := Tryz.underlying215
  a84 := Tryz.isAgg215
  z84 := Tryz.sizeOf215
  v84 := Tryz.zeroValue215 }
end Go.Proofs
end
