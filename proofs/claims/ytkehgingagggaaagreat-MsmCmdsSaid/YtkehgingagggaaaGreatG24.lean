/- General laws of walks. -/
import Derived.Test.YtkehgingagggaaaGreatG23
import Derived.Test.YtkehgingagggaaaGreatG20
import Derived.Test.YtkehgingagggaaaGreatG22
import Derived.Test.YtkehgingagggaaaGreatG12
namespace Go.Proofs.YtkehgingagggaaaGreat.K
open Go.ChangeShapes Go.WideShapes Go.ChangeAt Go.RowKit
set_option linter.unusedVariables false
set_option linter.unusedSimpArgs false
section
theorem fl38k17 : flatS Tryz.prog 38 [.int .i64 0,.int .i64 0,.int .i64 0,.int .i64 0,.int .i64 0,.slice none 0 0,.int .i64 0,.int .i64 0,.int .i64 0,.slice none 0 0] = true := by kernel_rfl
theorem fl44mac : flatS Tryz.prog 44 [.int .i64 0,.int .i64 0,.int .i64 0,.int .i64 0,.slice none 0 0] = true := by kernel_rfl
def x1 (pe : Int) (pl : List Int) : Cm := ⟨1,1,5,2,pe,pl,0,0,0,[]⟩
def v1 (pe : Int) (pl : List Int) : VolV := newV 1 5 2 pe 0 pl
theorem create_1 (w0 : World) :
   Calls Tryz.prog 42 #[.int .u8 1,.int .u8 4,.int .u8 1,.int .u8 1,.int .i64 0] w0 fun e w' => ∃ (pe : Int) (pl : List Int) (p : Option Addr) (c : Nat),e = .returned (.agg #[.int .i64 1,.int .i64 1,.int .i64 5,.int .i64 2,.int .i64 pe,.slice p pl.length c,.int .i64 0,.int .i64 0,.int .i64 0,.slice none 0 0]) ∧ NewOk 1 5 2 pe 0 pl ∧ Rd (New w0) w' (.slice p pl.length c) (.ns .i64 pl) ∧ Below w0.heap.size w0 w' := by
 refine (create_e 1 4 1 1 0 w0 (by omega) (by omega) (by omega) (by omega)).mono ?_
 rintro e w' ⟨bl,sz,pe,pl,p,c,he,h1,h2,h3,h4,h5,h6,h7,h8⟩
 have e1 : bl = 5 := by rw [h1]; rfl
 have e2 : sz = 2 := by rw [h2]; rfl
 subst e1; subst e2
 exact ⟨pe,pl,p,c,he,⟨by omega,by omega,by omega,by omega,by omega,by omega,h3,h4,h5,by omega,by omega⟩,h7,h8⟩
theorem x1_r {pe : Int} {pl : List Int} (h : NewOk 1 5 2 pe 0 pl) : CmdR (x1 pe pl) := by
 have hq := VolX.vp (x := newV 1 5 2 pe 0 pl) (VolR.new h) (Nat.zero_le _) (Nat.zero_le _)
 have h4 := hq.h4.2.2.2
 exact ⟨by dsimp only [x1]; omega,by dsimp only [x1]; omega,⟨by dsimp only [x1]; omega,by dsimp only [x1]; omega,by have h5 : 0 ≤ pe ∧ pe ≤ 256 := h4; show 0 ≤ pe ∧ pe ≤ 1099511627776; omega,by dsimp only [x1]; omega,by dsimp only [x1]; omega,by dsimp only [x1]; omega⟩,hq.pl.1,hq.pl.2,by simp [x1],(fun e he => by cases he)⟩
theorem x1_b {pe : Int} {pl : List Int} : ∀ e ∈ (x1 pe pl).its,BytesL e.2 := fun e he => by cases he
theorem x1_pl {pe : Int} {pl : List Int} (h : NewOk 1 5 2 pe 0 pl) : (x1 pe pl).pl.length ≤ 1000000 := by have := (x1_r h).pl; omega
theorem v1_s {pe : Int} {pl : List Int} (h : NewOk 1 5 2 pe 0 pl) : ∀ y ∈ [v1 pe pl],VolS 8 y := fun y hy => by rw [List.mem_singleton.1 hy]; exact newV_s h
theorem v1_q {pe : Int} {pl : List Int} (h : NewOk 1 5 2 pe 0 pl) : ∀ y ∈ [v1 pe pl],VQ y := fun y hy => (v1_s h y hy).q (by decide)
theorem v1_vp {pe : Int} {pl : List Int} (h : NewOk 1 5 2 pe 0 pl) : ∀ y ∈ [v1 pe pl],VP y := fun y hy => (v1_q h y hy).1
theorem v1_all {pe : Int} {pl : List Int} : allL [v1 pe pl] = [v1 pe pl] := all_of (List.Perm.refl _) (by simp [SrtV])
theorem v1_len {pe : Int} {pl : List Int} (h : NewOk 1 5 2 pe 0 pl) : (snapE [v1 pe pl]).length ≤ 1000000 := by
 have h1 := head_len (v1_vp h _ List.mem_cons_self)
 have h2 := encs_len [(([v1 pe pl].length : Nat) : Int)]
 rw [snapE,List.length_append,List.flatMap_cons,List.flatMap_nil,List.append_nil,volE,List.length_append]
 rw [show wsE (v1 pe pl).ws = [] from rfl]
 simp only [List.length_cons,List.length_nil] at *
 omega
theorem mApp_1 {pe : Int} {pl : List Int} (h : NewOk 1 5 2 pe 0 pl) : mApp [] (x1 pe pl) = ([v1 pe pl],0,0,0,0) := by
 unfold mApp
 rw [if_pos (show (x1 pe pl).kd = 1 from rfl),if_neg (fun ⟨y,hy,_⟩ => by cases hy),if_pos (show NewOk (x1 pe pl).vo (x1 pe pl).bl (x1 pe pl).sz (x1 pe pl).pe (x1 pe pl).to (x1 pe pl).pl from h)]; rfl
theorem mApp_2 {pe : Int} {pl : List Int} : mApp [v1 pe pl] (x1 pe pl) = ([v1 pe pl],29,0,0,0) := by
 unfold mApp
 rw [if_pos (show (x1 pe pl).kd = 1 from rfl),if_pos ⟨v1 pe pl,List.mem_singleton.2 rfl,rfl⟩]
set_option maxRecDepth 100000
set_option maxHeartbeats 4000000
theorem apply_c (X : Cx) (B G : Nat) (L : List VolV) (x : Cm) (hR : CmdR x) (hk1 : x.kd = 1) (hby : ∀ e ∈ x.its,BytesL e.2) (p : Option Addr) (c : Nat) (w0 : World) (m0 : MemOk X w0 [(1,.box B 87 [.map (some G)]),(2,.mp G 11 ((L).map keyV) ((L).map volD)),(3,.dat (.slice p (cmE x).length c) (.ns .u8 (cmE x)))] w0) :
   Calls Tryz.prog 14 #[.pointer (some ⟨B,0,none⟩),.slice p (cmE x).length c] w0 fun e w' => ∃ (L' : List VolV) (e9 : Int),e = .returned (.agg #[.int .i64 e9,.int .i64 0,.int .i64 0,.int .i64 0,.slice none 0 0]) ∧ mApp L x = (L',e9,0,0,0) ∧ MemOk X w0 [(1,.box B 87 [.map (some G)]),(2,.mp G 11 ((L').map keyV) ((L').map volD))] w' := by
 refine ent2 Tryz.func14 rfl Tryz.ntmps14 fun Y U =>?_
 refine zsr fun K0 hK0 =>?_
 refine plz (e_alloc U m0 20 fct26 rfl fun g1 Y w2 U m2 _ _ =>?_)
 refine znl (hK0 _ _ ?_)
 refine zsr fun K1 hK1 =>?_
 refine goCh U (.move rfl .nil) fun Y U =>?_
 refine plz (ecl U Tryz.func28 rfl (readCmd_o _ x hR hby _ _ _ (m2.into [(1,3)] (by decide) rfl)) ?_)
 rintro e w5 ⟨pp5,pi5,cp5,ci5,rfl,hm5⟩
 have mx5 := m2.back hm5 [(3,1),(21,2),(22,3)] (by decide); clear hm5 m2
 have m5 := mx5.oz [3,21,22,1,2,20]
 refine ⟨_,rfl,?_⟩; intro Y U
 refine goCh U (.move rfl<|.extract rfl rfl<|.extract rfl rfl .nil) fun Y U =>?_
 refine plz (e_alloc U m5 23 fct23 rfl fun g10 Y w11 U m11 _ _ =>?_)
 refine plz (stw U m11 23 fct18 fun w12 m12 _ =>?_)
 refine gz hK1 U (.assign rfl .nil) fun Y U =>?_
 refine wsk fun K2 hK2 =>?_
 replace U := U.oz [0,4,5,6]
 refine regS U (.move rfl<|.neq rfl rfl .nil) fun Y U =>?_
 refine bc U 13 ?_ ?_
 · intro hb _; exact absurd hb (by simp)
 clear U; intro _ U
 refine wcf U ?_
 refine zss (hK2 _ _ ?_)
 refine regS U (.fa 0 rfl U38<|.lb m12 23 U3 rfl rfl rfl .nil) fun Y U =>?_
 refine wp_block ?_
 refine regS U (.eql rfl rfl<|.assign rfl .nil) fun Y U =>?_
 refine bc U 21 ?_ ?_
 rotate_left
 · intro hb _; exact absurd hb (by simp [hk1])
 clear U; intro _ U
 refine wct U ?_
 replace U := U.oz [0,4,5]
 refine zsr fun K3 hK3 =>?_
 refine goCh U (.move rfl<|.loadBR m12 (i := 23) rfl rfl U38 rfl fct18 (by simp) (by dsimp only [List.drop,List.take] <;> rfl) .nil) fun Y U =>?_
 refine plz (ecl U Tryz.func47 rfl (create_x _ _ _ L x hR hk1 _ _ _ _ _ _ (m12.into [(1,1),(2,2),(3,21),(4,22)] (by decide) rfl)) ?_)
 rintro e w28 ⟨L',e9,rfl,hap,hm28⟩
 have mx28 := m12.back hm28 [(1,1),(2,2)] (by decide); clear hm28 m12
 have m28 := mx28.oz [1,2,3,20,23]
 refine ⟨_,rfl,?_⟩; intro Y U
 refine goCh U (.build rfl fct26 fl44mac rfl (by dsimp only [setL,List.set] <;> rfl) .nil) fun Y U =>?_
 refine plz (stw U m28 20 fct25 fun w31 m31 _ =>?_)
 refine znl (hK3 _ _ ?_)
 refine rtd (retC (fn := Tryz.f14) U m31 (i := 20) rfl rfl rfl U44 rfl fct25 ?_)
 exact ⟨_,_,rfl,hap,m31.only [1,2]⟩
theorem apply_k1 (X : Cx) (B G : Nat) (pe : Int) (pl : List Int) (hN : NewOk 1 5 2 pe 0 pl) (p : Option Addr) (c : Nat) (w0 : World) (m0 : MemOk X w0 [(1,.box B 87 [.map (some G)]),(2,.mp G 11 ((([] : List VolV)).map keyV) ((([] : List VolV)).map volD)),(3,.dat (.slice p (cmE (x1 pe pl)).length c) (.ns .u8 (cmE (x1 pe pl))))] w0) :
   Calls Tryz.prog 14 #[.pointer (some ⟨B,0,none⟩),.slice p (cmE (x1 pe pl)).length c] w0 fun e w' => e = .returned (.agg #[.int .i64 0,.int .i64 0,.int .i64 0,.int .i64 0,.slice none 0 0]) ∧ MemOk X w0 [(1,.box B 87 [.map (some G)]),(2,.mp G 11 (([v1 pe pl]).map keyV) (([v1 pe pl]).map volD))] w' :=
 (apply_c X B G [] (x1 pe pl) (x1_r hN) rfl x1_b p c w0 m0).mono fun e w' ⟨L',e9,he,ha,hm⟩ => by rw [mApp_1 hN] at ha; cases ha; exact ⟨he,hm⟩
theorem apply_k2 (X : Cx) (B G : Nat) (pe : Int) (pl : List Int) (hN : NewOk 1 5 2 pe 0 pl) (p : Option Addr) (c : Nat) (w0 : World) (m0 : MemOk X w0 [(1,.box B 87 [.map (some G)]),(2,.mp G 11 (([v1 pe pl]).map keyV) (([v1 pe pl]).map volD)),(3,.dat (.slice p (cmE (x1 pe pl)).length c) (.ns .u8 (cmE (x1 pe pl))))] w0) :
   Calls Tryz.prog 14 #[.pointer (some ⟨B,0,none⟩),.slice p (cmE (x1 pe pl)).length c] w0 fun e w' => e = .returned (.agg #[.int .i64 29,.int .i64 0,.int .i64 0,.int .i64 0,.slice none 0 0]) ∧ MemOk X w0 [(1,.box B 87 [.map (some G)]),(2,.mp G 11 (([v1 pe pl]).map keyV) (([v1 pe pl]).map volD))] w' :=
 (apply_c X B G [v1 pe pl] (x1 pe pl) (x1_r hN) rfl x1_b p c w0 m0).mono fun e w' ⟨L',e9,he,ha,hm⟩ => by rw [mApp_2] at ha; cases ha; exact ⟨he,hm⟩
set_option maxRecDepth 100000
set_option maxHeartbeats 4000000
theorem known17 (w0 : World) : Calls Tryz.prog 8 #[] w0 fun e w' => e = .returned (.bool true) ∧ Below w0.heap.size w0 w' := by
 refine ent0 Tryz.func8 rfl Tryz.ntmps8 fun Y U =>?_
 have m0 := MemOk.start (fun _ => False) w0
 refine regS U (.assign rfl .nil) fun Y U =>?_
 refine zsr fun K0 hK0 =>?_
 refine plz (ecl U Tryz.func42 rfl (create_1 _) ?_)
 rintro e w2 ⟨pe,pl9,p2,c2,rfl,hN,ho2,hb2⟩
 have m3 := m0.callF 20 rfl hb2 ho2
 have hR := x1_r hN
 refine ⟨_,rfl,?_⟩; intro Y U
 refine plz (e_alloc U m3 21 fct23 rfl fun g5 Y w6 U m6 _ _ =>?_)
 refine plz (stw U m6 21 fct18 fun w7 m7 _ =>?_)
 refine znl (hK0 _ _ ?_)
 refine zsr fun K1 hK1 =>?_
 refine goCh U (.loadBR m7 (i := 21) rfl rfl U38 rfl fct18 (by simp) (by dsimp only [List.drop,List.take] <;> rfl) .nil) fun Y U =>?_
 refine plz (ecn U Tryz.func25 rfl m7 22 (putCmd_yes (x1 pe pl9) hR _ _ _ _ _ _ ((m7.rd (i := 20) rfl).any) (Rd.l0 none 0 2)) fun p10 c10 Y w10 U m11 =>?_)
 have m13 := m11.freezeN 22 rfl
 refine gz hK1 U (.move rfl<|.extract rfl rfl<|.extract rfl rfl<|.assign rfl<|.assign rfl<|.nil) fun Y U =>?_
 replace U := U.oz [0,1,2,3]
 refine zsr fun K2 hK2 =>?_
 refine goCh U (.move rfl .nil) fun Y U =>?_
 refine plz (ecl U Tryz.func28 rfl (readCmd_o _ (x1 pe pl9) hR x1_b _ _ _ (m13.into [(1,22)] (by decide) rfl)) ?_)
 rintro e w22 ⟨pp22,pi22,cp22,ci22,rfl,hm22⟩
 have mx22 := m13.back hm22 [(22,1),(23,2),(24,3)] (by decide); clear hm22 m13
 have m22 := mx22.oz [22,23,24,20,21]
 refine ⟨_,rfl,?_⟩; intro Y U
 refine goCh U (.move rfl<|.extract rfl rfl<|.extract rfl rfl .nil) fun Y U =>?_
 refine plz (e_alloc U m22 25 fct23 rfl fun g27 Y w28 U m28 _ _ =>?_)
 refine plz (stw U m28 25 fct18 fun w29 m29 _ =>?_)
 refine gz hK2 U (.assign rfl .nil) fun Y U =>?_
 refine zsr fun K3 hK3 =>?_
 refine plz (ecl U Tryz.func9 rfl (mnew_x _ _ (m29.into [] (by decide) rfl)) ?_)
 rintro e w31 ⟨Bn26,Gn26,rfl,hm31⟩
 have mx31 := m29.back hm31 [(26,1),(27,2)] (by decide); clear hm31 m29
 have m31 := mx31.oz [26,27,20,21,22,23,24,25]
 refine ⟨_,rfl,?_⟩; intro Y U
 refine gz hK3 U (.assign rfl .nil) fun Y U =>?_
 refine wsk fun K4 hK4 =>?_
 replace U := U.oz [0,1,2,3,4,5,6]
 refine regS U (.move rfl<|.eqlP rfl rfl U27 .nil) fun Y U =>?_
 refine bc U 27 ?_ ?_
 · intro hb _; exact absurd hb (by simp)
 clear U; intro _ U
 refine wcf U ?_
 refine zss (hK4 _ _ ?_)
 refine zsr fun K5 hK5 =>?_
 refine goCh U (.move rfl<|.move rfl .nil) fun Y U =>?_
 have m42 := m31.dat 28 rfl (m31.rd (i := 22) rfl)
 refine plz (ecl U Tryz.func14 rfl (apply_k1 _ _ _ pe pl9 hN _ _ _ (m42.into [(1,26),(2,27),(3,28)] (by decide) rfl)) ?_)
 rintro e w43 ⟨rfl,hm43⟩
 have mx43 := m42.back hm43 [(26,1),(27,2)] (by decide); clear hm43 m42
 have m43 := mx43.oz [26,27,20,21,22,23,24,25]
 refine ⟨_,rfl,?_⟩; intro Y U
 refine goCh U (.move rfl<|.move rfl .nil) fun Y U =>?_
 have m47 := m43.dat 29 rfl (m43.rd (i := 22) rfl)
 refine plz (ecl U Tryz.func14 rfl (apply_k2 _ _ _ pe pl9 hN _ _ _ (m47.into [(1,26),(2,27),(3,29)] (by decide) rfl)) ?_)
 rintro e w48 ⟨rfl,hm48⟩
 have mx48 := m47.back hm48 [(26,1),(27,2)] (by decide); clear hm48 m47
 have m48 := mx48.oz [26,27,20,21,22,23,24,25]
 refine ⟨_,rfl,?_⟩; intro Y U
 refine goCh U (.move rfl .nil) fun Y U =>?_
 have m51 := m48.dat 30 rfl (Rd.nilN _ _ .u8 none)
 refine plz (ecl U Tryz.func14 rfl (apply_n _ _ _ _ [] (by decide) (fun z hz => by cases hz) (fun x _ _ => cmE_ne x) _ _ _ (m51.into [(1,26),(2,27),(3,30)] (by decide) rfl)) ?_)
 rintro e w52 ⟨rfl,hm52⟩
 have mx52 := m51.back hm52 [(26,1),(27,2)] (by decide); clear hm52 m51
 have m52 := mx52.oz [26,27,20,21,22,23,24,25]
 refine ⟨_,rfl,?_⟩; intro Y U
 refine plz (e_alloc U m52 31 fct26 rfl fun g54 Y w55 U m55 _ _ =>?_)
 refine plz (e_alloc U m55 32 fct26 rfl fun g56 Y w57 U m57 _ _ =>?_)
 refine plz (e_alloc U m57 33 fct26 rfl fun g58 Y w59 U m59 _ _ =>?_)
 refine plz (stw U m59 31 fct25 fun w60 m60 _ =>?_)
 refine plz (stw U m60 32 fct25 fun w61 m61 _ =>?_)
 refine plz (stw U m61 33 fct25 fun w62 m62 _ =>?_)
 refine znl (hK5 _ _ ?_)
 replace U := U.oz [0,1,3,4,5,6,7,8,9]
 refine zsr fun K6 hK6 =>?_
 refine goCh U (.move rfl .nil) fun Y U =>?_
 refine plz (ecl U Tryz.func18 rfl (mvol_x _ _ _ [v1 pe pl9] 1 _ (v1_vp hN) (m62.into [(1,26),(2,27)] (by decide) rfl)) ?_)
 rintro e w66 ⟨v,there,pv1,pv2,pv3,dv1,dv2,dv3,rfl,hth,hno,hm66⟩
 have mx66 := m62.back hm66 [(26,1),(27,2),(34,3),(35,4),(36,5)] (by decide); clear hm66 m62
 have m66 := mx66.oz [26,27,34,35,36,20,21,22,23,24,25,31,32,33]
 refine ⟨_,rfl,?_⟩; intro Y U
 revert U
 obtain rfl : true = there := by cases there with | true => rfl | false => exact absurd ⟨v1 pe pl9,List.mem_singleton.2 rfl,rfl⟩ (hno rfl).2
 obtain rfl : v = v1 pe pl9 := List.mem_singleton.1 (hth rfl).1
 intro U
 refine goCh U (.move rfl<|.extract rfl rfl<|.extract rfl rfl .nil) fun Y U =>?_
 refine plz (e_alloc U m66 37 fct14 rfl fun g71 Y w72 U m72 _ _ =>?_)
 refine plz (stw U m72 37 fct13 fun w73 m73 _ =>?_)
 refine gz hK6 U (.assign rfl .nil) fun Y U =>?_
 refine zsr fun K7 hK7 =>?_
 refine plz (ecl U Tryz.func9 rfl (mnew_x _ _ (m73.into [] (by decide) rfl)) ?_)
 rintro e w75 ⟨Bn38,Gn38,rfl,hm75⟩
 have mx75 := m73.back hm75 [(38,1),(39,2)] (by decide); clear hm75 m73
 have m75 := mx75.oz [38,39,20,21,22,23,24,25,26,27,31,32,33,34,35,36,37]
 refine ⟨_,rfl,?_⟩; intro Y U
 refine gz hK7 U (.assign rfl .nil) fun Y U =>?_
 replace U := U.oz [0,1,3,4,5,6,7,8,9,10,11,12]
 refine zsr fun K8 hK8 =>?_
 refine goCh U (.move rfl<|.move rfl .nil) fun Y U =>?_
 refine plz (ecl U Tryz.func22 rfl (snap_x _ _ _ [v1 pe pl9] _ (v1_vp hN) (by simp) (m75.into [(1,26),(2,27)] (by decide) rfl)) ?_)
 rintro e w83 ⟨p83,c83,rfl,hm83⟩
 have mx83 := m75.back hm83 [(26,1),(27,2),(40,3)] (by decide); clear hm83 m75
 have m83 := mx83.oz [26,27,40,20,21,22,23,24,25,31,32,33,34,35,36,37,38,39]
 refine ⟨_,rfl,?_⟩; intro Y U
 rw [v1_all] at m83 U
 refine plz (ecl U Tryz.func23 rfl (load_o _ _ _ [] [v1 pe pl9] (by simp [SrtV]) (v1_q hN) (by simp) (v1_len hN) _ _ _ (m83.into [(1,38),(2,39),(3,40)] (by decide) rfl)) ?_)
 rintro e w85 ⟨G9,rfl,hm85⟩
 have mx85 := m83.back hm85 [(38,1),(39,2),(40,3)] (by decide); clear hm85 m83
 have m85 := mx85.oz [38,39,40,20,21,22,23,24,25,26,27,31,32,33,34,35,36,37]
 refine ⟨_,rfl,?_⟩; intro Y U
 refine gz hK8 U (.assign rfl .nil) fun Y U =>?_
 refine zsr fun K9 hK9 =>?_
 refine goCh U (.move rfl<|.eql rfl rfl<|.move rfl .nil) fun Y U =>?_
 refine bc U 48 ?_ ?_
 rotate_left
 · intro hb _; exact absurd hb (by simp)
 clear U; intro _ U
 refine goCh U (.moveZ rfl<|.eqlZ rfl rfl<|.pickT rfl rfl<|.move rfl .nil) fun Y U =>?_
 refine bc U 52 ?_ ?_
 rotate_left
 · intro hb _; exact absurd hb (by simp)
 clear U; intro _ U
 refine goCh U (.loadBRZ m85 (i := 21) rfl rfl U38 rfl fct18 (by simp) (by dsimp only [List.drop,List.take] <;> rfl)<|.loadBRZ m85 (i := 25) rfl rfl U38 rfl fct18 (by simp) (by dsimp only [List.drop,List.take] <;> rfl) .nil) fun Y U =>?_
 refine stz U (ecb U Tryz.func30 rfl m85 (cmd_t (x1 pe pl9) (x1_pl hN) (by simp [x1]) _ _ _ _ _ _ _ _ _ _ _ ((m85.rd (i := 20) rfl).any) (Rd.l0 none 0 2) ((m85.rd (i := 23) rfl).any) ((m85.rd (i := 24) rfl).any)) fun Y w102 U m103 =>?_)
 refine goCh U (.pickT rfl rfl<|.move rfl<|.faZ 0 rfl U44<|.loadB1Z m103 (i := 31) rfl rfl rfl U42 rfl<|.eqlZ rfl rfl<|.pickT rfl rfl<|.move rfl .nil) fun Y U =>?_
 refine bc U 62 ?_ ?_
 rotate_left
 · intro hb _; exact absurd hb (by simp)
 clear U; intro _ U
 refine goCh U (.faZ 0 rfl U44<|.loadB1Z m103 (i := 32) rfl rfl rfl U42 rfl<|.eqlZ rfl rfl<|.pickT rfl rfl<|.move rfl .nil) fun Y U =>?_
 refine bc U 67 ?_ ?_
 rotate_left
 · intro hb _; exact absurd hb (by simp)
 clear U; intro _ U
 refine goCh U (.faZ 0 rfl U44<|.loadB1Z m103 (i := 33) rfl rfl rfl U42 rfl<|.eqlZ rfl rfl<|.pickT rfl rfl<|.move rfl .nil) fun Y U =>?_
 refine bc U 72 ?_ ?_
 rotate_left
 · intro hb _; exact absurd hb (by simp)
 clear U; intro _ U
 refine goCh U (.moveZ rfl<|.pickT rfl rfl<|.move rfl<|.faZ 1 rfl U51<|.loadB1Z m103 (i := 37) rfl rfl rfl U3 rfl<|.faZ 2 rfl U38<|.loadB1Z m103 (i := 21) rfl rfl rfl U3 rfl<|.eqlZ rfl rfl<|.pickT rfl rfl<|.move rfl .nil) fun Y U =>?_
 refine bc U 82 ?_ ?_
 rotate_left
 · intro hb _; exact absurd hb (by simp [v1,newV])
 clear U; intro _ U
 refine goCh U (.moveZ rfl<|.pickT rfl rfl<|.move rfl<|.moveZ rfl .nil) fun Y U =>?_
 refine stz U (ecl U Tryz.func17 rfl (all_x _ _ _ [v1 pe pl9] _ 8 (by decide) (v1_s hN) (by simp) (m103.into [(1,38),(2,39)] (by decide) rfl)) ?_)
 rintro e w140 ⟨p140,c140,rfl,hm140⟩
 have mx140 := m103.back hm140 [(38,1),(39,2),(41,3)] (by decide); clear hm140 m103
 have m140 := mx140.oz [38,39,41,20,21,22,23,24,25,26,27,31,32,33,34,35,36,37,40]
 refine ⟨_,rfl,?_⟩; intro Y U
 rw [v1_all] at m140 U
 refine goCh U (.lenZ rfl U30<|.eqlZ rfl rfl<|.pickT rfl rfl<|.move rfl .nil) fun Y U =>?_
 refine bc U 91 ?_ ?_
 rotate_left
 · intro hb _; exact absurd hb (by simp)
 clear U; intro _ U
 refine goCh U (.loadBRZ m140 (i := 21) rfl rfl U38 rfl fct18 (by simp) (by dsimp only [List.drop,List.take] <;> rfl) .nil) fun Y U =>?_
 refine stz U (ecb U Tryz.func26 rfl m140 (cmdRight_yes (x1 pe pl9) hR _ _ _ _ _ _ ((m140.rd (i := 20) rfl).any) (Rd.l0 none 0 2)) fun Y w148 U m149 =>?_)
 refine goCh U (.pickT rfl rfl<|.move rfl<|.buildZ rfl fct23 fl38k17 rfl (by dsimp only [setL,List.set] <;> rfl) .nil) fun Y U =>?_
 refine stz U (ecb U Tryz.func26 rfl m149 (cmdRight_no ⟨0,0,0,0,0,[],0,0,0,[]⟩ (fun h => by have := h.kd; dsimp only at this; omega) _ _ _ _ _ _ (Rd.nilN _ _ .i64 none) (Rd.l0 none 0 2)) fun Y w154 U m155 =>?_)
 refine gz hK9 U (.notZ rfl<|.pickT rfl rfl<|.assign rfl<|.nil) fun Y U =>?_
 refine rt1 U ?_
 exact ⟨rfl,m155.below⟩
end
section
theorem fl38ycm : flatS Tryz.prog 38 [.int .i64 0,.int .i64 0,.int .i64 0,.int .i64 0,.int .i64 0,.slice none 0 0,.int .i64 0,.int .i64 0,.int .i64 0,.slice none 0 0] = true := by kernel_rfl
def ItG (it : List (Int × List Int)) : Prop := it.length ≤ 8 ∧ (∀ e ∈ it,(0 ≤ e.1 ∧ e.1 ≤ 255) ∧ e.2.length ≤ 32) ∧ ItsB it
theorem itG_nil : ItG [] := ⟨by decide,(fun _ h => by cases h),(fun _ h => by cases h)⟩
theorem itG_of {bl : Int} {z : Nat} {it : List (Int × List Int)} (h : ItPre (max bl 1) z it it.length) (h8 : it.length ≤ 8) (hb : ItsB it) (hbl : bl ≤ 256) (hz : z ≤ 32) : ItG it := ⟨h8,fun e he => by
 obtain ⟨j,hj,rfl⟩ := List.getElem_of_mem he
 have h9 := h j hj
 rw [List.getD,List.getElem?_eq_getElem hj] at h9
 simp only [Option.getD_some] at h9
 omega,hb⟩
theorem cmdR_of {kd vo at0 ix : Int} {it : List (Int × List Int)} (hvo : 0 ≤ vo ∧ vo ≤ 7) (hkd : 2 ≤ kd ∧ kd ≤ 8) (hat : 0 ≤ at0 ∧ at0 ≤ 1099511627776) (hix : 0 ≤ ix ∧ ix ≤ 1099511627776) (h : ItG it) : CmdR ⟨kd,vo,0,0,0,[],0,at0,ix,it⟩ :=
 ⟨by dsimp only; omega,hvo,by dsimp only; omega,by simp,(fun z hz => by cases hz),h.1,h.2.1⟩
theorem tmod255 {xa : Int} {n : Nat} (h : 0 ≤ xa ∧ xa ≤ 255) : 0 ≤ xa.tmod ((n : Int) + 2) ∧ xa.tmod ((n : Int) + 2) ≤ 255 := by
 rw [Int.tmod_eq_emod_of_nonneg h.1]
 have h1 := Int.emod_nonneg xa (show ((n : Int) + 2) ≠ 0 by omega)
 have h2 : xa % ((n : Int) + 2) ≤ xa := by
   rcases Int.lt_or_le xa ((n : Int) + 2) with h3 | h3
   · rw [Int.emod_eq_of_lt h.1 h3]; exact Int.le_refl _
   have := Int.emod_lt_of_pos xa (show (0 : Int) < (n : Int) + 2 by omega); omega
 omega
set_option maxRecDepth 100000
set_option maxHeartbeats 4000000
theorem scmd_r (vo bl : Int) (z : Nat) (pe to ne fl : Int) (hi : Bool) (pp pn pw : Option Addr) (np cp nn9 cn9 nw cw : Nat) (wh xa xb xc : Int) (w0 : World) (hvo : 0 ≤ vo ∧ vo ≤ 7) (hbl : bl ≤ 256) (hz : z ≤ 32) (hnw : nw ≤ 1000000) (hne : 0 ≤ ne ∧ ne ≤ 1099511627776) (hw9 : 0 ≤ wh ∧ wh ≤ 255) (ha9 : 0 ≤ xa ∧ xa ≤ 255) (hb9 : 0 ≤ xb ∧ xb ≤ 255) (hc9 : 0 ≤ xc ∧ xc ≤ 255) :
   Calls Tryz.prog 41 #[.agg #[.int .i64 vo,.int .i64 bl,.int .i64 (z : Int),.int .i64 pe,.slice pp np cp,.int .i64 to,.int .i64 ne,.bool hi,.int .i64 fl,.slice pn nn9 cn9,.slice pw nw cw],.bool true,.int .u8 wh,.int .u8 xa,.int .u8 xb,.int .u8 xc] w0 fun e w' => ∃ (kd at0 ix : Int) (it : List (Int × List Int)) (pi : Option Addr) (ci : Nat),e = .returned (.agg #[.int .i64 kd,.int .i64 vo,.int .i64 0,.int .i64 0,.int .i64 0,.slice none 0 0,.int .i64 0,.int .i64 at0,.int .i64 ix,.slice pi it.length ci]) ∧ (2 ≤ kd ∧ kd ≤ 8) ∧ CmdR ⟨kd,vo,0,0,0,[],0,at0,ix,it⟩ ∧ ItsB it ∧ Rd (New w0) w' (.slice pi it.length ci) (.l 2 (it.map itD)) ∧ Below w0.heap.size w0 w' := by
 refine ent6 Tryz.func41 rfl Tryz.ntmps41 fun Y U =>?_
 have m0 := MemOk.start (fun _ => False) w0
 have htm := tmod255 (n := nw) ha9
 refine zsr fun K0 hK0 =>?_
 refine plz (e_box U m0 20 (cs := [_,_,_,_,_,_,_,_,_,_,_]) rfl rfl rfl fun g1 Y w2 U m2 _ _ =>?_)
 refine plz (e_alloc U m2 21 fct23 rfl fun g3 Y w4 U m4 _ _ =>?_)
 refine znl (hK0 _ _ ?_)
 refine wsk fun K1 hK1 =>?_
 refine regS U (.move rfl<|.not rfl .nil) fun Y U =>?_
 refine wcf U ?_
 refine zss (hK1 _ _ ?_)
 refine zsr fun K2 hK2 =>?_
 refine goCh U (.fa 0 rfl U51<|.lb m4 20 U3 rfl rfl rfl<|.build rfl fct23 fl38ycm rfl (by dsimp only [setL,List.set] <;> rfl) .nil) fun Y U =>?_
 refine plz (e_alloc U m4 22 fct23 rfl fun g13 Y w14 U m14 _ _ =>?_)
 refine plz (stw U m14 22 fct18 fun w15 m15 _ =>?_)
 refine znl (hK2 _ _ ?_)
 refine wsk fun K3 hK3 =>?_
 have hC3 : ∀ (a : Act) (w : World),(∃ (kd at0 ix : Int) (it : List (Int × List Int)) (pi : Option Addr) (ci : Nat) (B6 B12 B14 : Nat),(2 ≤ kd ∧ kd ≤ 8) ∧ (0 ≤ at0 ∧ at0 ≤ 1099511627776) ∧ (0 ≤ ix ∧ ix ≤ 1099511627776) ∧ ItG it ∧ Has 131 [(2,.int .u8 wh),(3,.int .u8 xa),(4,.int .u8 xb),(5,.int .u8 xc),(6,.pointer (some ⟨B6,0,none⟩)),(12,.pointer (some ⟨B12,0,none⟩)),(14,.pointer (some ⟨B14,0,none⟩))] a ∧ MemOk (cn w0) w0 [(6,.box B6 51 [.int .i64 vo,.int .i64 bl,.int .i64 (z : Int),.int .i64 pe,.slice pp np cp,.int .i64 to,.int .i64 ne,.bool hi,.int .i64 fl,.slice pn nn9 cn9,.slice pw nw cw]),(12,.box B12 38 [.int .i64 0,.int .i64 0,.int .i64 0,.int .i64 0,.int .i64 0,.slice none 0 0,.int .i64 0,.int .i64 0,.int .i64 0,.slice none 0 0]),(14,.box B14 38 [.int .i64 kd,.int .i64 vo,.int .i64 0,.int .i64 0,.int .i64 0,.slice none 0 0,.int .i64 0,.int .i64 at0,.int .i64 ix,.slice pi it.length ci]),(9,.dat (.slice pi it.length ci) (.l 2 (it.map itD)))] w) → K3 a w := by
   clear U m15
   rintro Y w16 ⟨kd,at0,ix,it,pi,ci,B6,B12,B14,hkd,hat9,hix9,hIG,U,m16⟩
   refine hK3 _ _ ?_
   refine wsk fun K4 hK4 =>?_
   refine zsr fun K5 hK5 =>?_
   refine goCh U (.fa 7 rfl U51<|.lb m16 6 U4 rfl rfl rfl<|.move rfl .nil) fun Y U =>?_
   refine bc U 111 ?_ ?_
   ·
    intro hb23 U; try simp only [QQ,Qax] at hb23
    refine gz hK5 U (.moveZ rfl<|.remZ rfl rfl (by decide) rfl<|.lssZ rfl rfl<|.pickT rfl rfl<|.nil) fun Y U =>?_
    refine bc U 115 ?_ ?_
    ·
     intro hb28 U; try simp only [QQ,Qax] at hb28
     refine wct U ?_
     replace U := U.oz [3,4,5,6,12,14]
     have m30 := m16.oz [6,9,12,14]
     refine region_p 15 (B := [(6,_)]) (m30.to ⟨il,trivial⟩) m30 (by kernel_rfl) (fun w31 hP31 m31 =>?_); clear m30
     refine goR hP31 [0,1,2,3,4,5,6,7,8,9,10] [1,3,5,7] 11 0 2047 U (m31.to ⟨il,trivial⟩) (.fa 0 rfl U51<|.lb hh 6 U3 rfl rfl rfl<|.fa 6 rfl U51<|.lb hh 6 U3 rfl rfl rfl<|.fa 1 rfl U51<|.lb hh 6 U3 rfl rfl rfl<|.fa 2 rfl U51<|.lb hh 6 U3 rfl rfl rfl<|.move rfl<|.move rfl<|.move rfl .nil) fun Y U =>?_
     refine so 11 ?_
     refine e_litN U m31 100 (k := .u8) rfl rfl U22 fct0 rfl rfl rfl rfl fun g43 Y w44 U m44 =>?_
     refine ⟨m44.to ⟨il,trivial⟩,?_⟩
     have m45 := m44.freezeN 100 rfl
     refine so 12 ?_
     refine ecl U Tryz.func90 rfl (sitem_any bl z [xa,xb,xc] _ _ _ ((m45.rd (i := 100) rfl).any) (by simp) (b3 ha9 hb9 hc9) (by omega)) ?_
     rintro e w46 ⟨it,p46,c46,rfl,hit8,hpre9,hitb,hit1,hd46,hb46⟩
     have m47 := m45.callF 101 rfl hb46 hd46
     have hIG : ItG it := itG_of hpre9 hit8 hitb (by omega) (by omega)
     refine ⟨_,rfl,?_⟩; intro Y U
     refine ⟨m47.to ⟨il,trivial⟩,?_⟩
     refine goA hP31 [13] 1 8191 16383 U (m47.to ⟨il,trivial⟩) (.build rfl fct23 fl38ycm rfl (by dsimp only [setL,List.set] <;> rfl) .nil) fun Y U =>?_
     refine so 14 ?_
     refine stw U m47 14 fct18 fun w50 m50 _ =>?_
     refine ⟨m50.to ⟨il,trivial⟩,?_⟩
     refine wpAnyE_done (by kernel_rfl) ?_ _
     refine hK4 _ _ ?_
     replace U := U.oz [12,14]
     refine zsr fun K6 hK6 =>?_
     refine goCh U (.loadBR m50 (i := 14) rfl rfl U38 rfl fct18 (by simp) (by dsimp only [List.drop,List.take] <;> rfl) .nil) fun Y U =>?_
     refine plz (stw U m50 12 fct18 fun w54 m54 _ =>?_)
     refine znl (hK6 _ _ ?_)
     refine rtd (retC (fn := Tryz.f41) U m54 (i := 12) rfl rfl rfl U38 rfl fct18 ?_)
     exact ⟨_,_,_,_,_,_,rfl,(by first | exact hkd | decide),cmdR_of hvo (by first | exact hkd | decide) (by first | exact hat9 | decide) (by first | exact hix9 | omega) hIG,hIG.2.2,m54.outF (i := 101) rfl,m54.below⟩
    intro hb28 U; try simp only [QQ,Qax] at hb28
    refine wcf U ?_
    refine zss (hK4 _ _ ?_)
    replace U := U.oz [12,14]
    refine zsr fun K7 hK7 =>?_
    refine goCh U (.loadBR m16 (i := 14) rfl rfl U38 rfl fct18 (by simp) (by dsimp only [List.drop,List.take] <;> rfl) .nil) fun Y U =>?_
    refine plz (stw U m16 12 fct18 fun w58 m58 _ =>?_)
    refine znl (hK7 _ _ ?_)
    refine rtd (retC (fn := Tryz.f41) U m58 (i := 12) rfl rfl rfl U38 rfl fct18 ?_)
    exact ⟨_,_,_,_,_,_,rfl,(by first | exact hkd | decide),cmdR_of hvo (by first | exact hkd | decide) (by first | exact hat9 | decide) (by first | exact hix9 | omega) hIG,hIG.2.2,m58.outF (i := 9) rfl,m58.below⟩
   intro hb23 U; try simp only [QQ,Qax] at hb23
   refine gz hK5 U (.sk<|.sk<|.sk<|.pickF rfl rfl<|.nil) fun Y U =>?_
   refine wcf U ?_
   refine zss (hK4 _ _ ?_)
   replace U := U.oz [12,14]
   refine zsr fun K8 hK8 =>?_
   refine goCh U (.loadBR m16 (i := 14) rfl rfl U38 rfl fct18 (by simp) (by dsimp only [List.drop,List.take] <;> rfl) .nil) fun Y U =>?_
   refine plz (stw U m16 12 fct18 fun w66 m66 _ =>?_)
   refine znl (hK8 _ _ ?_)
   refine rtd (retC (fn := Tryz.f41) U m66 (i := 12) rfl rfl rfl U38 rfl fct18 ?_)
   exact ⟨_,_,_,_,_,_,rfl,(by first | exact hkd | decide),cmdR_of hvo (by first | exact hkd | decide) (by first | exact hat9 | decide) (by first | exact hix9 | omega) hIG,hIG.2.2,m66.outF (i := 9) rfl,m66.below⟩
 replace U := U.oz [2,3,4,5,6,12,14]
 refine regS U (.move rfl<|.rem rfl rfl (by decide) rfl .nil) fun Y U =>?_
 refine wp_block ?_
 refine wsk fun K9 hK9 =>?_
 refine regS U (.eql rfl rfl<|.assign rfl .nil) fun Y U =>?_
 refine bc U 39 ?_ ?_
 ·
  intro hb72 U; try simp only [QQ,Qax] at hb72
  refine wct U ?_
  refine zss (hK9 _ _ ?_)
  refine wct U ?_
  refine wp_region_lit ?_
  refine goCh U (.fa 1 rfl U51<|.lb m15 20 U3 rfl rfl rfl<|.fa 2 rfl U51<|.lb m15 20 U3 rfl rfl rfl<|.move rfl<|.move rfl<|.move rfl .nil) fun Y U =>?_
  refine plz (e_litN U m15 23 (k := .u8) rfl rfl U22 fct0 rfl rfl rfl rfl fun g80 Y w81 U m81 =>?_)
  have m82 := m81.freezeN 23 rfl
  refine plz (ecl U Tryz.func90 rfl (sitem_any bl z [xa,xb,xc] _ _ _ ((m82.rd (i := 23) rfl).any) (by simp) (b3 ha9 hb9 hc9) (by omega)) ?_)
  rintro e w83 ⟨it,p83,c83,rfl,hit8,hpre9,hitb,hit1,hd83,hb83⟩
  have m84 := m82.callF 24 rfl hb83 hd83
  have hIG : ItG it := itG_of hpre9 hit8 hitb (by omega) (by omega)
  refine ⟨_,rfl,?_⟩; intro Y U
  refine goCh U (.fieldAddr (off := 0) rfl U38 rfl (s := 0) (by kernel_rfl) rfl .nil) fun Y U =>?_
  refine plz (st1 U m84 22 fct17 fun w87 m87 _ =>?_)
  refine goCh U (.fieldAddr (off := 9) rfl U38 rfl (s := 0) (by kernel_rfl) rfl .nil) fun Y U =>?_
  refine plz (st1 U m87 22 fct6 fun w89 m89 _ =>?_)
  refine wpList_nil ?_
  show K3 _ _
  exact hC3 _ _ ⟨_,_,_,it,_,_,_,_,_,by decide,(by omega),(by omega),hIG,U.only [2,3,4,5,6,12,14],m89.ren [(6,20),(12,21),(14,22),(9,24)] (by decide)⟩
 intro hb72 U; try simp only [QQ,Qax] at hb72
 refine wcf U ?_
 refine regS U (.eql rfl rfl<|.assign rfl .nil) fun Y U =>?_
 refine bc U 39 ?_ ?_
 ·
  intro hb92 U; try simp only [QQ,Qax] at hb92
  refine wct U ?_
  refine zss (hK9 _ _ ?_)
  refine wct U ?_
  refine wp_region_lit ?_
  refine goCh U (.fa 1 rfl U51<|.lb m15 20 U3 rfl rfl rfl<|.fa 2 rfl U51<|.lb m15 20 U3 rfl rfl rfl<|.move rfl<|.move rfl<|.move rfl .nil) fun Y U =>?_
  refine plz (e_litN U m15 23 (k := .u8) rfl rfl U22 fct0 rfl rfl rfl rfl fun g100 Y w101 U m101 =>?_)
  have m102 := m101.freezeN 23 rfl
  refine plz (ecl U Tryz.func90 rfl (sitem_any bl z [xa,xb,xc] _ _ _ ((m102.rd (i := 23) rfl).any) (by simp) (b3 ha9 hb9 hc9) (by omega)) ?_)
  rintro e w103 ⟨it,p103,c103,rfl,hit8,hpre9,hitb,hit1,hd103,hb103⟩
  have m104 := m102.callF 24 rfl hb103 hd103
  have hIG : ItG it := itG_of hpre9 hit8 hitb (by omega) (by omega)
  refine ⟨_,rfl,?_⟩; intro Y U
  refine goCh U (.fieldAddr (off := 0) rfl U38 rfl (s := 0) (by kernel_rfl) rfl .nil) fun Y U =>?_
  refine plz (st1 U m104 22 fct17 fun w107 m107 _ =>?_)
  refine goCh U (.fieldAddr (off := 9) rfl U38 rfl (s := 0) (by kernel_rfl) rfl .nil) fun Y U =>?_
  refine plz (st1 U m107 22 fct6 fun w109 m109 _ =>?_)
  refine wpList_nil ?_
  show K3 _ _
  exact hC3 _ _ ⟨_,_,_,it,_,_,_,_,_,by decide,(by omega),(by omega),hIG,U.only [2,3,4,5,6,12,14],m109.ren [(6,20),(12,21),(14,22),(9,24)] (by decide)⟩
 intro hb92 U; try simp only [QQ,Qax] at hb92
 refine wcf U ?_
 refine regS U (.eql rfl rfl<|.assign rfl .nil) fun Y U =>?_
 refine bc U 39 ?_ ?_
 ·
  intro hb112 U; try simp only [QQ,Qax] at hb112
  refine wct U ?_
  refine zss (hK9 _ _ ?_)
  refine wct U ?_
  refine wp_region_lit ?_
  refine goCh U (.fa 1 rfl U51<|.lb m15 20 U3 rfl rfl rfl<|.fa 2 rfl U51<|.lb m15 20 U3 rfl rfl rfl<|.move rfl<|.move rfl<|.move rfl .nil) fun Y U =>?_
  refine plz (e_litN U m15 23 (k := .u8) rfl rfl U22 fct0 rfl rfl rfl rfl fun g120 Y w121 U m121 =>?_)
  have m122 := m121.freezeN 23 rfl
  refine plz (ecl U Tryz.func90 rfl (sitem_any bl z [xa,xb,xc] _ _ _ ((m122.rd (i := 23) rfl).any) (by simp) (b3 ha9 hb9 hc9) (by omega)) ?_)
  rintro e w123 ⟨it,p123,c123,rfl,hit8,hpre9,hitb,hit1,hd123,hb123⟩
  have m124 := m122.callF 24 rfl hb123 hd123
  have hIG : ItG it := itG_of hpre9 hit8 hitb (by omega) (by omega)
  refine ⟨_,rfl,?_⟩; intro Y U
  refine goCh U (.fieldAddr (off := 0) rfl U38 rfl (s := 0) (by kernel_rfl) rfl .nil) fun Y U =>?_
  refine plz (st1 U m124 22 fct17 fun w127 m127 _ =>?_)
  refine goCh U (.fieldAddr (off := 9) rfl U38 rfl (s := 0) (by kernel_rfl) rfl .nil) fun Y U =>?_
  refine plz (st1 U m127 22 fct6 fun w129 m129 _ =>?_)
  refine wpList_nil ?_
  show K3 _ _
  exact hC3 _ _ ⟨_,_,_,it,_,_,_,_,_,by decide,(by omega),(by omega),hIG,U.only [2,3,4,5,6,12,14],m129.ren [(6,20),(12,21),(14,22),(9,24)] (by decide)⟩
 intro hb112 U; try simp only [QQ,Qax] at hb112
 refine wcf U ?_
 refine wp_region_lit ?_
 refine gz hK9 U (.eql rfl rfl<|.assign rfl<|.nil) fun Y U =>?_
 refine bc U 39 ?_ ?_
 ·
  intro hb132 U; try simp only [QQ,Qax] at hb132
  refine wct U ?_
  replace U := U.oz [2,3,4,5,6,12,14,37]
  refine wp_region_lit ?_
  refine goCh U (.fa 1 rfl U51<|.lb m15 20 U3 rfl rfl rfl<|.fa 2 rfl U51<|.lb m15 20 U3 rfl rfl rfl<|.move rfl<|.move rfl<|.move rfl .nil) fun Y U =>?_
  refine plz (e_litN U m15 23 (k := .u8) rfl rfl U22 fct0 rfl rfl rfl rfl fun g141 Y w142 U m142 =>?_)
  have m143 := m142.freezeN 23 rfl
  refine plz (ecl U Tryz.func90 rfl (sitem_any bl z [xa,xb,xc] _ _ _ ((m143.rd (i := 23) rfl).any) (by simp) (b3 ha9 hb9 hc9) (by omega)) ?_)
  rintro e w144 ⟨it,p144,c144,rfl,hit8,hpre9,hitb,hit1,hd144,hb144⟩
  have m145 := m143.callF 24 rfl hb144 hd144
  have hIG : ItG it := itG_of hpre9 hit8 hitb (by omega) (by omega)
  refine ⟨_,rfl,?_⟩; intro Y U
  refine goCh U (.fieldAddr (off := 0) rfl U38 rfl (s := 0) (by kernel_rfl) rfl .nil) fun Y U =>?_
  refine plz (st1 U m145 22 fct17 fun w148 m148 _ =>?_)
  refine goCh U (.fieldAddr (off := 9) rfl U38 rfl (s := 0) (by kernel_rfl) rfl .nil) fun Y U =>?_
  refine plz (st1 U m148 22 fct6 fun w150 m150 _ =>?_)
  refine wpList_nil ?_
  show K3 _ _
  exact hC3 _ _ ⟨_,_,_,it,_,_,_,_,_,by decide,(by omega),(by omega),hIG,U.only [2,3,4,5,6,12,14],m150.ren [(6,20),(12,21),(14,22),(9,24)] (by decide)⟩
 intro hb132 U; try simp only [QQ,Qax] at hb132
 refine wcf U ?_
 replace U := U.oz [2,3,4,5,6,12,14,37]
 refine regS U (.eql rfl rfl<|.assign rfl .nil) fun Y U =>?_
 refine bc U 55 ?_ ?_
 ·
  intro hb154 U; try simp only [QQ,Qax] at hb154
  refine wct U ?_
  have m155 := m15.oz [20,21,22]
  refine region_p 10 (B := [(20,_)]) (m155.to ⟨il,trivial⟩) m155 (by kernel_rfl) (fun w156 hP156 m156 =>?_); clear m155
  refine goR hP156 [0,1,2,6] [2] 4 0 71 U (m156.to ⟨il,trivial⟩) (.move rfl<|.conv rfl U5 U2 (r := xa) (IntWalk.i64_in _ (by omega))<|.loadBR hh (i := 20) rfl rfl U51 rfl fct13 (by simp) (by dsimp only [List.drop,List.take] <;> rfl)<|.fa 0 rfl U38 .nil) fun Y U =>?_
  refine so 3 ?_
  refine ecb U Tryz.func39 rfl m156 (rlen_any _ _ _ _ _ _ _ _ _ _ _ _ _ _ _ _ _ _) fun Y w161 U m162 =>?_
  refine ⟨m162.to ⟨il,trivial⟩,?_⟩
  refine goA hP156 [4,5] 2 79 127 U (m162.to ⟨il,trivial⟩) (.add rfl rfl (r := (nw : Int) + 2) (IntWalk.i64_in _ (by omega))<|.rem rfl rfl (by omega) rfl .nil) fun Y U =>?_
  refine so 7 ?_
  refine st1 U m162 22 fct17 fun w166 m166 _ =>?_
  refine ⟨m166.to ⟨il,trivial⟩,?_⟩
  refine goA hP156 [8] 1 255 511 U (m166.to ⟨il,trivial⟩) (.fa 7 rfl U38 .nil) fun Y U =>?_
  refine so 9 ?_
  refine st1 U m166 22 fct22 fun w168 m168 _ =>?_
  refine ⟨m168.to ⟨il,trivial⟩,?_⟩
  refine wpAnyE_done (by kernel_rfl) ?_ _
  have m169 := m168.dat 23 rfl (Rd.l0 none 0 2)
  show K3 _ _
  exact hC3 _ _ ⟨_,_,_,[],_,_,_,_,_,by decide,(by omega),(by omega),itG_nil,U.only [2,3,4,5,6,12,14],m169.ren [(6,20),(12,21),(14,22),(9,23)] (by decide)⟩
 intro hb154 U; try simp only [QQ,Qax] at hb154
 refine wcf U ?_
 refine regS U (.eql rfl rfl<|.assign rfl .nil) fun Y U =>?_
 refine bc U 65 ?_ ?_
 ·
  intro hb172 U; try simp only [QQ,Qax] at hb172
  refine wct U ?_
  have m173 := m15.oz [20,21,22]
  refine region_p 10 (B := [(20,_)]) (m173.to ⟨il,trivial⟩) m173 (by kernel_rfl) (fun w174 hP174 m174 =>?_); clear m173
  refine goR hP174 [0,1,2,6] [2] 4 0 71 U (m174.to ⟨il,trivial⟩) (.move rfl<|.conv rfl U5 U2 (r := xa) (IntWalk.i64_in _ (by omega))<|.loadBR hh (i := 20) rfl rfl U51 rfl fct13 (by simp) (by dsimp only [List.drop,List.take] <;> rfl)<|.fa 0 rfl U38 .nil) fun Y U =>?_
  refine so 3 ?_
  refine ecb U Tryz.func39 rfl m174 (rlen_any _ _ _ _ _ _ _ _ _ _ _ _ _ _ _ _ _ _) fun Y w179 U m180 =>?_
  refine ⟨m180.to ⟨il,trivial⟩,?_⟩
  refine goA hP174 [4,5] 2 79 127 U (m180.to ⟨il,trivial⟩) (.add rfl rfl (r := (nw : Int) + 2) (IntWalk.i64_in _ (by omega))<|.rem rfl rfl (by omega) rfl .nil) fun Y U =>?_
  refine so 7 ?_
  refine st1 U m180 22 fct17 fun w184 m184 _ =>?_
  refine ⟨m184.to ⟨il,trivial⟩,?_⟩
  refine goA hP174 [8] 1 255 511 U (m184.to ⟨il,trivial⟩) (.fa 7 rfl U38 .nil) fun Y U =>?_
  refine so 9 ?_
  refine st1 U m184 22 fct22 fun w186 m186 _ =>?_
  refine ⟨m186.to ⟨il,trivial⟩,?_⟩
  refine wpAnyE_done (by kernel_rfl) ?_ _
  have m187 := m186.dat 23 rfl (Rd.l0 none 0 2)
  show K3 _ _
  exact hC3 _ _ ⟨_,_,_,[],_,_,_,_,_,by decide,(by omega),(by omega),itG_nil,U.only [2,3,4,5,6,12,14],m187.ren [(6,20),(12,21),(14,22),(9,23)] (by decide)⟩
 intro hb172 U; try simp only [QQ,Qax] at hb172
 refine wcf U ?_
 refine regS U (.eql rfl rfl<|.assign rfl .nil) fun Y U =>?_
 refine bc U 75 ?_ ?_
 ·
  intro hb190 U; try simp only [QQ,Qax] at hb190
  refine wct U ?_
  replace U := U.oz [2,3,4,5,6,12,14,37]
  have m192 := m15.oz [20,21,22]
  refine region_p 10 (B := [(20,_)]) (m192.to ⟨il,trivial⟩) m192 (by kernel_rfl) (fun w193 hP193 m193 =>?_); clear m192
  refine goR hP193 [0,1,2,6] [2] 4 0 71 U (m193.to ⟨il,trivial⟩) (.move rfl<|.conv rfl U5 U2 (r := xa) (IntWalk.i64_in _ (by omega))<|.loadBR hh (i := 20) rfl rfl U51 rfl fct13 (by simp) (by dsimp only [List.drop,List.take] <;> rfl)<|.fa 0 rfl U38 .nil) fun Y U =>?_
  refine so 3 ?_
  refine ecb U Tryz.func39 rfl m193 (rlen_any _ _ _ _ _ _ _ _ _ _ _ _ _ _ _ _ _ _) fun Y w198 U m199 =>?_
  refine ⟨m199.to ⟨il,trivial⟩,?_⟩
  refine goA hP193 [4,5] 2 79 127 U (m199.to ⟨il,trivial⟩) (.add rfl rfl (r := (nw : Int) + 2) (IntWalk.i64_in _ (by omega))<|.rem rfl rfl (by omega) rfl .nil) fun Y U =>?_
  refine so 7 ?_
  refine st1 U m199 22 fct17 fun w203 m203 _ =>?_
  refine ⟨m203.to ⟨il,trivial⟩,?_⟩
  refine goA hP193 [8] 1 255 511 U (m203.to ⟨il,trivial⟩) (.fa 7 rfl U38 .nil) fun Y U =>?_
  refine so 9 ?_
  refine st1 U m203 22 fct22 fun w205 m205 _ =>?_
  refine ⟨m205.to ⟨il,trivial⟩,?_⟩
  refine wpAnyE_done (by kernel_rfl) ?_ _
  have m206 := m205.dat 23 rfl (Rd.l0 none 0 2)
  show K3 _ _
  exact hC3 _ _ ⟨_,_,_,[],_,_,_,_,_,by decide,(by omega),(by omega),itG_nil,U.only [2,3,4,5,6,12,14],m206.ren [(6,20),(12,21),(14,22),(9,23)] (by decide)⟩
 intro hb190 U; try simp only [QQ,Qax] at hb190
 refine wcf U ?_
 replace U := U.oz [2,3,4,5,6,12,14,37]
 refine regS U (.eql rfl rfl<|.assign rfl .nil) fun Y U =>?_
 refine bc U 85 ?_ ?_
 ·
  intro hb210 U; try simp only [QQ,Qax] at hb210
  refine wct U ?_
  refine wp_region_lit ?_
  refine goCh U (.fieldAddr (off := 0) rfl U38 rfl (s := 0) (by kernel_rfl) rfl .nil) fun Y U =>?_
  refine plz (st1 U m15 22 fct17 fun w212 m212 _ =>?_)
  refine wpList_nil ?_
  have m213 := m212.dat 23 rfl (Rd.l0 none 0 2)
  show K3 _ _
  exact hC3 _ _ ⟨_,_,_,[],_,_,_,_,_,by decide,(by omega),(by omega),itG_nil,U.only [2,3,4,5,6,12,14],m213.ren [(6,20),(12,21),(14,22),(9,23)] (by decide)⟩
 intro hb210 U; try simp only [QQ,Qax] at hb210
 refine wcf U ?_
 refine regS U (.eql rfl rfl<|.assign rfl .nil) fun Y U =>?_
 refine bc U 88 ?_ ?_
 ·
  intro hb216 U; try simp only [QQ,Qax] at hb216
  refine wct U ?_
  have m217 := m15.oz [20,21,22]
  refine region_p 22 (B := [(20,_)]) (m217.to ⟨il,trivial⟩) m217 (by kernel_rfl) (fun w218 hP218 m218 =>?_); clear m217
  refine goR hP218 [0,1,2,3,4,5,6,7,8,9,10,11,12,13,16] [1,9,11] 15 0 81919 U (m218.to ⟨il,trivial⟩) (.fa 6 rfl U51<|.lb hh 20 U3 rfl rfl rfl<|.move rfl<|.rem rfl rfl (by decide) (Int.tmod_eq_emod_of_nonneg (by omega))<|.conv rfl U5 U3 (r := xc % 5) (IntWalk.i64_in _ (by omega))<|.quo rfl rfl (by decide) (r := xc % 5 / 4) (by rw [Int.tdiv_eq_ediv_of_nonneg (by omega)]; exact IntWalk.i64_in _ (by omega))<|.sub rfl rfl (r := ne - xc % 5 / 4) (IntWalk.i64_in _ (by omega))<|.p (fun _ _ h_ => y_max h_ rfl rfl rfl)<|.fa 1 rfl U51<|.lb hh 20 U3 rfl rfl rfl<|.fa 2 rfl U51<|.lb hh 20 U3 rfl rfl rfl<|.move rfl<|.move rfl<|.fa 0 rfl U38 .nil) fun Y U =>?_
  refine so 14 ?_
  refine e_litN U m218 23 (k := .u8) rfl rfl U22 fct0 rfl rfl rfl rfl fun g234 Y w235 U m235 =>?_
  refine ⟨m235.to ⟨il,trivial⟩,?_⟩
  have m236 := m235.freezeN 23 rfl
  refine so 15 ?_
  refine ecl U Tryz.func90 rfl (sitem_any bl z [xa,xb] _ _ _ ((m236.rd (i := 23) rfl).any) (by simp) (b2 ha9 hb9) (by omega)) ?_
  rintro e w237 ⟨it,p237,c237,rfl,hit8,hpre9,hitb,hit1,hd237,hb237⟩
  have m238 := m236.callF 24 rfl hb237 hd237
  have hIG : ItG it := itG_of hpre9 hit8 hitb (by omega) (by omega)
  refine ⟨_,rfl,?_⟩; intro Y U
  refine ⟨m238.to ⟨il,trivial⟩,?_⟩
  refine so 17 ?_
  refine st1 U m238 22 fct17 fun w240 m240 _ =>?_
  refine ⟨m240.to ⟨il,trivial⟩,?_⟩
  refine goA hP218 [18] 1 262143 524287 U (m240.to ⟨il,trivial⟩) (.fa 8 rfl U38 .nil) fun Y U =>?_
  refine so 19 ?_
  refine st1 U m240 22 fct17 fun w242 m242 _ =>?_
  refine ⟨m242.to ⟨il,trivial⟩,?_⟩
  refine goA hP218 [20] 1 1048575 2097151 U (m242.to ⟨il,trivial⟩) (.fa 9 rfl U38 .nil) fun Y U =>?_
  refine so 21 ?_
  refine st1 U m242 22 fct6 fun w244 m244 _ =>?_
  refine ⟨m244.to ⟨il,trivial⟩,?_⟩
  refine wpAnyE_done (by kernel_rfl) ?_ _
  show K3 _ _
  exact hC3 _ _ ⟨_,_,_,it,_,_,_,_,_,by decide,(by omega),(by omega),hIG,U.only [2,3,4,5,6,12,14],m244.ren [(6,20),(12,21),(14,22),(9,24)] (by decide)⟩
 intro hb216 U; try simp only [QQ,Qax] at hb216
 refine wcf U ?_
 refine wp_region_lit ?_
 refine goCh U (.fieldAddr (off := 0) rfl U38 rfl (s := 0) (by kernel_rfl) rfl .nil) fun Y U =>?_
 refine plz (st1 U m15 22 fct17 fun w246 m246 _ =>?_)
 refine wpList_nil ?_
 have m247 := m246.dat 23 rfl (Rd.l0 none 0 2)
 show K3 _ _
 exact hC3 _ _ ⟨_,_,_,[],_,_,_,_,_,by decide,(by omega),(by omega),itG_nil,U.only [2,3,4,5,6,12,14],m247.ren [(6,20),(12,21),(14,22),(9,23)] (by decide)⟩
end
section
theorem fl32zCs : flatS Tryz.prog 32 [.slice none 0 0] = true := by kernel_rfl
def CsR (cs : List Cm) : Prop := ∀ c ∈ cs,CmdR c ∧ ItsB c.its
theorem csR_snoc {cs : List Cm} {c : Cm} (h : CsR cs) (hc : CmdR c) (hb : ItsB c.its) : CsR (cs ++ [c]) := fun x hx => by
 rcases List.mem_append.1 hx with hx | hx
 · exact h x hx
 simp at hx; subst hx; exact ⟨hc,hb⟩
open Classical in
theorem rrL_snoc {cs : List Cm} {c : Cm} (h : CmdR c) : rrL (cs ++ [c]) = (rApp (rrL cs) c).1 := by
 rw [rrL,List.foldl_append]
 show (if CmdR c then _ else _) = _
 rw [if_pos h]; rfl
theorem cmdR_new {vx bx sx to bl sz pe : Int} {pl : List Int} (hv : 0 ≤ vx ∧ vx ≤ 255) (hb : 0 ≤ bx ∧ bx ≤ 255) (hs : 0 ≤ sx ∧ sx ≤ 255) (h1 : bl = bx.tmod 9 + 1) (h2 : sz = sx.tmod 3 + 1) (h3 : 1 ≤ pe) (h4 : pe ≤ bl) (h5 : PlaceOk bl pe pl) (h6 : pl.length ≤ 9) (h7 : 0 ≤ to ∧ to ≤ 1000) : CmdR ⟨1,vx.tmod 3,bl,sz,pe,pl,to,0,0,[]⟩ := by
 rw [Int.tmod_eq_emod_of_nonneg hb.1] at h1
 rw [Int.tmod_eq_emod_of_nonneg hs.1] at h2
 rw [Int.tmod_eq_emod_of_nonneg hv.1]
 exact ⟨by dsimp only; omega,by dsimp only; omega,by dsimp only; omega,by dsimp only; omega,(fun z hz => by have := h5.1 z hz; omega),by simp,(fun e he => by cases he)⟩
set_option maxRecDepth 100000
set_option maxHeartbeats 4000000
theorem scmd_n (vo bl sz pe to ne fl : Int) (hi : Bool) (pp pn pw : Option Addr) (np cp nn9 cn9 nw cw : Nat) (wh xa xb xc : Int) (w0 : World) (hvo : 0 ≤ vo ∧ vo ≤ 255) (hw9 : 0 ≤ wh ∧ wh ≤ 255) (ha9 : 0 ≤ xa ∧ xa ≤ 255) (hb9 : 0 ≤ xb ∧ xb ≤ 255) (hc9 : 0 ≤ xc ∧ xc ≤ 255) :
   Calls Tryz.prog 41 #[.agg #[.int .i64 vo,.int .i64 bl,.int .i64 sz,.int .i64 pe,.slice pp np cp,.int .i64 to,.int .i64 ne,.bool hi,.int .i64 fl,.slice pn nn9 cn9,.slice pw nw cw],.bool false,.int .u8 wh,.int .u8 xa,.int .u8 xb,.int .u8 xc] w0 fun e w' => ∃ (vo2 bl2 sz2 pe2 to2 : Int) (place : List Int) (pp : Option Addr) (cp : Nat),e = .returned (.agg #[.int .i64 1,.int .i64 vo2,.int .i64 bl2,.int .i64 sz2,.int .i64 pe2,.slice pp place.length cp,.int .i64 to2,.int .i64 0,.int .i64 0,.slice none 0 0]) ∧ CmdR ⟨1,vo2,bl2,sz2,pe2,place,to2,0,0,[]⟩ ∧ Rd (New w0) w' (.slice pp place.length cp) (.ns .i64 place) ∧ Below w0.heap.size w0 w' := by
 refine ent6 Tryz.func41 rfl Tryz.ntmps41 fun Y U =>?_
 have m0 := MemOk.start (fun _ => False) w0
 obtain ⟨tq,htq,htq0,htq3⟩ : ∃ x : Int,(xc / 4).tmod 3 = x ∧ 0 ≤ x ∧ x ≤ 2 := ⟨_,rfl,by rw [Int.tmod_eq_emod_of_nonneg (by omega)]; omega,by rw [Int.tmod_eq_emod_of_nonneg (by omega)]; omega⟩
 refine zsr fun K0 hK0 =>?_
 refine plz (e_box U m0 20 (cs := [_,_,_,_,_,_,_,_,_,_,_]) rfl rfl rfl fun g1 Y w2 U m2 _ _ =>?_)
 refine plz (e_alloc U m2 21 fct23 rfl fun g3 Y w4 U m4 _ _ =>?_)
 refine znl (hK0 _ _ ?_)
 refine wsk fun K1 hK1 =>?_
 refine regS U (.move rfl<|.not rfl .nil) fun Y U =>?_
 refine wct U ?_
 refine regS U (.assign rfl .nil) fun Y U =>?_
 refine wsk fun K2 hK2 =>?_
 refine regS U (.move rfl<|.rem rfl rfl (by decide) rfl<|.eql rfl rfl .nil) fun Y U =>?_
 refine bc U 19 ?_ ?_
 ·
  intro hb11 U; try simp only [QQ,Qax] at hb11
  refine wct U ?_
  replace U := U.oz [2,3,4,5,6,12,13]
  refine wp_region_lit ?_
  refine gz hK2 U (.move rfl<|.quo rfl rfl (by decide) (r := xc / 4) (by rw [Int.tdiv_eq_ediv_of_nonneg (by omega)]; exact IntWalk.u8_in _ (by omega))<|.rem rfl rfl (by decide) (r := tq) htq<|.conv rfl U5 U3 (r := tq) (IntWalk.i64_in _ (by omega))<|.add rfl rfl (IntWalk.i64_in _ (by omega))<|.assign rfl<|.nil) fun Y U =>?_
  refine zsr fun K3 hK3 =>?_
  refine goCh U (.fa 0 rfl U51<|.lb m4 20 U3 rfl rfl rfl<|.conv rfl U3 U5 (r := vo) (IntWalk.u8_in _ (by omega))<|.move rfl<|.move rfl<|.move rfl<|.move rfl .nil) fun Y U =>?_
  refine plz (ecl U Tryz.func42 rfl (create_e vo xa xb xc _ _ hvo ha9 hb9 hc9) ?_)
  rintro e w33 ⟨bl2,sz2,pe2,place,p33,c33,rfl,hbl2,hsz2,hpe1,hpe2,hpo,hpl9,hd33,hb33⟩
  have m34 := m4.callF 22 rfl hb33 hd33
  refine ⟨_,rfl,?_⟩; intro Y U
  refine plz (stw U m34 21 fct18 fun w36 m36 _ =>?_)
  refine znl (hK3 _ _ ?_)
  refine rtd (retC (fn := Tryz.f41) U m36 (i := 21) rfl rfl rfl U38 rfl fct18 ?_)
  exact ⟨_,_,_,_,_,place,_,_,rfl,cmdR_new hvo ha9 hb9 hbl2 hsz2 hpe1 hpe2 hpo hpl9 (by omega),m36.outF (i := 22) rfl,m36.below⟩
 intro hb11 U; try simp only [QQ,Qax] at hb11
 refine wcf U ?_
 refine zss (hK2 _ _ ?_)
 replace U := U.oz [2,3,4,5,6,12,13]
 refine zsr fun K4 hK4 =>?_
 refine goCh U (.fa 0 rfl U51<|.lb m4 20 U3 rfl rfl rfl<|.conv rfl U3 U5 (r := vo) (IntWalk.u8_in _ (by omega))<|.move rfl<|.move rfl<|.move rfl<|.move rfl .nil) fun Y U =>?_
 refine plz (ecl U Tryz.func42 rfl (create_e vo xa xb xc _ _ hvo ha9 hb9 hc9) ?_)
 rintro e w52 ⟨bl2,sz2,pe2,place,p52,c52,rfl,hbl2,hsz2,hpe1,hpe2,hpo,hpl9,hd52,hb52⟩
 have m53 := m4.callF 22 rfl hb52 hd52
 refine ⟨_,rfl,?_⟩; intro Y U
 refine plz (stw U m53 21 fct18 fun w55 m55 _ =>?_)
 refine znl (hK4 _ _ ?_)
 refine rtd (retC (fn := Tryz.f41) U m55 (i := 21) rfl rfl rfl U38 rfl fct18 ?_)
 exact ⟨_,_,_,_,_,place,_,_,rfl,cmdR_new hvo ha9 hb9 hbl2 hsz2 hpe1 hpe2 hpo hpl9 (by omega),m55.outF (i := 22) rfl,m55.below⟩
theorem scmd_p (n : Nat) (x : VolV) (there : Bool) (p1 p2 p3 : Option Addr) (d1 d2 d3 : Nat) (wh xa xb xc : Int) (w0 : World) (hx : there = true → VolS n x) (hx0 : there = false → x = volZ) (hn : n ≤ 800000) (hw9 : 0 ≤ wh ∧ wh ≤ 255) (ha9 : 0 ≤ xa ∧ xa ≤ 255) (hb9 : 0 ≤ xb ∧ xb ≤ 255) (hc9 : 0 ≤ xc ∧ xc ≤ 255) :
   Calls Tryz.prog 41 #[.agg #[.int .i64 x.vo,.int .i64 x.bl,.int .i64 x.sz,.int .i64 x.pe,.slice p1 x.place.length d1,.int .i64 x.to,.int .i64 x.ne,.bool x.hi,.int .i64 x.fl,.slice p2 x.pins.length d2,.slice p3 (x.ws.map wrD).length d3],.bool there,.int .u8 wh,.int .u8 xa,.int .u8 xb,.int .u8 xc] w0 fun e w' => ∃ (kd vo2 bl2 sz2 pe2 to2 at0 ix : Int) (place : List Int) (it : List (Int × List Int)) (pp : Option Addr) (cp : Nat) (pi : Option Addr) (ci : Nat),e = .returned (.agg #[.int .i64 kd,.int .i64 vo2,.int .i64 bl2,.int .i64 sz2,.int .i64 pe2,.slice pp place.length cp,.int .i64 to2,.int .i64 at0,.int .i64 ix,.slice pi it.length ci]) ∧ CmdR ⟨kd,vo2,bl2,sz2,pe2,place,to2,at0,ix,it⟩ ∧ ItsB it ∧ Rd (New w0) w' (.slice pp place.length cp) (.ns .i64 place) ∧ Rd (New w0) w' (.slice pi it.length ci) (.l 2 (it.map itD)) ∧ Below w0.heap.size w0 w' := by
 cases there
 · obtain rfl := hx0 rfl
   refine (scmd_n 0 0 0 0 0 0 0 false p1 p2 p3 0 d1 0 d2 0 d3 wh xa xb xc w0 (by omega) hw9 ha9 hb9 hc9).mono ?_
   rintro e w' ⟨vo2,bl2,sz2,pe2,to2,place,pp,cp,rfl,hR,hd,hb⟩
   exact ⟨1,vo2,bl2,sz2,pe2,to2,0,0,place,[],pp,cp,none,0,rfl,hR,(fun e h => by cases h),hd,Rd.l0 none 0 2,hb⟩
 obtain ⟨h1,h2,h3,h4,-⟩ := hx rfl
 obtain ⟨vo,bl,sz,pe,place0,to,ne,hi,fl,pins,ws⟩ := x
 simp only at *
 obtain ⟨⟨a1,a2,a3,a4,a5,a6,a7,a8,a9,a10,a11⟩,b1,b2,b3⟩ := h1
 obtain ⟨z,rfl⟩ : ∃ z : Nat,sz = (z : Int) := ⟨sz.toNat,by omega⟩
 refine (scmd_r vo bl z pe to ne fl hi p1 p2 p3 place0.length d1 pins.length d2 (ws.map wrD).length d3 wh xa xb xc w0 (by omega) (by omega) (by omega) (by rw [List.length_map]; omega) (by omega) hw9 ha9 hb9 hc9).mono ?_
 rintro e w' ⟨kd,at0,ix,it,pi,ci,rfl,hkd,hR,hib,hd,hb⟩
 exact ⟨kd,vo,0,0,0,0,at0,ix,[],it,none,0,pi,ci,rfl,hR,hib,Rd.nilN _ _ .i64 none,hd,hb⟩
theorem scmd_v (n : Nat) (id : Int) (x : VolV) (there : Bool) (p1 p2 p3 : Option Addr) (d1 d2 d3 : Nat) (wh xa xb xc : Int) (w0 : World) (hx : there = true → VolS n x) (hx0 : there = false → x = volZ) (hn : n ≤ 800000) (hid : 0 ≤ id ∧ id ≤ 2) (hw9 : 0 ≤ wh ∧ wh ≤ 255) (ha9 : 0 ≤ xa ∧ xa ≤ 255) (hb9 : 0 ≤ xb ∧ xb ≤ 255) (hc9 : 0 ≤ xc ∧ xc ≤ 255) :
   Calls Tryz.prog 41 #[.agg #[.int .i64 id,.int .i64 x.bl,.int .i64 x.sz,.int .i64 x.pe,.slice p1 x.place.length d1,.int .i64 x.to,.int .i64 x.ne,.bool x.hi,.int .i64 x.fl,.slice p2 x.pins.length d2,.slice p3 (x.ws.map wrD).length d3],.bool there,.int .u8 wh,.int .u8 xa,.int .u8 xb,.int .u8 xc] w0 fun e w' => ∃ (kd vo2 bl2 sz2 pe2 to2 at0 ix : Int) (place : List Int) (it : List (Int × List Int)) (pp : Option Addr) (cp : Nat) (pi : Option Addr) (ci : Nat),e = .returned (.agg #[.int .i64 kd,.int .i64 vo2,.int .i64 bl2,.int .i64 sz2,.int .i64 pe2,.slice pp place.length cp,.int .i64 to2,.int .i64 at0,.int .i64 ix,.slice pi it.length ci]) ∧ CmdR ⟨kd,vo2,bl2,sz2,pe2,place,to2,at0,ix,it⟩ ∧ ItsB it ∧ Rd (New w0) w' (.slice pp place.length cp) (.ns .i64 place) ∧ Rd (New w0) w' (.slice pi it.length ci) (.l 2 (it.map itD)) ∧ Below w0.heap.size w0 w' := by
 cases there
 · obtain rfl := hx0 rfl
   refine (scmd_n id 0 0 0 0 0 0 false p1 p2 p3 0 d1 0 d2 0 d3 wh xa xb xc w0 (by omega) hw9 ha9 hb9 hc9).mono ?_
   rintro e w' ⟨vo2,bl2,sz2,pe2,to2,place,pp,cp,rfl,hR,hd,hb⟩
   exact ⟨1,vo2,bl2,sz2,pe2,to2,0,0,place,[],pp,cp,none,0,rfl,hR,(fun e h => by cases h),hd,Rd.l0 none 0 2,hb⟩
 exact scmd_p n { x with vo := id } true p1 p2 p3 d1 d2 d3 wh xa xb xc w0 (fun _ => vols_id (hx rfl) hid) (fun h => by cases h) hn hw9 ha9 hb9 hc9
theorem scmds_r (l : List Int) (pl : Option Addr) (cl : Nat) (w0 : World) (h0 : Rd (fun _ => True) w0 (.slice pl l.length cl) (.ns .u8 l)) (hl : l.length ≤ 100000) (hlb : ∀ j,j < l.length → 0 ≤ l.getD j 0 ∧ l.getD j 0 ≤ 255) :
   Calls Tryz.prog 10 #[.slice pl l.length cl] w0 fun e w' => ∃ (cs : List Cm) (p : Option Addr) (c : Nat),e = .returned (.slice p (cs.map cmD).length c) ∧ 4 * cs.length ≤ l.length ∧ CsR cs ∧ RowOk w0.heap.size (fun b => Out (fun _ => False) w0 b ∧ (Value.slice p (cs.map cmD).length c).ownBlock ≠ some b) w' (.slice p (cs.map cmD).length c) 38 10 (cs.map cmD) ∧ Below w0.heap.size w0 w' := by
 refine ent1 Tryz.func10 rfl Tryz.ntmps10 fun Y U =>?_
 have m0 := MemOk.start (fun _ => False) w0
 refine regS U (.assign rfl .nil) fun Y U =>?_
 refine zsr fun K0 hK0 =>?_
 refine goCh U (.build rfl fct36 fl32zCs rfl (by dsimp only [setL,List.set] <;> rfl) .nil) fun Y U =>?_
 refine plz (e_box U m0 40 (cs := [_]) rfl rfl rfl fun g4 Y w5 U m5 _ _ =>?_)
 refine gz hK0 U (.assign rfl .nil) fun Y U =>?_
 refine regS U (.assign rfl .nil) fun Y U =>?_
 refine wsk fun K1 hK1 =>?_
 refine regS U (.assign rfl .nil) fun Y U =>?_
 refine wp_block ?_
 refine wp_loop_ghost (fun g a w => ∃ (i k B c d : Nat) (L : List VolV) (cs : List Cm) (p q : Option Addr),i ≤ l.length ∧ 4 * k ≤ i ∧ cs.length = k ∧ CsR cs ∧ L = rrL cs ∧ (∀ y ∈ L,VolS k y) ∧ L.length ≤ k ∧ SrtV L ∧ g = l.length - i ∧ Has 71 [(0,.slice pl l.length cl),(3,.pointer (some ⟨B,0,none⟩)),(4,.slice q (cs.map cmD).length d),(5,.int .i64 i)] a ∧ MemOk (cn w0) w0 [(1,.box B 32 [.slice p (L.map volD).length c]),(2,.dat (.slice p (L.map volD).length c) (.l 11 (L.map volD))),(3,.row (.slice q (cs.map cmD).length d) 38 10 (cs.map cmD))] w) (l.length) ?_ ?_
 · have mz := (m5.dat 2 rfl (Rd.l0 none 0 11)).nilR 33 38 10
   exact ⟨0,0,_,_,_,[],[],_,_,Nat.zero_le _,Nat.zero_le _,rfl,(fun x h => by cases h),rfl,(fun y hy => by cases hy),Nat.zero_le _,List.Pairwise.nil,rfl,U.only [0,3,4,5],mz.ren [(1,40),(2,2),(3,33)] (by decide)⟩
 clear U m5
 rintro g Y w9 ⟨i,k,B,c,d,L,cs,p,q,hil,hki,hlen,hcs,hLc,hV,hLl,hS,hg,U,m9⟩
 refine wsk fun K2 hK2 =>?_
 refine regS U (.move rfl<|.inc (i + 3)<|.move rfl<|.len rfl U22<|.lss rfl rfl .nil) fun Y U =>?_
 refine bc U 18 ?_ ?_
 ·
  intro hb15 U; try simp only [QQ,Qax] at hb15
  have hi9 : i + 3 < l.length := by omega
  have h9b := hlb i (by omega)
  obtain ⟨id,hid,hid0⟩ : ∃ x : Int,(l.getD i 0 / 16).tmod 3 = x ∧ 0 ≤ x ∧ x ≤ 2 := ⟨_,rfl,by rw [Int.tmod_eq_emod_of_nonneg (by omega)]; omega,by rw [Int.tmod_eq_emod_of_nonneg (by omega)]; omega⟩
  refine wct U ?_
  refine zss (hK2 _ _ ?_)
  refine wsk fun K3 hK3 =>?_
  refine wp_block ?_
  refine zsr fun K4 hK4 =>?_
  refine goCh U (.move rfl<|.move rfl .nil) fun Y U =>?_
  obtain ⟨gx21,ox21,hp21,hl21,hrg21⟩ := h0.extN (i) (by omega)
  revert U
  cases hp21
  intro U
  refine gz hK4 U (.c rfl (fun _ h_ => y_idx h_ rfl rfl U22 fct15 (i) rfl (by omega))<|.loadAt1 (hrg21 m9 rfl) (q := 0) rfl rfl rfl U5 rfl<|.quo rfl rfl (by decide) (r := l.getD i 0 / 16) (by rw [Int.tdiv_eq_ediv_of_nonneg (by omega)]; exact IntWalk.u8_in _ (by omega))<|.conv rfl U5 U3 (r := l.getD i 0 / 16) (IntWalk.i64_in _ (by omega))<|.rem rfl rfl (by decide) (r := id) hid<|.assign rfl<|.nil) fun Y U =>?_
  replace U := U.oz [0,3,4,5,6]
  refine zsr fun K5 hK5 =>?_
  refine goCh U (.move rfl<|.move rfl .nil) fun Y U =>?_
  refine plz (ecl U Tryz.func19 rfl (rmVol _ _ L _ _ _ _ (by omega) (m9.into [(1,1),(2,2)] (by decide) rfl)) ?_)
  rintro e w33 ⟨x,th,p133,p233,p333,d133,d233,d333,rfl,hx1,hx0,hm33⟩
  have mx33 := m9.back hm33 [(1,1),(2,2),(100,3),(101,4),(102,5)] (by decide); clear hm33 m9
  have m33 := mx33.oz [1,2,100,101,102,3]
  refine ⟨_,rfl,?_⟩; intro Y U
  refine goCh U (.move rfl<|.extract rfl rfl<|.extract rfl rfl .nil) fun Y U =>?_
  refine plz (e_alloc U m33 103 fct14 rfl fun g38 Y w39 U m39 _ _ =>?_)
  refine plz (stw U m39 103 fct13 fun w40 m40 _ =>?_)
  refine gz hK5 U (.assign rfl .nil) fun Y U =>?_
  replace U := U.oz [0,3,4,5,6,7,8]
  refine zsr fun K6 hK6 =>?_
  refine goCh U (.move rfl<|.fa 0 rfl U51 .nil) fun Y U =>?_
  refine plz (st1 U m40 103 fct17 fun w47 m47 _ =>?_)
  refine znl (hK6 _ _ ?_)
  refine wsk fun K7 hK7 =>?_
  obtain ⟨gx49,ox49,hp49,hl49,hrg49⟩ := h0.extN (i) (by omega)
  revert U
  cases hp49
  intro U
  obtain ⟨gx51,ox51,hp51,hl51,hrg51⟩ := h0.extN (i + 1) (by omega)
  revert U
  cases hp51
  intro U
  obtain ⟨gx53,ox53,hp53,hl53,hrg53⟩ := h0.extN (i + 2) (by omega)
  revert U
  cases hp53
  intro U
  obtain ⟨gx55,ox55,hp55,hl55,hrg55⟩ := h0.extN (i + 3) (by omega)
  revert U
  cases hp55
  intro U
  have m56 := m47.oz [1,2,3,100,101,102,103]
  refine region_p 21 (B := [(1,_),(2,_),(3,_),(100,_),(101,_),(102,_),(103,_)]) (m56.to ⟨il,il,il,il,il,il,il,trivial⟩) m56 (by kernel_rfl) (fun w57 hP57 m57 =>?_); clear m56
  refine goR hP57 [0,1,2,3,4,5,6,7,8,9,10,11,12,13,14,15,16,17,18,19,20] [0,5,10,15,20] 21 0 2097151 U (m57.to ⟨il,il,il,il,il,il,il,trivial⟩) (.loadBR hh (i := 103) rfl rfl U51 rfl fct13 (by simp) (by dsimp only [List.drop,List.take] <;> rfl)<|.move rfl<|.move rfl<|.move rfl<|.p (fun _ _ h_ => y_idx h_ rfl rfl U22 fct15 (i) rfl (by omega))<|.loadAt1 (fun _ h_ => (hrg49 h_ rfl)) (q := 0) rfl rfl rfl U5 rfl<|.move rfl<|.move rfl<|.add rfl rfl (r := ((i + 1 : Nat) : Int)) (by rw [IntWalk.i64_in _ (by omega)]; omega)<|.p (fun _ _ h_ => y_idx h_ rfl rfl U22 fct15 (i + 1) rfl (by omega))<|.loadAt1 (fun _ h_ => (hrg51 h_ rfl)) (q := 0) rfl rfl rfl U5 rfl<|.move rfl<|.move rfl<|.add rfl rfl (r := ((i + 2 : Nat) : Int)) (by rw [IntWalk.i64_in _ (by omega)]; omega)<|.p (fun _ _ h_ => y_idx h_ rfl rfl U22 fct15 (i + 2) rfl (by omega))<|.loadAt1 (fun _ h_ => (hrg53 h_ rfl)) (q := 0) rfl rfl rfl U5 rfl<|.move rfl<|.move rfl<|.add rfl rfl (r := ((i + 3 : Nat) : Int)) (by rw [IntWalk.i64_in _ (by omega)]; omega)<|.p (fun _ _ h_ => y_idx h_ rfl rfl U22 fct15 (i + 3) rfl (by omega))<|.loadAt1 (fun _ h_ => (hrg55 h_ rfl)) (q := 0) rfl rfl rfl U5 rfl .nil) fun Y U =>?_
  refine dtw 21 22 ?_ ?_
  ·
   refine ecl U Tryz.func41 rfl (scmd_v k id x th _ _ _ _ _ _ _ _ _ _ _ (fun h => hV _ (hx1 h)) hx0 (by omega) (by omega) (hlb _ (by omega)) (hlb _ (by omega)) (hlb _ (by omega)) (hlb _ (by omega))) ?_
   rintro e w79 ⟨kd,vo2,bl2,sz2,pe2,to2,at0,ix,place,it,pp9,cp9,pi9,ci9,rfl,hR,hitb,hd79,he79,hb79⟩
   have m80 := m57.callF2 104 105 rfl rfl hb79 hd79 he79
   refine ⟨_,rfl,?_⟩; intro Y U
   refine ⟨fun h => (Bool.false_ne_true (h.symm.trans (by rfl))).elim,?_⟩
   refine se 22 ?_
   refine e_alloc U m80 106 fct23 rfl fun g82 Y w83 U m83 _ _ =>?_
   refine se 23 ?_
   refine stw U m83 106 fct18 fun w84 m84 _ =>?_
   refine wpAnyE_done (by kernel_rfl) ?_ _
   refine hK7 _ _ ?_
   replace U := U.oz [0,3,4,5,9]
   refine zsr fun K8 hK8 =>?_
   refine goCh U (.loadBR m84 (i := 106) rfl rfl U38 rfl fct18 (by simp) (by dsimp only [List.drop,List.take] <;> rfl) .nil) fun Y U =>?_
   refine plz (ecl U Tryz.func12 rfl (rputCmd_x kd vo2 bl2 sz2 pe2 to2 at0 ix place it _ _ _ _ _ _ ((m84.rd (i := 104) rfl).any) ((m84.rd (i := 105) rfl).any) (hR.ok (fun e he => (hitb e he).2))) ?_)
   rintro e w88 ⟨p88,c88,rfl,hd88,hb88⟩
   have m89 := m84.callF 107 rfl hb88 hd88
   refine ⟨_,rfl,?_⟩; intro Y U
   refine gz hK8 U (.move rfl<|.extract rfl rfl<|.extract rfl rfl<|.assign rfl<|.assign rfl<|.nil) fun Y U =>?_
   replace U := U.oz [0,3,4,5,9,10]
   refine zsr fun K9 hK9 =>?_
   refine goCh U (.move rfl<|.move rfl .nil) fun Y U =>?_
   refine plz (ecl U Tryz.func15 rfl (rapply_e _ _ k L _ _ kd vo2 bl2 sz2 pe2 to2 at0 ix place it _ _ _ hV (by omega) (by omega) hS.nodup (hR.ok (fun e he => (hitb e he).2)) (m89.into [(1,1),(2,2),(3,107)] (by decide) rfl)) ?_)
   rintro e w101 ⟨L2,e1,rl1,rf1,rn1,p101,c101,rfl,hap,hm101⟩
   have mx101 := m89.back hm101 [(1,1),(2,2)] (by decide); clear hm101 m89
   have m101 := mx101.oz [1,2,3,100,101,102,103,104,105,106]
   refine ⟨_,rfl,?_⟩; intro Y U
   refine znl (hK9 _ _ ?_)
   refine wp_region_lit ?_
   refine goCh U (.move rfl<|.loadBR m101 (i := 106) rfl rfl U38 rfl fct18 (by simp) (by dsimp only [List.drop,List.take] <;> rfl) .nil) fun Y U =>?_
   refine plz (e_litR U m101 108 (mm := 10) rfl (.cons rfl rfl (.cons (.v _) (.cons (.v _) (.cons (.v _) (.cons (.v _) (.cons (.v _) (.cons (m101.rd (i := 104) rfl) (.cons (.v _) (.cons (.v _) (.cons (.v _) (.cons (m101.rd (i := 105) rfl) .nil)))))))))) .nil) U24 fct27 rfl rfl rfl rfl rfl fun g105 Y w106 U m106 =>?_)
   have m108 := m106.freezeR 108 rfl
   refine plz (e_appR U m108 3 rfl rfl rfl (m108.rd (i := 108) rfl) U24 fct27 rfl rfl (by decide) (by rw [List.length_map,List.length_singleton]; have := hlen; omega) rfl fun p107 c107 Y w109 U m109 =>?_)
   refine gz hK3 U (.assign rfl .nil) fun Y U =>?_
   replace U := U.oz [0,3,4,5]
   refine wp_region_lit ?_
   refine goCh U (.move rfl<|.inc (i + 4)<|.assign rfl .nil) fun Y U =>?_
   refine wpList_nil ?_
   show ∃ n',n' < _ ∧ _
   have hE : (cs.map cmD) ++ [[.v (.int .i64 (⟨kd,vo2,bl2,sz2,pe2,place,to2,at0,ix,it⟩ : Cm).kd),.v (.int .i64 (⟨kd,vo2,bl2,sz2,pe2,place,to2,at0,ix,it⟩ : Cm).vo),.v (.int .i64 (⟨kd,vo2,bl2,sz2,pe2,place,to2,at0,ix,it⟩ : Cm).bl),.v (.int .i64 (⟨kd,vo2,bl2,sz2,pe2,place,to2,at0,ix,it⟩ : Cm).sz),.v (.int .i64 (⟨kd,vo2,bl2,sz2,pe2,place,to2,at0,ix,it⟩ : Cm).pe),.ns .i64 (⟨kd,vo2,bl2,sz2,pe2,place,to2,at0,ix,it⟩ : Cm).pl,.v (.int .i64 (⟨kd,vo2,bl2,sz2,pe2,place,to2,at0,ix,it⟩ : Cm).to),.v (.int .i64 (⟨kd,vo2,bl2,sz2,pe2,place,to2,at0,ix,it⟩ : Cm).at0),.v (.int .i64 (⟨kd,vo2,bl2,sz2,pe2,place,to2,at0,ix,it⟩ : Cm).ix),.l 2 ((⟨kd,vo2,bl2,sz2,pe2,place,to2,at0,ix,it⟩ : Cm).its.map itD)]] = (cs ++ [(⟨kd,vo2,bl2,sz2,pe2,place,to2,at0,ix,it⟩ : Cm)]).map cmD := by rw [List.map_append]; rfl
   dsimp only at hE
   rw [hE] at m109 U
   obtain ⟨ha1,ha2,ha3⟩ := rApp_s (c := (⟨kd,vo2,bl2,sz2,pe2,place,to2,at0,ix,it⟩ : Cm)) hS hV (fun e he => (hitb e he).2)
   rw [hap] at ha1 ha2 ha3; dsimp only at ha1 ha2 ha3
   exact ⟨l.length - (i + 4),by omega,i + 4,k + 1,_,_,_,L2,cs ++ [(⟨kd,vo2,bl2,sz2,pe2,place,to2,at0,ix,it⟩ : Cm)],_,_,by omega,by omega,by rw [List.length_append,hlen]; rfl,csR_snoc hcs hR hitb,by rw [rrL_snoc hR,← hLc,hap],ha1,by omega,ha3,rfl,U.only [0,3,4,5],m109.ren [(1,1),(2,2),(3,3)] (by decide)⟩
  refine e_alloc U m57 104 fct23 rfl fun g115 Y w116 U m116 _ _ =>?_
  refine ⟨fun _ => (m116.to ⟨il,il,il,il,il,il,il,trivial⟩),?_⟩
  refine se 21 ?_
  refine ecl U Tryz.func41 rfl (scmd_v k id x th _ _ _ _ _ _ _ _ _ _ _ (fun h => hV _ (hx1 h)) hx0 (by omega) (by omega) (hlb _ (by omega)) (hlb _ (by omega)) (hlb _ (by omega)) (hlb _ (by omega))) ?_
  rintro e w117 ⟨kd,vo2,bl2,sz2,pe2,to2,at0,ix,place,it,pp9,cp9,pi9,ci9,rfl,hR,hitb,hd117,he117,hb117⟩
  have m118 := m116.callF2 105 106 rfl rfl hb117 hd117 he117
  refine ⟨_,rfl,?_⟩; intro Y U
  refine se 23 ?_
  refine stw U m118 104 fct18 fun w120 m120 _ =>?_
  refine wpAnyE_done (by kernel_rfl) ?_ _
  refine hK7 _ _ ?_
  replace U := U.oz [0,3,4,5,9]
  refine zsr fun K10 hK10 =>?_
  refine goCh U (.loadBR m120 (i := 104) rfl rfl U38 rfl fct18 (by simp) (by dsimp only [List.drop,List.take] <;> rfl) .nil) fun Y U =>?_
  refine plz (ecl U Tryz.func12 rfl (rputCmd_x kd vo2 bl2 sz2 pe2 to2 at0 ix place it _ _ _ _ _ _ ((m120.rd (i := 105) rfl).any) ((m120.rd (i := 106) rfl).any) (hR.ok (fun e he => (hitb e he).2))) ?_)
  rintro e w124 ⟨p124,c124,rfl,hd124,hb124⟩
  have m125 := m120.callF 107 rfl hb124 hd124
  refine ⟨_,rfl,?_⟩; intro Y U
  refine gz hK10 U (.move rfl<|.extract rfl rfl<|.extract rfl rfl<|.assign rfl<|.assign rfl<|.nil) fun Y U =>?_
  replace U := U.oz [0,3,4,5,9,10]
  refine zsr fun K11 hK11 =>?_
  refine goCh U (.move rfl<|.move rfl .nil) fun Y U =>?_
  refine plz (ecl U Tryz.func15 rfl (rapply_e _ _ k L _ _ kd vo2 bl2 sz2 pe2 to2 at0 ix place it _ _ _ hV (by omega) (by omega) hS.nodup (hR.ok (fun e he => (hitb e he).2)) (m125.into [(1,1),(2,2),(3,107)] (by decide) rfl)) ?_)
  rintro e w137 ⟨L2,e1,rl1,rf1,rn1,p137,c137,rfl,hap,hm137⟩
  have mx137 := m125.back hm137 [(1,1),(2,2)] (by decide); clear hm137 m125
  have m137 := mx137.oz [1,2,3,100,101,102,103,104,105,106]
  refine ⟨_,rfl,?_⟩; intro Y U
  refine znl (hK11 _ _ ?_)
  refine wp_region_lit ?_
  refine goCh U (.move rfl<|.loadBR m137 (i := 104) rfl rfl U38 rfl fct18 (by simp) (by dsimp only [List.drop,List.take] <;> rfl) .nil) fun Y U =>?_
  refine plz (e_litR U m137 108 (mm := 10) rfl (.cons rfl rfl (.cons (.v _) (.cons (.v _) (.cons (.v _) (.cons (.v _) (.cons (.v _) (.cons (m137.rd (i := 105) rfl) (.cons (.v _) (.cons (.v _) (.cons (.v _) (.cons (m137.rd (i := 106) rfl) .nil)))))))))) .nil) U24 fct27 rfl rfl rfl rfl rfl fun g141 Y w142 U m142 =>?_)
  have m144 := m142.freezeR 108 rfl
  refine plz (e_appR U m144 3 rfl rfl rfl (m144.rd (i := 108) rfl) U24 fct27 rfl rfl (by decide) (by rw [List.length_map,List.length_singleton]; have := hlen; omega) rfl fun p143 c143 Y w145 U m145 =>?_)
  refine gz hK3 U (.assign rfl .nil) fun Y U =>?_
  replace U := U.oz [0,3,4,5]
  refine wp_region_lit ?_
  refine goCh U (.move rfl<|.inc (i + 4)<|.assign rfl .nil) fun Y U =>?_
  refine wpList_nil ?_
  show ∃ n',n' < _ ∧ _
  have hE : (cs.map cmD) ++ [[.v (.int .i64 (⟨kd,vo2,bl2,sz2,pe2,place,to2,at0,ix,it⟩ : Cm).kd),.v (.int .i64 (⟨kd,vo2,bl2,sz2,pe2,place,to2,at0,ix,it⟩ : Cm).vo),.v (.int .i64 (⟨kd,vo2,bl2,sz2,pe2,place,to2,at0,ix,it⟩ : Cm).bl),.v (.int .i64 (⟨kd,vo2,bl2,sz2,pe2,place,to2,at0,ix,it⟩ : Cm).sz),.v (.int .i64 (⟨kd,vo2,bl2,sz2,pe2,place,to2,at0,ix,it⟩ : Cm).pe),.ns .i64 (⟨kd,vo2,bl2,sz2,pe2,place,to2,at0,ix,it⟩ : Cm).pl,.v (.int .i64 (⟨kd,vo2,bl2,sz2,pe2,place,to2,at0,ix,it⟩ : Cm).to),.v (.int .i64 (⟨kd,vo2,bl2,sz2,pe2,place,to2,at0,ix,it⟩ : Cm).at0),.v (.int .i64 (⟨kd,vo2,bl2,sz2,pe2,place,to2,at0,ix,it⟩ : Cm).ix),.l 2 ((⟨kd,vo2,bl2,sz2,pe2,place,to2,at0,ix,it⟩ : Cm).its.map itD)]] = (cs ++ [(⟨kd,vo2,bl2,sz2,pe2,place,to2,at0,ix,it⟩ : Cm)]).map cmD := by rw [List.map_append]; rfl
  dsimp only at hE
  rw [hE] at m145 U
  obtain ⟨ha1,ha2,ha3⟩ := rApp_s (c := (⟨kd,vo2,bl2,sz2,pe2,place,to2,at0,ix,it⟩ : Cm)) hS hV (fun e he => (hitb e he).2)
  rw [hap] at ha1 ha2 ha3; dsimp only at ha1 ha2 ha3
  exact ⟨l.length - (i + 4),by omega,i + 4,k + 1,_,_,_,L2,cs ++ [(⟨kd,vo2,bl2,sz2,pe2,place,to2,at0,ix,it⟩ : Cm)],_,_,by omega,by omega,by rw [List.length_append,hlen]; rfl,csR_snoc hcs hR hitb,by rw [rrL_snoc hR,← hLc,hap],ha1,by omega,ha3,rfl,U.only [0,3,4,5],m145.ren [(1,1),(2,2),(3,3)] (by decide)⟩
 intro hb15 U; try simp only [QQ,Qax] at hb15
 refine wcf U ?_
 refine wp_exit ?_
 refine hK1 _ _ ?_
 refine regS U (.move rfl<|.assign rfl .nil) fun Y U =>?_
 refine rt1 U ?_
 exact ⟨cs,_,_,rfl,by omega,hcs,m9.outR (i := 3) rfl,m9.below⟩
end
end Go.Proofs.YtkehgingagggaaaGreat.K
