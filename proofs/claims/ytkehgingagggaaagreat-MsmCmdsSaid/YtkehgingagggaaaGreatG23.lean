/- General laws of walks. -/
import Derived.Test.YtkehgingagggaaaGreatG19
import Derived.Test.YtkehgingagggaaaGreatG22
namespace Go.Proofs.YtkehgingagggaaaGreat.K
open Go.ChangeShapes Go.WideShapes Go.ChangeAt Go.RowKit
set_option linter.unusedVariables false
set_option linter.unusedSimpArgs false
section
theorem fl59miw : flatS Tryz.prog 59 [.int .i64 0,.slice none 0 0] = true := by kernel_rfl
def RdN (b : List Int) (er : Int) (b' : List Int) (er' : Int) : Prop := b'.length ≤ b.length ∧ BytesL b' ∧ (er' = 0 → er = 0 ∧ b'.length < b.length)
def RdW (b b' : List Int) : Prop := b'.length ≤ b.length ∧ BytesL b'
theorem rdN_bad {b : List Int} {er e' : Int} (h : e' ≠ 0) : RdN b er [] e' := ⟨Nat.zero_le _,(fun x h => by cases h),fun h9 => absurd h9 h⟩
theorem RdN.drop {b b' : List Int} {er er' : Int} (h : RdN b er b' er') (n : Nat) : RdN b er (b'.drop n) er' :=
 ⟨by rw [List.length_drop]; have := h.1; omega,fun x hx => h.2.1 x (List.mem_of_mem_drop hx),fun h9 => ⟨(h.2.2 h9).1,by rw [List.length_drop]; have := (h.2.2 h9).2; omega⟩⟩
theorem RdN.tr {b b' b2 : List Int} {er er' e2 : Int} (h : RdN b er b' er') (h2 : RdN b' er' b2 e2) : RdN b er b2 e2 :=
 ⟨Nat.le_trans h2.1 h.1,h2.2.1,fun h9 => ⟨(h.2.2 (h2.2.2 h9).1).1,Nat.lt_of_lt_of_le (h2.2.2 h9).2 h.1⟩⟩
theorem RdN.w {b b' : List Int} {er er' : Int} (h : RdN b er b' er') : RdW b b' := ⟨h.1,h.2.1⟩
theorem RdW.tr {b b' b2 : List Int} (h : RdW b b') (h2 : RdW b' b2) : RdW b b2 := ⟨Nat.le_trans h2.1 h.1,h2.2⟩
theorem numR_rd (b : List Int) (er mx : Int) (hb : BytesL b) : RdN b er (numR b er mx).2.1 (numR b er mx).2.2 := by
 by_cases h0 : er = 0
 · subst h0
   cases hd : dec 0 0 b with
   | err e =>
     rw [numR_err mx hd]
     have h9 := dec_err _ _ _ _ hd
     show RdN b 0 [] e
     exact rdN_bad (by omega)
   | ok n k =>
     rw [numR_val mx hd]
     split
     · exact rdN_bad (by decide)
     have h9 := dec_ok b 0 0 n k hb (by omega) (by decide) hd
     exact ⟨by simp,fun x hx => hb x (List.mem_of_mem_drop hx),fun _ => ⟨rfl,by simp only [List.length_drop]; omega⟩⟩
 rw [numR_bad _ _ _ h0]
 exact ⟨Nat.le_refl _,hb,fun h9 => absurd h9 h0⟩
set_option maxRecDepth 100000
set_option maxHeartbeats 4000000
theorem pnum_w (X : Cx) (B : Nat) (b : List Int) (er mx : Int) (p : Option Addr) (c : Nat) (w0 : World) (hb : b.length ≤ 1000000) (hbb : BytesL b) (m0 : MemOk X w0 [(1,.box B 148 [.slice p (b).length c,.int .i64 er]),(2,.dat (.slice p (b).length c) (.ns .u8 (b)))] w0) (hmx : 0 ≤ mx := by decide) :
   Calls Tryz.prog 60 #[.pointer (some ⟨B,0,none⟩),.int .u64 mx] w0 fun e w' => ∃ (x : Int) (b' : List Int) (er' : Int) (p' : Option Addr) (c' : Nat),e = .returned (.int .u64 x) ∧ (0 ≤ x ∧ x ≤ mx) ∧ RdN b er b' er' ∧ MemOk X w0 [(1,.box B 148 [.slice p' (b').length c',.int .i64 er']),(2,.dat (.slice p' (b').length c') (.ns .u8 (b')))] w' :=
 (pnum_x X B b er mx p c w0 hb hbb m0).mono fun e w' ⟨p',c',he,hm⟩ => ⟨_,_,_,p',c',he,numR_le b er mx hmx,numR_rd b er mx hbb,hm⟩
theorem num_w (X : Cx) (B : Nat) (b : List Int) (er : Int) (p : Option Addr) (c : Nat) (w0 : World) (hb : b.length ≤ 1000000) (hbb : BytesL b) (m0 : MemOk X w0 [(1,.box B 148 [.slice p (b).length c,.int .i64 er]),(2,.dat (.slice p (b).length c) (.ns .u8 (b)))] w0) :
   Calls Tryz.prog 73 #[.pointer (some ⟨B,0,none⟩)] w0 fun e w' => ∃ (x : Int) (b' : List Int) (er' : Int) (p' : Option Addr) (c' : Nat),e = .returned (.int .i64 x) ∧ (0 ≤ x ∧ x ≤ 1099511627776) ∧ RdN b er b' er' ∧ MemOk X w0 [(1,.box B 148 [.slice p' (b').length c',.int .i64 er']),(2,.dat (.slice p' (b').length c') (.ns .u8 (b')))] w' := by
 refine ent1 Tryz.func73 rfl Tryz.ntmps73 fun Y U =>?_
 refine regS U (.assign rfl .nil) fun Y U =>?_
 refine zsr fun K0 hK0 =>?_
 refine goCh U (.move rfl .nil) fun Y U =>?_
 refine plz (ecl U Tryz.func60 rfl (pnum_w _ _ b er 1099511627776 _ _ _ hb hbb (m0.into [(1,1),(2,2)] (by decide) rfl)) ?_)
 rintro e w4 ⟨xq4,bq4,eq4,p4,c4,rfl,hxq4,hq4,hm4⟩
 have mx4 := m0.back hm4 [(1,1),(2,2)] (by decide); clear hm4 m0
 have m4 := mx4.oz [1,2]
 refine ⟨_,rfl,?_⟩; intro Y U
 have hlq4 : bq4.length ≤ 1000000 := Nat.le_trans hq4.1 hb
 refine gz hK0 U (.conv rfl U108 U3 (r := xq4) (IntWalk.i64_in _ (by have := hxq4; omega))<|.assign rfl<|.nil) fun Y U =>?_
 refine rt1 U ?_
 exact ⟨_,_,_,_,_,rfl,hxq4,hq4,m4.only [1,2]⟩
theorem time_w (X : Cx) (B : Nat) (b : List Int) (er : Int) (p : Option Addr) (c : Nat) (w0 : World) (hb : b.length ≤ 1000000) (hbb : BytesL b) (m0 : MemOk X w0 [(1,.box B 148 [.slice p (b).length c,.int .i64 er]),(2,.dat (.slice p (b).length c) (.ns .u8 (b)))] w0) :
   Calls Tryz.prog 74 #[.pointer (some ⟨B,0,none⟩)] w0 fun e w' => ∃ (x : Int) (b' : List Int) (er' : Int) (p' : Option Addr) (c' : Nat),e = .returned (.int .i64 x) ∧ (0 ≤ x ∧ x ≤ 1099511627776) ∧ RdN b er b' er' ∧ MemOk X w0 [(1,.box B 148 [.slice p' (b').length c',.int .i64 er']),(2,.dat (.slice p' (b').length c') (.ns .u8 (b')))] w' := by
 refine ent1 Tryz.func74 rfl Tryz.ntmps74 fun Y U =>?_
 refine regS U (.assign rfl .nil) fun Y U =>?_
 refine zsr fun K0 hK0 =>?_
 refine goCh U (.move rfl .nil) fun Y U =>?_
 refine plz (ecl U Tryz.func73 rfl (num_w _ _ b er _ _ _ hb hbb (m0.into [(1,1),(2,2)] (by decide) rfl)) ?_)
 rintro e w4 ⟨xq4,bq4,eq4,p4,c4,rfl,hxq4,hq4,hm4⟩
 have mx4 := m0.back hm4 [(1,1),(2,2)] (by decide); clear hm4 m0
 have m4 := mx4.oz [1,2]
 refine ⟨_,rfl,?_⟩; intro Y U
 have hlq4 : bq4.length ≤ 1000000 := Nat.le_trans hq4.1 hb
 refine gz hK0 U (.assign rfl .nil) fun Y U =>?_
 refine rt1 U ?_
 exact ⟨_,_,_,_,_,rfl,hxq4,hq4,m4.only [1,2]⟩
theorem lump_w (X : Cx) (B : Nat) (b : List Int) (er mx : Int) (p : Option Addr) (c : Nat) (w0 : World) (hb : b.length ≤ 1000000) (hbb : BytesL b) (m0 : MemOk X w0 [(1,.box B 148 [.slice p (b).length c,.int .i64 er]),(2,.dat (.slice p (b).length c) (.ns .u8 (b)))] w0) (hmx : 0 ≤ mx ∧ mx ≤ 1000000 := by decide) :
   Calls Tryz.prog 140 #[.pointer (some ⟨B,0,none⟩),.int .i64 mx] w0 fun e w' => ∃ (d b' : List Int) (er' : Int) (p' : Option Addr) (c' : Nat) (p3 : Option Addr) (c3 : Nat),e = .returned (.slice p3 d.length c3) ∧ ((d.length : Int) ≤ mx ∧ BytesL d) ∧ RdN b er b' er' ∧ MemOk X w0 [(1,.box B 148 [.slice p' (b').length c',.int .i64 er']),(2,.dat (.slice p' (b').length c') (.ns .u8 (b'))),(3,.dat (.slice p3 d.length c3) (.ns .u8 d))] w' := by
 refine ent2 Tryz.func140 rfl Tryz.ntmps140 fun Y U =>?_
 refine regS U (.assign rfl .nil) fun Y U =>?_
 refine zsr fun K0 hK0 =>?_
 refine goCh U (.move rfl<|.move rfl<|.c rfl (fun _ h_ => y_max h_ rfl rfl (r := mx) (by omega))<|.conv rfl U3 U108 (r := mx) (IntWalk.u64_in _ (by omega)) .nil) fun Y U =>?_
 refine plz (ecl U Tryz.func60 rfl (pnum_w _ _ b er mx _ _ _ hb hbb (m0.into [(1,1),(2,2)] (by decide) rfl) hmx.1) ?_)
 rintro e w10 ⟨xq10,bq10,eq10,p10,c10,rfl,hxq10,hq10,hm10⟩
 have mx10 := m0.back hm10 [(1,1),(2,2)] (by decide); clear hm10 m0
 have m10 := mx10.oz [1,2]
 refine ⟨_,rfl,?_⟩; intro Y U
 have hlq10 : bq10.length ≤ 1000000 := Nat.le_trans hq10.1 hb
 revert U
 obtain ⟨un,rfl⟩ : ∃ un : Nat,xq10 = (un : Int) := ⟨xq10.toNat,by omega⟩
 intro U
 refine gz hK0 U (.assign rfl .nil) fun Y U =>?_
 refine wsk fun K1 hK1 =>?_
 replace U := U.oz [0,4,5]
 refine regS U (.move rfl<|.nilCheck rfl<|.fieldAddr (off := 0) rfl U148 rfl (s := 1) (by kernel_rfl) rfl<|.fa 1 rfl U146<|.lb m10 1 U42 rfl rfl rfl<|.neq rfl rfl .nil) fun Y U =>?_
 refine bc U 17 ?_ ?_
 ·
  intro hb20 U; try simp only [QQ,Qax] at hb20
  refine wct U ?_
  replace U := U.oz [0,4,5]
  refine regS U (.assign rfl .nil) fun Y U =>?_
  refine rt1 U ?_
  have mA := m10.dat 92 rfl (Rd.nilN _ _ .u8 none)
  exact ⟨[],_,_,_,_,_,_,rfl,⟨by simp; omega,(fun x h => by cases h)⟩,hq10,mA.ren [(1,1),(2,2),(3,92)] (by decide)⟩
 intro hb20 U; try simp only [QQ,Qax] at hb20
 refine wcf U ?_
 refine zss (hK1 _ _ ?_)
 refine wsk fun K2 hK2 =>?_
 replace U := U.oz [0,4,5]
 refine regS U (.move rfl<|.move rfl<|.nilCheck rfl<|.fieldAddr (off := 0) rfl U148 rfl (s := 1) (by kernel_rfl) rfl<|.fa 0 rfl U146<|.lb m10 1 U22 rfl rfl rfl<|.len rfl U22<|.conv rfl U3 U108 (IntWalk.u64_in _ (by omega))<|.gtr rfl rfl .nil) fun Y U =>?_
 refine bc U 26 ?_ ?_
 ·
  intro hb33 U; try simp only [QQ,Qax] at hb33
  refine wct U ?_
  replace U := U.oz [0,4,5]
  refine zsr fun K3 hK3 =>?_
  refine goCh U (.move rfl<|.nilCheck rfl<|.fieldAddr (off := 0) rfl U148 rfl (s := 1) (by kernel_rfl) rfl .nil) fun Y U =>?_
  refine plz (ecl U Tryz.func107 rfl (pfail_x _ _ _ _ _ _ (m10.into [(1,1)] (by decide) rfl)) ?_)
  rintro e w42 ⟨rfl,hm42⟩
  have mx42 := m10.back hm42 [(1,1)] (by decide); clear hm42 m10
  have m42 := mx42.oz [1,2]
  refine ⟨_,rfl,?_⟩; intro Y U
  refine znl (hK3 _ _ ?_)
  refine regS U (.assign rfl .nil) fun Y U =>?_
  refine rt1 U ?_
  have mA := m42.dat 92 rfl (Rd.nilN _ _ .u8 none)
  have mB := mA.dat 91 rfl (Rd.nilN _ _ .u8 none)
  exact ⟨[],[],21,_,_,_,_,rfl,⟨by simp; omega,(fun x h => by cases h)⟩,rdN_bad (by decide),mB.ren [(1,1),(2,91),(3,92)] (by decide)⟩
 intro hb33 U; try simp only [QQ,Qax] at hb33
 have hun2 : un ≤ bq10.length := by have := hb33; first | omega | (simp at this; omega)
 refine wcf U ?_
 refine zss (hK2 _ _ ?_)
 replace U := U.oz [0,4,5]
 refine zsr fun K4 hK4 =>?_
 refine goCh U (.move rfl<|.nilCheck rfl<|.fieldAddr (off := 0) rfl U148 rfl (s := 1) (by kernel_rfl) rfl<|.fa 0 rfl U146<|.lb m10 1 U22 rfl rfl rfl<|.move rfl .nil) fun Y U =>?_
 have hcap59 := (m10.rd (i := 2) rfl).ns_out.cap
 have m59 := m10.takeN (i := 2) rfl un hun2 20 rfl
 refine goCh U (.c rfl (fun _ h_ => y_sliceHn h_ un rfl rfl U22 fct15 rfl (Nat.le_trans hun2 hcap59.1)) .nil) fun Y U =>?_
 refine plz (e_litR U m59 21 (mm := 1) rfl (.cons rfl rfl (.cons (m59.rd (i := 20) rfl) .nil) .nil) U23 fct19 rfl rfl rfl rfl rfl fun g61 Y w62 U m62 =>?_)
 have m63 := m62.freezeR 21 rfl
 refine plz (ecn U Tryz.func68 rfl m63 22 (pjoin_is (ls := [bq10.take un]) (S := bq10.take un) ((m63.rd (i := 21) rfl).any) (by simp) (by simp [sumLen]; omega) (by simp)) fun p64 c64 Y w64 U m65 =>?_)
 refine gz hK4 U (.assign rfl .nil) fun Y U =>?_
 replace U := U.oz [0,4,5,6]
 refine zsr fun K5 hK5 =>?_
 refine goCh U (.move rfl<|.move rfl<|.nilCheck rfl<|.fieldAddr (off := 0) rfl U148 rfl (s := 1) (by kernel_rfl) rfl<|.fa 0 rfl U146<|.lb m65 1 U22 rfl rfl rfl<|.move rfl .nil) fun Y U =>?_
 have m84 := m65.dropN (i := 2) rfl un hun2 23 rfl
 refine goCh U (.c rfl (fun _ h_ => y_sliceLn h_ un rfl rfl U22 fct15 rfl hun2)<|.nilCheck rfl<|.fieldAddr (off := 0) rfl U148 rfl (s := 1) (by kernel_rfl) rfl<|.fa 0 rfl U146 .nil) fun Y U =>?_
 refine plz (st1 U m84 1 fct2 fun w89 m89 _ =>?_)
 refine znl (hK5 _ _ ?_)
 replace U := U.oz [4,6]
 refine regS U (.move rfl<|.assign rfl .nil) fun Y U =>?_
 refine rt1 U ?_
 have m93 := m89.freezeN 22 rfl
 have e3 : bq10.length - un = (bq10.drop un).length := by rw [List.length_drop]
 rw [e3] at m93
 have e4 : (bq10.take un).length = un := by rw [List.length_take]; omega
 exact ⟨bq10.take un,bq10.drop un,_,_,_,_,_,rfl,⟨by rw [e4]; omega,fun x h => hq10.2.1 x (List.mem_of_mem_take h)⟩,hq10.drop un,m93.ren [(1,1),(2,23),(3,22)] (by decide)⟩
theorem readItem_w (X : Cx) (B : Nat) (b : List Int) (er : Int) (p : Option Addr) (c : Nat) (w0 : World) (hb : b.length ≤ 1000000) (hbb : BytesL b) (m0 : MemOk X w0 [(1,.box B 148 [.slice p (b).length c,.int .i64 er]),(2,.dat (.slice p (b).length c) (.ns .u8 (b)))] w0) :
   Calls Tryz.prog 119 #[.pointer (some ⟨B,0,none⟩)] w0 fun e w' => ∃ (x : Int) (d b' : List Int) (er' : Int) (p' : Option Addr) (c' : Nat) (p3 : Option Addr) (c3 : Nat),e = .returned (.agg #[.int .i64 x,.slice p3 d.length c3]) ∧ (0 ≤ x ∧ x ≤ 1099511627776) ∧ ((d.length : Int) ≤ 32 ∧ BytesL d) ∧ RdN b er b' er' ∧ MemOk X w0 [(1,.box B 148 [.slice p' (b').length c',.int .i64 er']),(2,.dat (.slice p' (b').length c') (.ns .u8 (b'))),(3,.dat (.slice p3 d.length c3) (.ns .u8 d))] w' := by
 refine ent1 Tryz.func119 rfl Tryz.ntmps119 fun Y U =>?_
 refine zsr fun K0 hK0 =>?_
 refine plz (e_alloc U m0 20 fct4 rfl fun g1 Y w2 U m2 _ _ =>?_)
 refine znl (hK0 _ _ ?_)
 refine zsr fun K1 hK1 =>?_
 refine goCh U (.move rfl .nil) fun Y U =>?_
 refine plz (ecl U Tryz.func73 rfl (num_w _ _ b er _ _ _ hb hbb (m2.into [(1,1),(2,2)] (by decide) rfl)) ?_)
 rintro e w5 ⟨xq5,bq5,eq5,p5,c5,rfl,hxq5,hq5,hm5⟩
 have mx5 := m2.back hm5 [(1,1),(2,2)] (by decide); clear hm5 m2
 have m5 := mx5.oz [1,2,20]
 refine ⟨_,rfl,?_⟩; intro Y U
 have hlq5 : bq5.length ≤ 1000000 := Nat.le_trans hq5.1 hb
 refine goCh U (.move rfl .nil) fun Y U =>?_
 refine plz (ecl U Tryz.func140 rfl (lump_w _ _ bq5 eq5 32 _ _ _ hlq5 hq5.2.1 (m5.into [(1,1),(2,2)] (by decide) rfl)) ?_)
 rintro e w8 ⟨dq8,bq8,eq8,p8,c8,p38,c38,rfl,hdq8,hq8,hm8⟩
 have mx8 := m5.back hm8 [(1,1),(2,2),(21,3)] (by decide); clear hm8 m5
 have m8 := mx8.oz [1,2,21,20]
 refine ⟨_,rfl,?_⟩; intro Y U
 have hlq8 : bq8.length ≤ 1000000 := Nat.le_trans hq8.1 hlq5
 refine goCh U (.build rfl fct4 fl59miw rfl (by dsimp only [setL,List.set] <;> rfl) .nil) fun Y U =>?_
 refine plz (stw U m8 20 fct3 fun w11 m11 _ =>?_)
 refine znl (hK1 _ _ ?_)
 refine rtd (retC (fn := Tryz.f119) U m11 (i := 20) rfl rfl rfl U59 rfl fct3 ?_)
 exact ⟨xq5,dq8,_,_,_,_,_,_,rfl,hxq5,hdq8,hq5.tr hq8,m11.ren [(1,1),(2,2),(3,21)] (by decide)⟩
theorem listI_w (X : Cx) (B : Nat) (b : List Int) (er : Int) (p : Option Addr) (c : Nat) (w0 : World) (hb : b.length ≤ 1000000) (hbb : BytesL b) (m0 : MemOk X w0 [(1,.box B 148 [.slice p (b).length c,.int .i64 er]),(2,.dat (.slice p (b).length c) (.ns .u8 (b)))] w0) :
   Calls Tryz.prog 75 #[.pointer (some ⟨B,0,none⟩),.func (.func 73) #[] #[]] w0 fun e w' => ∃ (l b' : List Int) (er' : Int) (p' : Option Addr) (c' : Nat) (p3 : Option Addr) (c3 : Nat),e = .returned (.slice p3 l.length c3) ∧ l.length ≤ b.length ∧ (∀ z ∈ l,0 ≤ z ∧ z ≤ 1099511627776) ∧ RdW b b' ∧ MemOk X w0 [(1,.box B 148 [.slice p' (b').length c',.int .i64 er']),(2,.dat (.slice p' (b').length c') (.ns .u8 (b'))),(3,.dat (.slice p3 l.length c3) (.ns .i64 l))] w' := by
 refine ent2 Tryz.func75 rfl Tryz.ntmps75 fun Y U =>?_
 refine regS U (.assign rfl .nil) fun Y U =>?_
 refine regS U (.assign rfl .nil) fun Y U =>?_
 refine wsk fun K0 hK0 =>?_
 refine zsr fun K1 hK1 =>?_
 refine goCh U (.move rfl .nil) fun Y U =>?_
 refine plz (ecl U Tryz.func60 rfl (pnum_w _ _ b er 1099511627776 _ _ _ hb hbb (m0.into [(1,1),(2,2)] (by decide) rfl)) ?_)
 rintro e w5 ⟨xq5,bq5,eq5,p5,c5,rfl,hxq5,hq5,hm5⟩
 have mx5 := m0.back hm5 [(1,1),(2,2)] (by decide); clear hm5 m0
 have m5 := mx5.oz [1,2]
 refine ⟨_,rfl,?_⟩; intro Y U
 have hlq5 : bq5.length ≤ 1000000 := Nat.le_trans hq5.1 hb
 refine gz hK1 U (.move rfl .nil) fun Y U =>?_
 refine wp_block ?_
 refine wp_loop_ghost (fun g a w => ∃ (k : Nat) (b1 : List Int) (e1 : Int) (l : List Int) (p1 : Option Addr) (c1 : Nat) (p3 : Option Addr) (c3 : Nat),(k : Int) ≤ xq5 ∧ l.length + b1.length ≤ b.length ∧ b1.length ≤ 1000000 ∧ BytesL b1 ∧ (∀ z ∈ l,0 ≤ z ∧ z ≤ 1099511627776) ∧ g = b1.length ∧ Has 23 [(0,.pointer (some ⟨B,0,none⟩)),(1,.func (.func 73) #[] #[]),(5,.slice p3 l.length c3),(8,.int .u64 xq5),(9,.int .u64 (k : Int))] a ∧ MemOk X w0 [(1,.box B 148 [.slice p1 (b1).length c1,.int .i64 e1]),(2,.dat (.slice p1 (b1).length c1) (.ns .u8 (b1))),(7,.num (.slice p3 l.length c3) 3 .i64 l)] w) (bq5.length) ?_ ?_
 · have mz := m5.nilN 7 3 .i64
   exact ⟨0,bq5,_,[],_,_,_,_,by omega,by simp; exact hq5.1,hlq5,hq5.2.1,(fun z h => by cases h),rfl,U.only [0,1,5,8,9],mz.ren [(1,1),(2,2),(7,7)] (by decide)⟩
 clear U m5
 rintro g Y w8 ⟨k,b1,e1,l,p1,c1,p3,c3,hkl,hlb,hb1,hbb1,hall,hg,U,m8⟩
 refine regS U (.lss rfl rfl .nil) fun Y U =>?_
 refine wsk fun K2 hK2 =>?_
 refine bc U 10 ?_ ?_
 ·
  intro hb10 U; try simp only [QQ,Qax] at hb10
  have hk : (k : Int) < xq5 := by omega
  refine wct U ?_
  refine zss (hK2 _ _ ?_)
  refine wsk fun K3 hK3 =>?_
  refine wp_block ?_
  refine zsr fun K4 hK4 =>?_
  refine goCh U (.move rfl<|.move rfl .nil) fun Y U =>?_
  refine plz (e_callV U rfl Tryz.func73 rfl rfl rfl rfl (num_w _ _ b1 _ _ _ _ hb1 hbb1 (m8.into [(1,1),(2,2)] (by decide) rfl)) ?_)
  rintro e w15 ⟨xq15,bq15,eq15,p15,c15,rfl,hxq15,hq15,hm15⟩
  have mx15 := m8.back hm15 [(1,1),(2,2)] (by decide); clear hm15 m8
  have m15 := mx15.oz [1,2,7]
  refine ⟨_,rfl,?_⟩; intro Y U
  have hlq15 : bq15.length ≤ 1000000 := Nat.le_trans hq15.1 hb1
  refine gz hK4 U (.assign rfl .nil) fun Y U =>?_
  refine wsk fun K5 hK5 =>?_
  refine zsr fun K6 hK6 =>?_
  refine goCh U (.move rfl .nil) fun Y U =>?_
  refine plz (ecl U Tryz.func62 rfl (perr_x _ _ _ _ _ _ _ (m15.into [(1,1),(2,2)] (by decide) rfl)) ?_)
  rintro e w20 ⟨rfl,hm20⟩
  have mx20 := m15.back hm20 [(1,1),(2,2)] (by decide); clear hm20 m15
  have m20 := mx20.oz [1,2,7]
  refine ⟨_,rfl,?_⟩; intro Y U
  refine gz hK6 U (.neq rfl rfl .nil) fun Y U =>?_
  refine bc U 16 ?_ ?_
  ·
   intro hb23 U; try simp only [QQ,Qax] at hb23
   refine wct U ?_
   refine wp_exit ?_
   refine hK0 _ _ ?_
   replace U := U.oz [0,1,5,8,9]
   refine regS U (.move rfl<|.assign rfl .nil) fun Y U =>?_
   refine rt1 U ?_
   have m27 := m20.freezeN 7 rfl
   exact ⟨_,_,_,_,_,_,_,rfl,by omega,hall,⟨by have := hq15.1; omega,hq15.2.1⟩,m27.ren [(1,1),(2,2),(3,7)] (by decide)⟩
  intro hb23 U; try simp only [QQ,Qax] at hb23
  have hst15 : bq15.length < b1.length := (hq15.2.2 (by have := hb23; first | omega | (simp at this; omega))).2
  refine wcf U ?_
  refine zss (hK5 _ _ ?_)
  replace U := U.oz [0,1,5,8,9,6]
  refine wp_region_lit ?_
  refine goCh U (.move rfl<|.move rfl .nil) fun Y U =>?_
  refine plz (e_litN U m20 100 (k := .i64) rfl rfl U35 fct16 rfl rfl rfl rfl fun g31 Y w32 U m32 =>?_)
  refine plz (e_appN U m32 7 rfl rfl rfl (m32.numsO (i := 100) rfl) U35 fct16 (by decide) (by simp; omega) rfl fun p33 c33 Y w34 U m34 =>?_)
  refine gz hK3 U (.assign rfl .nil) fun Y U =>?_
  refine wp_region_lit ?_
  refine goCh U (.add rfl rfl (r := ((k + 1 : Nat) : Int)) (by rw [IntWalk.u64_in _ (by omega)]; omega)<|.move rfl .nil) fun Y U =>?_
  refine wpList_nil ?_
  show ∃ n',n' < _ ∧ _
  exact ⟨bq15.length,by omega,k + 1,bq15,_,_,_,_,_,_,by omega,by rw [List.length_append,List.length_singleton]; omega,hlq15,hq15.2.1,app_all hall hxq15,rfl,U.only [0,1,5,8,9],m34.ren [(1,1),(2,2),(7,7)] (by decide)⟩
 intro hb10 U; try simp only [QQ,Qax] at hb10
 refine wcf U ?_
 refine wp_exit ?_
 refine hK0 _ _ ?_
 refine regS U (.move rfl<|.assign rfl .nil) fun Y U =>?_
 refine rt1 U ?_
 have m40 := m8.freezeN 7 rfl
 exact ⟨_,_,_,_,_,_,_,rfl,by omega,hall,⟨by omega,hbb1⟩,m40.ren [(1,1),(2,2),(3,7)] (by decide)⟩
theorem listT_w (X : Cx) (B : Nat) (b : List Int) (er : Int) (p : Option Addr) (c : Nat) (w0 : World) (hb : b.length ≤ 1000000) (hbb : BytesL b) (m0 : MemOk X w0 [(1,.box B 148 [.slice p (b).length c,.int .i64 er]),(2,.dat (.slice p (b).length c) (.ns .u8 (b)))] w0) :
   Calls Tryz.prog 118 #[.pointer (some ⟨B,0,none⟩),.func (.func 119) #[] #[]] w0 fun e w' => ∃ (l : List (Int × List Int)) (b' : List Int) (er' : Int) (p' : Option Addr) (c' : Nat) (p3 : Option Addr) (c3 : Nat),e = .returned (.slice p3 (l.map itD).length c3) ∧ l.length ≤ b.length ∧ (∀ e ∈ l,(0 ≤ e.1 ∧ e.1 ≤ 1099511627776) ∧ e.2.length ≤ 32 ∧ BytesL e.2) ∧ RdW b b' ∧ MemOk X w0 [(1,.box B 148 [.slice p' (b').length c',.int .i64 er']),(2,.dat (.slice p' (b').length c') (.ns .u8 (b'))),(3,.dat (.slice p3 (l.map itD).length c3) (.l 2 (l.map itD)))] w' := by
 refine ent2 Tryz.func118 rfl Tryz.ntmps118 fun Y U =>?_
 refine regS U (.assign rfl .nil) fun Y U =>?_
 refine regS U (.assign rfl .nil) fun Y U =>?_
 refine wsk fun K0 hK0 =>?_
 refine zsr fun K1 hK1 =>?_
 refine goCh U (.move rfl .nil) fun Y U =>?_
 refine plz (ecl U Tryz.func60 rfl (pnum_w _ _ b er 1099511627776 _ _ _ hb hbb (m0.into [(1,1),(2,2)] (by decide) rfl)) ?_)
 rintro e w5 ⟨xq5,bq5,eq5,p5,c5,rfl,hxq5,hq5,hm5⟩
 have mx5 := m0.back hm5 [(1,1),(2,2)] (by decide); clear hm5 m0
 have m5 := mx5.oz [1,2]
 refine ⟨_,rfl,?_⟩; intro Y U
 have hlq5 : bq5.length ≤ 1000000 := Nat.le_trans hq5.1 hb
 refine gz hK1 U (.move rfl .nil) fun Y U =>?_
 refine wp_block ?_
 refine wp_loop_ghost (fun g a w => ∃ (k : Nat) (b1 : List Int) (e1 : Int) (l : List (Int × List Int)) (p1 : Option Addr) (c1 : Nat) (p3 : Option Addr) (c3 : Nat),(k : Int) ≤ xq5 ∧ l.length + b1.length ≤ b.length ∧ b1.length ≤ 1000000 ∧ BytesL b1 ∧ (∀ e ∈ l,(0 ≤ e.1 ∧ e.1 ≤ 1099511627776) ∧ e.2.length ≤ 32 ∧ BytesL e.2) ∧ g = b1.length ∧ Has 23 [(0,.pointer (some ⟨B,0,none⟩)),(1,.func (.func 119) #[] #[]),(5,.slice p3 (l.map itD).length c3),(8,.int .u64 xq5),(9,.int .u64 (k : Int))] a ∧ MemOk X w0 [(1,.box B 148 [.slice p1 (b1).length c1,.int .i64 e1]),(2,.dat (.slice p1 (b1).length c1) (.ns .u8 (b1))),(7,.row (.slice p3 (l.map itD).length c3) 59 2 (l.map itD))] w) (bq5.length) ?_ ?_
 · have mz := m5.nilR 7 59 2
   exact ⟨0,bq5,_,[],_,_,_,_,by omega,by simp; exact hq5.1,hlq5,hq5.2.1,(fun z h => by cases h),rfl,U.only [0,1,5,8,9],mz.ren [(1,1),(2,2),(7,7)] (by decide)⟩
 clear U m5
 rintro g Y w8 ⟨k,b1,e1,l,p1,c1,p3,c3,hkl,hlb,hb1,hbb1,hall,hg,U,m8⟩
 refine regS U (.lss rfl rfl .nil) fun Y U =>?_
 refine wsk fun K2 hK2 =>?_
 refine bc U 10 ?_ ?_
 ·
  intro hb10 U; try simp only [QQ,Qax] at hb10
  have hk : (k : Int) < xq5 := by omega
  refine wct U ?_
  refine zss (hK2 _ _ ?_)
  refine wsk fun K3 hK3 =>?_
  refine wp_block ?_
  refine zsr fun K4 hK4 =>?_
  refine goCh U (.move rfl<|.move rfl .nil) fun Y U =>?_
  refine plz (e_callV U rfl Tryz.func119 rfl rfl rfl rfl (readItem_w _ _ b1 _ _ _ _ hb1 hbb1 (m8.into [(1,1),(2,2)] (by decide) rfl)) ?_)
  rintro e w15 ⟨xq15,dq15,bq15,eq15,p15,c15,p315,c315,rfl,hxq15,hdq15,hq15,hm15⟩
  have mx15 := m8.back hm15 [(1,1),(2,2),(100,3)] (by decide); clear hm15 m8
  have m15 := mx15.oz [1,2,100,7]
  refine ⟨_,rfl,?_⟩; intro Y U
  have hlq15 : bq15.length ≤ 1000000 := Nat.le_trans hq15.1 hb1
  refine plz (e_alloc U m15 101 fct4 rfl fun g17 Y w18 U m18 _ _ =>?_)
  refine plz (stw U m18 101 fct3 fun w19 m19 _ =>?_)
  refine znl (hK4 _ _ ?_)
  refine wsk fun K5 hK5 =>?_
  refine zsr fun K6 hK6 =>?_
  refine goCh U (.move rfl .nil) fun Y U =>?_
  refine plz (ecl U Tryz.func62 rfl (perr_x _ _ _ _ _ _ _ (m19.into [(1,1),(2,2)] (by decide) rfl)) ?_)
  rintro e w22 ⟨rfl,hm22⟩
  have mx22 := m19.back hm22 [(1,1),(2,2)] (by decide); clear hm22 m19
  have m22 := mx22.oz [1,2,7,100,101]
  refine ⟨_,rfl,?_⟩; intro Y U
  refine gz hK6 U (.neq rfl rfl .nil) fun Y U =>?_
  refine bc U 16 ?_ ?_
  ·
   intro hb25 U; try simp only [QQ,Qax] at hb25
   refine wct U ?_
   refine wp_exit ?_
   refine hK0 _ _ ?_
   replace U := U.oz [0,1,5,8,9]
   refine regS U (.move rfl<|.assign rfl .nil) fun Y U =>?_
   refine rt1 U ?_
   have m29 := m22.freezeR 7 rfl
   exact ⟨_,_,_,_,_,_,_,rfl,by omega,hall,⟨by have := hq15.1; omega,hq15.2.1⟩,m29.ren [(1,1),(2,2),(3,7)] (by decide)⟩
  intro hb25 U; try simp only [QQ,Qax] at hb25
  have hst15 : bq15.length < b1.length := (hq15.2.2 (by have := hb25; first | omega | (simp at this; omega))).2
  refine wcf U ?_
  refine zss (hK5 _ _ ?_)
  replace U := U.oz [0,1,5,8,9,6]
  refine wp_region_lit ?_
  refine goCh U (.move rfl<|.loadBR m22 (i := 101) rfl rfl U59 rfl fct3 (by simp) (by dsimp only [List.drop,List.take] <;> rfl) .nil) fun Y U =>?_
  refine plz (e_litR U m22 102 (mm := 2) rfl (.cons rfl rfl (.cons (.v _) (.cons (m22.rd (i := 100) rfl) .nil)) .nil) U36 fct5 rfl rfl rfl rfl rfl fun g33 Y w34 U m34 =>?_)
  have m36 := m34.freezeR 102 rfl
  refine plz (e_appR U m36 7 rfl rfl rfl (m36.rd (i := 102) rfl) U36 fct5 rfl rfl (by decide) (by simp; omega) rfl fun p35 c35 Y w37 U m37 =>?_)
  refine gz hK3 U (.assign rfl .nil) fun Y U =>?_
  refine wp_region_lit ?_
  refine goCh U (.add rfl rfl (r := ((k + 1 : Nat) : Int)) (by rw [IntWalk.u64_in _ (by omega)]; omega)<|.move rfl .nil) fun Y U =>?_
  refine wpList_nil ?_
  show ∃ n',n' < _ ∧ _
  have hE : l.map itD ++ [[.v (.int .i64 xq15),.ns .u8 dq15]] = (l ++ [(xq15,dq15)]).map itD := by rw [List.map_append]; rfl
  rw [hE] at m37 U
  exact ⟨bq15.length,by omega,k + 1,bq15,_,_,_,_,_,_,by omega,by rw [List.length_append,List.length_singleton]; omega,hlq15,hq15.2.1,app_all (x := (xq15,dq15)) hall ⟨hxq15,by have := hdq15.1; dsimp only; omega,hdq15.2⟩,rfl,U.only [0,1,5,8,9],m37.ren [(1,1),(2,2),(7,7)] (by decide)⟩
 intro hb10 U; try simp only [QQ,Qax] at hb10
 refine wcf U ?_
 refine wp_exit ?_
 refine hK0 _ _ ?_
 refine regS U (.move rfl<|.assign rfl .nil) fun Y U =>?_
 refine rt1 U ?_
 have m43 := m8.freezeR 7 rfl
 exact ⟨_,_,_,_,_,_,_,rfl,by omega,hall,⟨by omega,hbb1⟩,m43.ren [(1,1),(2,2),(3,7)] (by decide)⟩
theorem readItems_w (X : Cx) (B : Nat) (b : List Int) (er : Int) (p : Option Addr) (c : Nat) (w0 : World) (hb : b.length ≤ 1000000) (hbb : BytesL b) (m0 : MemOk X w0 [(1,.box B 148 [.slice p (b).length c,.int .i64 er]),(2,.dat (.slice p (b).length c) (.ns .u8 (b)))] w0) :
   Calls Tryz.prog 76 #[.pointer (some ⟨B,0,none⟩)] w0 fun e w' => ∃ (l : List (Int × List Int)) (b' : List Int) (er' : Int) (p' : Option Addr) (c' : Nat) (p3 : Option Addr) (c3 : Nat),e = .returned (.slice p3 (l.map itD).length c3) ∧ l.length ≤ b.length ∧ (∀ e ∈ l,(0 ≤ e.1 ∧ e.1 ≤ 1099511627776) ∧ e.2.length ≤ 32 ∧ BytesL e.2) ∧ RdW b b' ∧ MemOk X w0 [(1,.box B 148 [.slice p' (b').length c',.int .i64 er']),(2,.dat (.slice p' (b').length c') (.ns .u8 (b'))),(3,.dat (.slice p3 (l.map itD).length c3) (.l 2 (l.map itD)))] w' := by
 refine ent1 Tryz.func76 rfl Tryz.ntmps76 fun Y U =>?_
 refine regS U (.assign rfl .nil) fun Y U =>?_
 refine zsr fun K0 hK0 =>?_
 refine goCh U (.move rfl .nil) fun Y U =>?_
 refine plz (ecl U Tryz.func118 rfl (listT_w _ _ b er _ _ _ hb hbb (m0.into [(1,1),(2,2)] (by decide) rfl)) ?_)
 rintro e w4 ⟨l,b9,e9,p4,c4,p34,c34,rfl,hl9,hal,hRW,hm4⟩
 have mx4 := m0.back hm4 [(1,1),(2,2),(20,3)] (by decide); clear hm4 m0
 have m4 := mx4.oz [1,2,20]
 refine ⟨_,rfl,?_⟩; intro Y U
 refine gz hK0 U (.assign rfl .nil) fun Y U =>?_
 refine rt1 U ?_
 exact ⟨_,_,_,_,_,_,_,rfl,hl9,hal,hRW,m4.ren [(1,1),(2,2),(3,20)] (by decide)⟩
end
section
theorem fl38mrn : flatS Tryz.prog 38 [.int .i64 0,.int .i64 0,.int .i64 0,.int .i64 0,.int .i64 0,.slice none 0 0,.int .i64 0,.int .i64 0,.int .i64 0,.slice none 0 0] = true := by kernel_rfl
theorem fl38rCn : flatS Tryz.prog 38 [.int .i64 0,.int .i64 0,.int .i64 0,.int .i64 0,.int .i64 0,.slice none 0 0,.int .i64 0,.int .i64 0,.int .i64 0,.slice none 0 0] = true := by kernel_rfl
theorem fl115rCn : flatS Tryz.prog 115 [.slice none 0 0,.int .i64 0] = true := by kernel_rfl
theorem str_ne {xs ys : List Int} (h1 : BytesL xs) (h2 : BytesL ys) (h : xs ≠ ys) : ¬ (((strOfNums xs).toList != (strOfNums ys).toList) = false) := by
 rw [bne,str_beq h1 h2,decide_eq_false h]; simp
theorem mbeq_n {xs ys : List Int} (h : xs ≠ ys) (p1 p2 : Option Addr) (c1 c2 : Nat) (w0 : World) (h1 : Rd (fun _ => True) w0 (.slice p1 xs.length c1) (.ns .u8 xs)) (h2 : Rd (fun _ => True) w0 (.slice p2 ys.length c2) (.ns .u8 ys)) (hb1 : BytesL xs) (hb2 : BytesL ys) :
   Calls Tryz.prog 64 #[.slice p1 xs.length c1,.slice p2 ys.length c2] w0 fun e w' => e = .returned (.bool false) ∧ Below w0.heap.size w0 w' :=
 (mbeq xs ys p1 p2 c1 c2 w0 h1 h2 hb1 hb2).mono fun e w' h9 => ⟨by rw [h9.1]; exact congrArg (fun b => Ending.returned (.bool b)) (decide_eq_false h),h9.2⟩
set_option maxRecDepth 100000
set_option maxHeartbeats 4000000
theorem readCmd_n (X : Cx) (b : List Int) (hb : b.length ≤ 1000000) (hbb : BytesL b) (hno : ∀ x : Cm,CmdR x → (∀ e ∈ x.its,BytesL e.2) → cmE x ≠ b) (p : Option Addr) (c : Nat) (w0 : World) (m0 : MemOk X w0 [(1,.dat (.slice p b.length c) (.ns .u8 b))] w0) :
   Calls Tryz.prog 28 #[.slice p b.length c] w0 fun e w' => e = .returned (.tuple #[.agg #[.int .i64 0,.int .i64 0,.int .i64 0,.int .i64 0,.int .i64 0,.slice none 0 0,.int .i64 0,.int .i64 0,.int .i64 0,.slice none 0 0],.int .i64 20]) ∧ MemOk X w0 [(1,.dat (.slice p b.length c) (.ns .u8 b))] w' := by
 refine ent1 Tryz.func28 rfl Tryz.ntmps28 fun Y U =>?_
 refine zsr fun K0 hK0 =>?_
 refine plz (e_alloc U m0 40 fct23 rfl fun g1 Y w2 U m2 _ _ =>?_)
 refine gz hK0 U (.assign rfl .nil) fun Y U =>?_
 refine zsr fun K1 hK1 =>?_
 refine goCh U (.move rfl .nil) fun Y U =>?_
 refine plz (ecl U Tryz.func59 rfl (pnew_f _ b _ _ _ hb (m2.into [(1,1)] (by decide) rfl)) ?_)
 rintro e w6 ⟨B,p6,c6,rfl,hm6⟩
 have mx6 := m2.back hm6 [(31,1),(32,2),(1,3)] (by decide); clear hm6 m2
 have m6 := mx6.oz [31,32,1,40]
 refine ⟨_,rfl,?_⟩; intro Y U
 refine gz hK1 U (.assign rfl .nil) fun Y U =>?_
 refine zsr fun K2 hK2 =>?_
 refine goCh U (.move rfl .nil) fun Y U =>?_
 refine plz (ecl U Tryz.func73 rfl (num_w _ _ b 0 _ _ _ hb hbb (m6.into [(1,31),(2,32)] (by decide) rfl)) ?_)
 rintro e w11 ⟨xq11,bq11,eq11,p11,c11,rfl,hxq11,hq11,hm11⟩
 have mx11 := m6.back hm11 [(31,1),(32,2)] (by decide); clear hm11 m6
 have m11 := mx11.oz [31,32,1,40]
 refine ⟨_,rfl,?_⟩; intro Y U
 have hlq11 : bq11.length ≤ 1000000 := Nat.le_trans hq11.1 hb
 refine goCh U (.move rfl .nil) fun Y U =>?_
 refine plz (ecl U Tryz.func73 rfl (num_w _ _ bq11 eq11 _ _ _ hlq11 hq11.2.1 (m11.into [(1,31),(2,32)] (by decide) rfl)) ?_)
 rintro e w14 ⟨xq14,bq14,eq14,p14,c14,rfl,hxq14,hq14,hm14⟩
 have mx14 := m11.back hm14 [(31,1),(32,2)] (by decide); clear hm14 m11
 have m14 := mx14.oz [31,32,1,40]
 refine ⟨_,rfl,?_⟩; intro Y U
 have hlq14 : bq14.length ≤ 1000000 := Nat.le_trans hq14.1 hlq11
 refine goCh U (.move rfl .nil) fun Y U =>?_
 refine plz (ecl U Tryz.func73 rfl (num_w _ _ bq14 eq14 _ _ _ hlq14 hq14.2.1 (m14.into [(1,31),(2,32)] (by decide) rfl)) ?_)
 rintro e w17 ⟨xq17,bq17,eq17,p17,c17,rfl,hxq17,hq17,hm17⟩
 have mx17 := m14.back hm17 [(31,1),(32,2)] (by decide); clear hm17 m14
 have m17 := mx17.oz [31,32,1,40]
 refine ⟨_,rfl,?_⟩; intro Y U
 have hlq17 : bq17.length ≤ 1000000 := Nat.le_trans hq17.1 hlq14
 refine goCh U (.move rfl .nil) fun Y U =>?_
 refine plz (ecl U Tryz.func73 rfl (num_w _ _ bq17 eq17 _ _ _ hlq17 hq17.2.1 (m17.into [(1,31),(2,32)] (by decide) rfl)) ?_)
 rintro e w20 ⟨xq20,bq20,eq20,p20,c20,rfl,hxq20,hq20,hm20⟩
 have mx20 := m17.back hm20 [(31,1),(32,2)] (by decide); clear hm20 m17
 have m20 := mx20.oz [31,32,1,40]
 refine ⟨_,rfl,?_⟩; intro Y U
 have hlq20 : bq20.length ≤ 1000000 := Nat.le_trans hq20.1 hlq17
 refine goCh U (.move rfl .nil) fun Y U =>?_
 refine plz (ecl U Tryz.func73 rfl (num_w _ _ bq20 eq20 _ _ _ hlq20 hq20.2.1 (m20.into [(1,31),(2,32)] (by decide) rfl)) ?_)
 rintro e w23 ⟨xq23,bq23,eq23,p23,c23,rfl,hxq23,hq23,hm23⟩
 have mx23 := m20.back hm23 [(31,1),(32,2)] (by decide); clear hm23 m20
 have m23 := mx23.oz [31,32,1,40]
 refine ⟨_,rfl,?_⟩; intro Y U
 have hlq23 : bq23.length ≤ 1000000 := Nat.le_trans hq23.1 hlq20
 refine goCh U (.move rfl .nil) fun Y U =>?_
 refine plz (ecl U Tryz.func73 rfl (num_w _ _ bq23 eq23 _ _ _ hlq23 hq23.2.1 (m23.into [(1,31),(2,32)] (by decide) rfl)) ?_)
 rintro e w26 ⟨xq26,bq26,eq26,p26,c26,rfl,hxq26,hq26,hm26⟩
 have mx26 := m23.back hm26 [(31,1),(32,2)] (by decide); clear hm26 m23
 have m26 := mx26.oz [31,32,1,40]
 refine ⟨_,rfl,?_⟩; intro Y U
 have hlq26 : bq26.length ≤ 1000000 := Nat.le_trans hq26.1 hlq23
 refine goCh U (.move rfl .nil) fun Y U =>?_
 refine plz (ecl U Tryz.func74 rfl (time_w _ _ bq26 eq26 _ _ _ hlq26 hq26.2.1 (m26.into [(1,31),(2,32)] (by decide) rfl)) ?_)
 rintro e w29 ⟨xq29,bq29,eq29,p29,c29,rfl,hxq29,hq29,hm29⟩
 have mx29 := m26.back hm29 [(31,1),(32,2)] (by decide); clear hm29 m26
 have m29 := mx29.oz [31,32,1,40]
 refine ⟨_,rfl,?_⟩; intro Y U
 have hlq29 : bq29.length ≤ 1000000 := Nat.le_trans hq29.1 hlq26
 refine goCh U (.move rfl .nil) fun Y U =>?_
 refine plz (ecl U Tryz.func73 rfl (num_w _ _ bq29 eq29 _ _ _ hlq29 hq29.2.1 (m29.into [(1,31),(2,32)] (by decide) rfl)) ?_)
 rintro e w32 ⟨xq32,bq32,eq32,p32,c32,rfl,hxq32,hq32,hm32⟩
 have mx32 := m29.back hm32 [(31,1),(32,2)] (by decide); clear hm32 m29
 have m32 := mx32.oz [31,32,1,40]
 refine ⟨_,rfl,?_⟩; intro Y U
 have hlq32 : bq32.length ≤ 1000000 := Nat.le_trans hq32.1 hlq29
 refine goCh U (.build rfl fct23 fl38mrn rfl (by dsimp only [setL,List.set] <;> rfl) .nil) fun Y U =>?_
 refine plz (e_alloc U m32 41 fct23 rfl fun g35 Y w36 U m36 _ _ =>?_)
 refine plz (stw U m36 41 fct18 fun w37 m37 _ =>?_)
 refine znl (hK2 _ _ ?_)
 replace U := U.oz [0,2,3,4,5]
 refine zsr fun K3 hK3 =>?_
 refine goCh U (.move rfl .nil) fun Y U =>?_
 refine plz (ecl U Tryz.func75 rfl (listI_w _ _ bq32 eq32 _ _ _ hlq32 hq32.2.1 (m37.into [(1,31),(2,32)] (by decide) rfl)) ?_)
 rintro e w41 ⟨pl,bq41,eq41,p41,c41,p341,c341,rfl,hpl,hpb,hq41,hm41⟩
 have mx41 := m37.back hm41 [(31,1),(32,2),(42,3)] (by decide); clear hm41 m37
 have m41 := mx41.oz [31,32,42,1,40,41]
 refine ⟨_,rfl,?_⟩; intro Y U
 have hlq41 : bq41.length ≤ 1000000 := Nat.le_trans hq41.1 hlq32
 refine goCh U (.move rfl .nil) fun Y U =>?_
 refine plz (ecl U Tryz.func76 rfl (readItems_w _ _ bq41 eq41 _ _ _ hlq41 hq41.2 (m41.into [(1,31),(2,32)] (by decide) rfl)) ?_)
 rintro e w44 ⟨its,bq44,eq44,p44,c44,p344,c344,rfl,hil,hib,hq44,hm44⟩
 have mx44 := m41.back hm44 [(31,1),(32,2),(43,3)] (by decide); clear hm44 m41
 have m44 := mx44.oz [31,32,43,1,40,41,42]
 refine ⟨_,rfl,?_⟩; intro Y U
 refine goCh U (.fieldAddr (off := 5) rfl U38 rfl (s := 0) (by kernel_rfl) rfl .nil) fun Y U =>?_
 refine plz (st1 U m44 41 fct10 fun w47 m47 _ =>?_)
 refine goCh U (.fieldAddr (off := 9) rfl U38 rfl (s := 0) (by kernel_rfl) rfl .nil) fun Y U =>?_
 refine plz (st1 U m47 41 fct6 fun w49 m49 _ =>?_)
 refine znl (hK3 _ _ ?_)
 refine wsk fun K4 hK4 =>?_
 replace U := U.oz [0,2,3,4,5]
 refine zsr fun K5 hK5 =>?_
 refine goCh U (.move rfl .nil) fun Y U =>?_
 refine plz (ecl U Tryz.func62 rfl (perr_x _ _ _ _ _ _ _ (m49.into [(1,31),(2,32)] (by decide) rfl)) ?_)
 rintro e w53 ⟨rfl,hm53⟩
 have mx53 := m49.back hm53 [(31,1),(32,2)] (by decide); clear hm53 m49
 have m53 := mx53.oz [31,32,1,40,41,42,43]
 refine ⟨_,rfl,?_⟩; intro Y U
 refine gz hK5 U (.neq rfl rfl .nil) fun Y U =>?_
 refine bc U 35 ?_ ?_
 ·
  intro hb56 U; try simp only [QQ,Qax] at hb56
  refine wct U ?_
  refine zsr fun K6 hK6 =>?_
  refine goCh U (.build rfl fct23 fl38mrn rfl (by dsimp only [setL,List.set] <;> rfl) .nil) fun Y U =>?_
  refine plz (stw U m53 40 fct18 fun w59 m59 _ =>?_)
  refine gz hK6 U (.assign rfl .nil) fun Y U =>?_
  refine rtd (retCT (fn := Tryz.f28) U m59 (i := 40) rfl rfl rfl rfl U38 rfl fct18 ?_)
  exact ⟨rfl,m59.only [1]⟩
 intro hb56 U; try simp only [QQ,Qax] at hb56
 refine wcf U ?_
 refine zss (hK4 _ _ ?_)
 refine wsk fun K7 hK7 =>?_
 refine wsk fun K8 hK8 =>?_
 by_cases hR : CmdR (⟨xq11,xq14,xq17,xq20,xq23,pl,xq26,xq29,xq32,its⟩ : Cm)
 ·
  refine wp_region_lit ?_
  refine goCh U (.loadBR m53 (i := 41) rfl rfl U38 rfl fct18 (by simp) (by dsimp only [List.drop,List.take] <;> rfl) .nil) fun Y U =>?_
  refine plz (ecn U Tryz.func25 rfl m53 44 (putCmd_yes (⟨xq11,xq14,xq17,xq20,xq23,pl,xq26,xq29,xq32,its⟩ : Cm) hR _ _ _ _ _ _ ((m53.rd (i := 42) rfl).any) ((m53.rd (i := 43) rfl).any)) fun p62 c62 Y w62 U m63 =>?_)
  refine gz hK8 U (.move rfl<|.extract rfl rfl<|.extract rfl rfl<|.assign rfl<|.assign rfl<|.nil) fun Y U =>?_
  replace U := U.oz [0,2,3,5,38,6,7]
  refine zsr fun K9 hK9 =>?_
  refine goCh U (.move rfl<|.neq rfl rfl<|.move rfl .nil) fun Y U =>?_
  refine bc U 44 ?_ ?_
  · intro hb _; exact absurd hb (by simp)
  clear U; intro _ U
  refine goCh U (.moveZ rfl<|.moveZ rfl .nil) fun Y U =>?_
  have m80 := m63.freezeN 44 rfl
  refine stz U (ecb U Tryz.func64 rfl m80 (mbeq_n (hno _ hR (fun e he => (hib e he).2.2)) _ _ _ _ _ ((m80.rd (i := 44) rfl).any) ((m80.rd (i := 1) rfl).any) (cmE_by hR (fun e he => (hib e he).2.2)) hbb) fun Y w81 U m82 =>?_)
  refine gz hK9 U (.notZ rfl<|.pickF rfl rfl<|.nil) fun Y U =>?_
  refine wct U ?_
  replace U := U.oz [2,3,5,38]
  refine zsr fun K10 hK10 =>?_
  refine goCh U (.build rfl fct23 fl38mrn rfl (by dsimp only [setL,List.set] <;> rfl) .nil) fun Y U =>?_
  refine plz (stw U m82 40 fct18 fun w89 m89 _ =>?_)
  refine gz hK10 U (.assign rfl .nil) fun Y U =>?_
  refine rtd (retCT (fn := Tryz.f28) U m89 (i := 40) rfl rfl rfl rfl U38 rfl fct18 ?_)
  exact ⟨rfl,m89.only [1]⟩
 refine wp_region_lit ?_
 refine goCh U (.loadBR m53 (i := 41) rfl rfl U38 rfl fct18 (by simp) (by dsimp only [List.drop,List.take] <;> rfl) .nil) fun Y U =>?_
 refine plz (ecb U Tryz.func25 rfl m53 (putCmd_no (⟨xq11,xq14,xq17,xq20,xq23,pl,xq26,xq29,xq32,its⟩ : Cm) hR _ _ _ _ _ _ ((m53.rd (i := 42) rfl).any) ((m53.rd (i := 43) rfl).any)) fun Y w92 U m93 =>?_)
 refine gz hK8 U (.move rfl<|.extract rfl rfl<|.extract rfl rfl<|.assign rfl<|.assign rfl<|.nil) fun Y U =>?_
 replace U := U.oz [0,2,3,5,38,6,7]
 refine zsr fun K11 hK11 =>?_
 refine goCh U (.move rfl<|.neq rfl rfl<|.move rfl .nil) fun Y U =>?_
 refine bc U 44 ?_ ?_
 rotate_left
 · intro hb _; exact absurd hb (by simp)
 clear U; intro _ U
 refine gz hK11 U (.sk<|.sk<|.sk<|.sk<|.pickT rfl rfl<|.nil) fun Y U =>?_
 refine wct U ?_
 replace U := U.oz [2,3,5,38]
 refine zsr fun K12 hK12 =>?_
 refine goCh U (.build rfl fct23 fl38mrn rfl (by dsimp only [setL,List.set] <;> rfl) .nil) fun Y U =>?_
 refine plz (stw U m93 40 fct18 fun w116 m116 _ =>?_)
 refine gz hK12 U (.assign rfl .nil) fun Y U =>?_
 refine rtd (retCT (fn := Tryz.f28) U m116 (i := 40) rfl rfl rfl rfl U38 rfl fct18 ?_)
 exact ⟨rfl,m116.only [1]⟩
theorem rreadCmd_n (X : Cx) (b : List Int) (p : Option Addr) (c : Nat) (w0 : World) (hb : b.length ≤ 1000000) (hbb : BytesL b) (hno : ∀ x : Cm,CmdR x → (∀ e ∈ x.its,BytesL e.2) → cmE x ≠ b) (m0 : MemOk X w0 [(1,.dat (.slice p b.length c) (.ns .u8 b))] w0) :
   Calls Tryz.prog 29 #[.slice p b.length c] w0 fun e w' => e = .returned (.tuple #[.agg #[.int .i64 0,.int .i64 0,.int .i64 0,.int .i64 0,.int .i64 0,.slice none 0 0,.int .i64 0,.int .i64 0,.int .i64 0,.slice none 0 0],.int .i64 20]) ∧ MemOk X w0 [(1,.dat (.slice p b.length c) (.ns .u8 b))] w' := by
 refine ent1 Tryz.func29 rfl Tryz.ntmps29 fun Y U =>?_
 refine zsr fun K0 hK0 =>?_
 refine plz (e_alloc U m0 40 fct23 rfl fun g1 Y w2 U m2 _ _ =>?_)
 refine gz hK0 U (.assign rfl .nil) fun Y U =>?_
 refine zsr fun K1 hK1 =>?_
 refine goCh U (.move rfl<|.build rfl fct24 fl115rCn rfl (by dsimp only [setL,List.set] <;> rfl) .nil) fun Y U =>?_
 refine plz (e_box U m2 41 (cs := [_,_]) rfl rfl rfl fun g8 Y w9 U m9 _ _ =>?_)
 refine gz hK1 U (.assign rfl .nil) fun Y U =>?_
 refine zsr fun K2 hK2 =>?_
 refine plz (e_alloc U m9 42 fct23 rfl fun g11 Y w12 U m12 _ _ =>?_)
 refine znl (hK2 _ _ ?_)
 refine zsr fun K3 hK3 =>?_
 refine goCh U (.move rfl .nil) fun Y U =>?_
 have m15 := m12.dat 43 rfl (m12.rd (i := 1) rfl)
 refine plz (ecl U Tryz.func65 rfl (rnum _ _ b _ 8 _ _ _ (by omega) hbb (by decide) (m15.into [(1,41),(2,43)] (by decide) rfl)) ?_)
 rintro e w16 ⟨kd,b1,p16,c16,er16,rfl,hukd,hlb1,hbb1,hm16⟩
 have mx16 := m15.back hm16 [(41,1),(44,2)] (by decide); clear hm16 m15
 have m16 := mx16.oz [41,44,1,40,42]
 refine ⟨_,rfl,?_⟩; intro Y U
 refine goCh U (.conv rfl U108 U3 (IntWalk.i64_in _ (by omega))<|.fa 0 rfl U38 .nil) fun Y U =>?_
 refine plz (st1 U m16 42 fct17 fun w20 m20 _ =>?_)
 refine znl (hK3 _ _ ?_)
 replace U := U.oz [0,2,3,4,5]
 refine zsr fun K4 hK4 =>?_
 refine goCh U (.move rfl .nil) fun Y U =>?_
 refine plz (ecl U Tryz.func65 rfl (rnum _ _ b1 _ 8 _ _ _ (by omega) hbb1 (by decide) (m20.into [(1,41),(2,44)] (by decide) rfl)) ?_)
 rintro e w24 ⟨vo,b2,p24,c24,er24,rfl,huvo,hlb2,hbb2,hm24⟩
 have mx24 := m20.back hm24 [(41,1),(45,2)] (by decide); clear hm24 m20
 have m24 := mx24.oz [41,45,1,40,42]
 refine ⟨_,rfl,?_⟩; intro Y U
 refine goCh U (.conv rfl U108 U3 (IntWalk.i64_in _ (by omega))<|.fa 1 rfl U38 .nil) fun Y U =>?_
 refine plz (st1 U m24 42 fct17 fun w28 m28 _ =>?_)
 refine znl (hK4 _ _ ?_)
 refine zsr fun K5 hK5 =>?_
 refine goCh U (.move rfl .nil) fun Y U =>?_
 refine plz (ecl U Tryz.func65 rfl (rnum _ _ b2 _ 1099511627776 _ _ _ (by omega) hbb2 (by decide) (m28.into [(1,41),(2,45)] (by decide) rfl)) ?_)
 rintro e w31 ⟨bl,b3,p31,c31,er31,rfl,hubl,hlb3,hbb3,hm31⟩
 have mx31 := m28.back hm31 [(41,1),(46,2)] (by decide); clear hm31 m28
 have m31 := mx31.oz [41,46,1,40,42]
 refine ⟨_,rfl,?_⟩; intro Y U
 refine goCh U (.conv rfl U108 U3 (IntWalk.i64_in _ (by omega))<|.fa 2 rfl U38 .nil) fun Y U =>?_
 refine plz (st1 U m31 42 fct17 fun w35 m35 _ =>?_)
 refine znl (hK5 _ _ ?_)
 replace U := U.oz [0,2,3,4,5]
 refine zsr fun K6 hK6 =>?_
 refine goCh U (.move rfl .nil) fun Y U =>?_
 refine plz (ecl U Tryz.func65 rfl (rnum _ _ b3 _ 1099511627776 _ _ _ (by omega) hbb3 (by decide) (m35.into [(1,41),(2,46)] (by decide) rfl)) ?_)
 rintro e w39 ⟨sz,b4,p39,c39,er39,rfl,husz,hlb4,hbb4,hm39⟩
 have mx39 := m35.back hm39 [(41,1),(47,2)] (by decide); clear hm39 m35
 have m39 := mx39.oz [41,47,1,40,42]
 refine ⟨_,rfl,?_⟩; intro Y U
 refine goCh U (.conv rfl U108 U3 (IntWalk.i64_in _ (by omega))<|.fa 3 rfl U38 .nil) fun Y U =>?_
 refine plz (st1 U m39 42 fct17 fun w43 m43 _ =>?_)
 refine znl (hK6 _ _ ?_)
 refine zsr fun K7 hK7 =>?_
 refine goCh U (.move rfl .nil) fun Y U =>?_
 refine plz (ecl U Tryz.func65 rfl (rnum _ _ b4 _ 1099511627776 _ _ _ (by omega) hbb4 (by decide) (m43.into [(1,41),(2,47)] (by decide) rfl)) ?_)
 rintro e w46 ⟨pe,b5,p46,c46,er46,rfl,hupe,hlb5,hbb5,hm46⟩
 have mx46 := m43.back hm46 [(41,1),(48,2)] (by decide); clear hm46 m43
 have m46 := mx46.oz [41,48,1,40,42]
 refine ⟨_,rfl,?_⟩; intro Y U
 refine goCh U (.conv rfl U108 U3 (IntWalk.i64_in _ (by omega))<|.fa 4 rfl U38 .nil) fun Y U =>?_
 refine plz (st1 U m46 42 fct17 fun w50 m50 _ =>?_)
 refine znl (hK7 _ _ ?_)
 replace U := U.oz [0,2,3,4,5]
 refine zsr fun K8 hK8 =>?_
 refine goCh U (.move rfl .nil) fun Y U =>?_
 refine plz (ecl U Tryz.func65 rfl (rnum _ _ b5 _ 1099511627776 _ _ _ (by omega) hbb5 (by decide) (m50.into [(1,41),(2,48)] (by decide) rfl)) ?_)
 rintro e w54 ⟨to,b6,p54,c54,er54,rfl,huto,hlb6,hbb6,hm54⟩
 have mx54 := m50.back hm54 [(41,1),(49,2)] (by decide); clear hm54 m50
 have m54 := mx54.oz [41,49,1,40,42]
 refine ⟨_,rfl,?_⟩; intro Y U
 refine goCh U (.conv rfl U108 U3 (IntWalk.i64_in _ (by omega))<|.fa 6 rfl U38 .nil) fun Y U =>?_
 refine plz (st1 U m54 42 fct17 fun w58 m58 _ =>?_)
 refine znl (hK8 _ _ ?_)
 refine zsr fun K9 hK9 =>?_
 refine goCh U (.move rfl .nil) fun Y U =>?_
 refine plz (ecl U Tryz.func65 rfl (rnum _ _ b6 _ 1099511627776 _ _ _ (by omega) hbb6 (by decide) (m58.into [(1,41),(2,49)] (by decide) rfl)) ?_)
 rintro e w61 ⟨at0,b7,p61,c61,er61,rfl,huat0,hlb7,hbb7,hm61⟩
 have mx61 := m58.back hm61 [(41,1),(50,2)] (by decide); clear hm61 m58
 have m61 := mx61.oz [41,50,1,40,42]
 refine ⟨_,rfl,?_⟩; intro Y U
 refine goCh U (.conv rfl U108 U2 (IntWalk.i64_in _ (by omega))<|.fa 7 rfl U38 .nil) fun Y U =>?_
 refine plz (st1 U m61 42 fct22 fun w65 m65 _ =>?_)
 refine znl (hK9 _ _ ?_)
 replace U := U.oz [0,2,3,4,5,38]
 refine zsr fun K10 hK10 =>?_
 refine goCh U (.move rfl .nil) fun Y U =>?_
 refine plz (ecl U Tryz.func65 rfl (rnum _ _ b7 _ 1099511627776 _ _ _ (by omega) hbb7 (by decide) (m65.into [(1,41),(2,50)] (by decide) rfl)) ?_)
 rintro e w69 ⟨ix,b8,p69,c69,er69,rfl,huix,hlb8,hbb8,hm69⟩
 have mx69 := m65.back hm69 [(41,1),(51,2)] (by decide); clear hm69 m65
 have m69 := mx69.oz [41,51,1,40,42]
 refine ⟨_,rfl,?_⟩; intro Y U
 refine goCh U (.conv rfl U108 U3 (IntWalk.i64_in _ (by omega))<|.fa 8 rfl U38 .nil) fun Y U =>?_
 refine plz (st1 U m69 42 fct17 fun w73 m73 _ =>?_)
 refine znl (hK10 _ _ ?_)
 refine zsr fun K11 hK11 =>?_
 refine goCh U (.move rfl .nil) fun Y U =>?_
 refine plz (ecl U Tryz.func77 rfl (rtakePlace _ _ b8 _ _ _ _ (by omega) hbb8 (m73.into [(1,41),(2,51)] (by decide) rfl)) ?_)
 rintro e w76 ⟨place,b9,p76,c76,er76,p376,c376,rfl,hpl,hlb9,hbb9,hm76⟩
 have mx76 := m73.back hm76 [(41,1),(52,2),(53,3)] (by decide); clear hm76 m73
 have m76 := mx76.oz [41,52,53,1,40,42]
 refine ⟨_,rfl,?_⟩; intro Y U
 refine goCh U (.fieldAddr (off := 5) rfl U38 rfl (s := 0) (by kernel_rfl) rfl .nil) fun Y U =>?_
 refine plz (st1 U m76 42 fct10 fun w79 m79 _ =>?_)
 refine znl (hK11 _ _ ?_)
 replace U := U.oz [0,2,3,4,5,38]
 refine zsr fun K12 hK12 =>?_
 refine goCh U (.move rfl .nil) fun Y U =>?_
 refine plz (ecl U Tryz.func78 rfl (rtakeItems _ _ b9 _ _ _ _ (by omega) hbb9 (m79.into [(1,41),(2,52)] (by decide) rfl)) ?_)
 rintro e w83 ⟨items,b10,p83,c83,er83,p383,c383,rfl,hil,hii,hlb10,hbb10,hm83⟩
 have mx83 := m79.back hm83 [(41,1),(54,2),(55,3)] (by decide); clear hm83 m79
 have m83 := mx83.oz [41,54,55,1,40,42,53]
 refine ⟨_,rfl,?_⟩; intro Y U
 refine goCh U (.fieldAddr (off := 9) rfl U38 rfl (s := 0) (by kernel_rfl) rfl .nil) fun Y U =>?_
 refine plz (st1 U m83 42 fct6 fun w86 m86 _ =>?_)
 refine znl (hK12 _ _ ?_)
 refine wsk fun K13 hK13 =>?_
 by_cases hR : CmdR (⟨kd,vo,bl,sz,pe,place,to,at0,ix,items⟩ : Cm)
 ·
  refine wp_region_lit ?_
  refine goCh U (.loadBR m86 (i := 42) rfl rfl U38 rfl fct18 (by simp) (by dsimp only [List.drop,List.take] <;> rfl) .nil) fun Y U =>?_
  refine plz (ecl U Tryz.func12 rfl (rputCmd_x kd vo bl sz pe to at0 ix place items _ _ _ _ _ _ ((m86.rd (i := 53) rfl).any) ((m86.rd (i := 55) rfl).any) (hR.ok (fun e he => (hii e he).2))) ?_)
  rintro e w88 ⟨p88,c88,rfl,hd88,hb88⟩
  have m89 := m86.callF 56 rfl hb88 hd88
  refine ⟨_,rfl,?_⟩; intro Y U
  refine gz hK13 U (.move rfl<|.extract rfl rfl<|.extract rfl rfl<|.assign rfl<|.assign rfl<|.nil) fun Y U =>?_
  refine wsk fun K14 hK14 =>?_
  replace U := U.oz [0,2,3,4,5,38,6,7]
  refine zsr fun K15 hK15 =>?_
  refine goCh U (.move rfl<|.nilCheck rfl<|.fa 1 rfl U115<|.lb m89 41 U3 rfl rfl rfl<|.neq rfl rfl<|.move rfl .nil) fun Y U =>?_
  refine bc U 59 ?_ ?_
  ·
   intro hb109 U; try simp only [QQ,Qax] at hb109
   refine gz hK15 U (.sk<|.sk<|.pickT rfl rfl<|.move rfl<|.sk<|.sk<|.sk<|.sk<|.sk<|.pickT rfl rfl<|.nil) fun Y U =>?_
   refine wct U ?_
   replace U := U.oz [2,3,5,38]
   refine zsr fun K16 hK16 =>?_
   refine goCh U (.build rfl fct23 fl38rCn rfl (by dsimp only [setL,List.set] <;> rfl) .nil) fun Y U =>?_
   refine plz (stw U m89 40 fct18 fun w123 m123 _ =>?_)
   refine gz hK16 U (.assign rfl .nil) fun Y U =>?_
   refine rtd (retCT (fn := Tryz.f29) U m123 (i := 40) rfl rfl rfl rfl U38 rfl fct18 ?_)
   exact ⟨rfl,m123.only [1]⟩
  intro hb109 U; try simp only [QQ,Qax] at hb109
  refine goCh U (.moveZ rfl<|.neqZ rfl rfl<|.pickF rfl rfl<|.move rfl .nil) fun Y U =>?_
  refine bc U 63 ?_ ?_
  · intro hb _; exact absurd hb (by simp)
  clear U; intro _ U
  refine gz hK15 U (.moveZ rfl<|.strZ rfl (m89.nums (i := 56) rfl) U22 U5 U9<|.moveZ rfl<|.strZ rfl (m89.nums (i := 1) rfl) U22 U5 U9<|.neqSZ rfl rfl<|.pickF rfl rfl<|.nil) fun Y U =>?_
  refine bc U 69 ?_ ?_
  rotate_left
  · intro hb _; exact absurd hb (fun h9 => absurd h9 (str_ne (cmE_by hR (fun e he => (hii e he).2)) hbb (hno _ hR (fun e he => (hii e he).2))))
  clear U; intro _ U
  refine wct U ?_
  replace U := U.oz [2,3,5,38]
  refine zsr fun K17 hK17 =>?_
  refine goCh U (.build rfl fct23 fl38rCn rfl (by dsimp only [setL,List.set] <;> rfl) .nil) fun Y U =>?_
  refine plz (stw U m89 40 fct18 fun w140 m140 _ =>?_)
  refine gz hK17 U (.assign rfl .nil) fun Y U =>?_
  refine rtd (retCT (fn := Tryz.f29) U m140 (i := 40) rfl rfl rfl rfl U38 rfl fct18 ?_)
  exact ⟨rfl,m140.only [1]⟩
 refine wp_region_lit ?_
 refine goCh U (.loadBR m86 (i := 42) rfl rfl U38 rfl fct18 (by simp) (by dsimp only [List.drop,List.take] <;> rfl) .nil) fun Y U =>?_
 refine plz (ecb U Tryz.func12 rfl m86 (rputCmd_no kd vo bl sz pe to at0 ix place items _ _ _ _ _ _ ((m86.rd (i := 53) rfl).any) ((m86.rd (i := 55) rfl).any) (by omega) (by omega) hR) fun Y w143 U m144 =>?_)
 refine gz hK13 U (.move rfl<|.extract rfl rfl<|.extract rfl rfl<|.assign rfl<|.assign rfl<|.nil) fun Y U =>?_
 refine wsk fun K18 hK18 =>?_
 replace U := U.oz [0,2,3,4,5,38,6,7]
 refine zsr fun K19 hK19 =>?_
 refine goCh U (.move rfl<|.nilCheck rfl<|.fa 1 rfl U115<|.lb m144 41 U3 rfl rfl rfl<|.neq rfl rfl<|.move rfl .nil) fun Y U =>?_
 refine bc U 59 ?_ ?_
 ·
  intro hb164 U; try simp only [QQ,Qax] at hb164
  refine gz hK19 U (.sk<|.sk<|.pickT rfl rfl<|.move rfl<|.sk<|.sk<|.sk<|.sk<|.sk<|.pickT rfl rfl<|.nil) fun Y U =>?_
  refine wct U ?_
  replace U := U.oz [2,3,5,38]
  refine zsr fun K20 hK20 =>?_
  refine goCh U (.build rfl fct23 fl38rCn rfl (by dsimp only [setL,List.set] <;> rfl) .nil) fun Y U =>?_
  refine plz (stw U m144 40 fct18 fun w178 m178 _ =>?_)
  refine gz hK20 U (.assign rfl .nil) fun Y U =>?_
  refine rtd (retCT (fn := Tryz.f29) U m178 (i := 40) rfl rfl rfl rfl U38 rfl fct18 ?_)
  exact ⟨rfl,m178.only [1]⟩
 intro hb164 U; try simp only [QQ,Qax] at hb164
 refine goCh U (.moveZ rfl<|.neqZ rfl rfl<|.pickF rfl rfl<|.move rfl .nil) fun Y U =>?_
 refine bc U 63 ?_ ?_
 rotate_left
 · intro hb _; exact absurd hb (by simp)
 clear U; intro _ U
 refine gz hK19 U (.sk<|.sk<|.sk<|.sk<|.sk<|.pickT rfl rfl<|.nil) fun Y U =>?_
 refine wct U ?_
 replace U := U.oz [2,3,5,38]
 refine zsr fun K21 hK21 =>?_
 refine goCh U (.build rfl fct23 fl38rCn rfl (by dsimp only [setL,List.set] <;> rfl) .nil) fun Y U =>?_
 refine plz (stw U m144 40 fct18 fun w194 m194 _ =>?_)
 refine gz hK21 U (.assign rfl .nil) fun Y U =>?_
 refine rtd (retCT (fn := Tryz.f29) U m194 (i := 40) rfl rfl rfl rfl U38 rfl fct18 ?_)
 exact ⟨rfl,m194.only [1]⟩
end
section
theorem fl44man : flatS Tryz.prog 44 [.int .i64 0,.int .i64 0,.int .i64 0,.int .i64 0,.slice none 0 0] = true := by kernel_rfl
theorem vp_cp {x : VolV} (h : VP x) : x.place.length ≤ 1000000 ∧ x.pins.length ≤ 1000000 ∧ x.ws.length ≤ 1000000 ∧ WrsOk x.ws :=
 ⟨by have := h.pl.1; omega,by have := h.pn.1; omega,by have := h.ws; omega,fun e he => ⟨by have := (h.it e he).1; omega,fun z hz => by have := ((h.it e he).2 z hz).2; omega⟩⟩
theorem cmE_ne (x : Cm) : cmE x ≠ [] := fun h => by
 have h1 := congrArg List.length (cmE_rem x)
 rw [h,remE,List.length_append] at h1
 have := (enc_len x.kd).2
 simp only [List.length_nil] at h1; omega
set_option maxRecDepth 100000
set_option maxHeartbeats 4000000
theorem s6_t (xs : List Int) (p1 p2 : Option Addr) (c1 c2 : Nat) (w0 : World) (hl : xs.length ≤ 1000000) (h1 : Rd (fun _ => True) w0 (.slice p1 xs.length c1) (.ns .i64 xs)) (h2 : Rd (fun _ => True) w0 (.slice p2 xs.length c2) (.ns .i64 xs)) :
   Calls Tryz.prog 121 #[.slice p1 xs.length c1,.slice p2 xs.length c2] w0 fun e w' => e = .returned (.bool true) ∧ Below w0.heap.size w0 w' := by
 refine ent2 Tryz.func121 rfl Tryz.ntmps121 fun Y U =>?_
 have m0 := MemOk.start (fun _ => False) w0
 refine regS U (.assign rfl .nil) fun Y U =>?_
 refine wsk fun K0 hK0 =>?_
 refine regS U (.move rfl<|.len rfl U35<|.move rfl<|.len rfl U35<|.neq rfl rfl .nil) fun Y U =>?_
 refine bc U 10 ?_ ?_
 · intro hb _; exact absurd hb (by simp)
 clear U; intro _ U
 refine wcf U ?_
 refine zss (hK0 _ _ ?_)
 refine wsk fun K1 hK1 =>?_
 refine regS U (.assign rfl .nil) fun Y U =>?_
 refine wp_block ?_
 refine wp_loop_ghost (fun g a w => ∃ k : Nat,k ≤ xs.length ∧ g = xs.length - k ∧ Has 26 [(0,.slice p1 xs.length c1),(1,.slice p2 xs.length c2),(5,.int .i64 k)] a ∧ MemOk (cn w0) w0 [] w) (xs.length) ?_ ?_
 · exact ⟨0,Nat.zero_le _,rfl,U.only [0,1,5],m0.only []⟩
 clear U m0
 rintro g Y w9 ⟨k,hkl,hg,U,m9⟩
 refine wsk fun K2 hK2 =>?_
 refine regS U (.move rfl<|.move rfl<|.len rfl U35<|.lss rfl rfl .nil) fun Y U =>?_
 refine bc U 14 ?_ ?_
 ·
  intro hb14 U; try simp only [QQ,Qax] at hb14
  have hk : k < xs.length := by omega
  refine wct U ?_
  refine zss (hK2 _ _ ?_)
  refine wsk fun K3 hK3 =>?_
  refine wp_block ?_
  refine wsk fun K4 hK4 =>?_
  obtain ⟨gx16,ox16,hp16,hl16,hrg16⟩ := h1.extN (k) hk
  revert U
  cases hp16
  intro U
  obtain ⟨gx18,ox18,hp18,hl18,hrg18⟩ := h2.extN (k) hk
  revert U
  cases hp18
  intro U
  have m19 : MemOk _ _ [] _ := m9.only []; clear m9
  refine region_p 9 (B := []) (m19.to trivial) m19 (by kernel_rfl) (fun w20 hP20 m20 =>?_); clear m19
  refine goR hP20 [0,1,2,3,4,5,6,7,8] [3,7] 9 0 511 U (m20.to trivial) (.move rfl<|.move rfl<|.p (fun _ _ h_ => y_idx h_ rfl rfl U35 fct17 (k) rfl hk)<|.loadAt1 (fun _ h_ => (hrg16 h_ rfl)) (q := 0) rfl rfl rfl U3 rfl<|.move rfl<|.move rfl<|.p (fun _ _ h_ => y_idx h_ rfl rfl U35 fct17 (k) rfl hk)<|.loadAt1 (fun _ h_ => (hrg18 h_ rfl)) (q := 0) rfl rfl rfl U3 rfl<|.neq rfl rfl .nil) fun Y U =>?_
  refine wpAnyE_done (by kernel_rfl) ?_ _
  refine hK4 _ _ ?_
  refine bc U 25 ?_ ?_
  · intro hb _; exact absurd hb (by simp)
  clear U; intro _ U
  refine wcf U ?_
  refine zss (hK3 _ _ ?_)
  replace U := U.oz [0,1,5]
  refine wp_region_lit ?_
  refine goCh U (.move rfl<|.inc (k + 1)<|.assign rfl .nil) fun Y U =>?_
  refine wpList_nil ?_
  show ∃ n',n' < _ ∧ _
  exact ⟨xs.length - (k + 1),by omega,k + 1,by omega,rfl,U.only [0,1,5],m20.only []⟩
 intro hb14 U; try simp only [QQ,Qax] at hb14
 revert U
 obtain rfl : k = xs.length := by omega
 intro U
 refine wcf U ?_
 refine wp_exit ?_
 refine hK1 _ _ ?_
 refine regS U (.assign rfl .nil) fun Y U =>?_
 refine rt1 U ?_
 exact ⟨by simp,m9.below⟩
theorem hints_t (xs : List Int) (p1 p2 : Option Addr) (c1 c2 : Nat) (w0 : World) (hl : xs.length ≤ 1000000) (h1 : Rd (fun _ => True) w0 (.slice p1 xs.length c1) (.ns .i64 xs)) (h2 : Rd (fun _ => True) w0 (.slice p2 xs.length c2) (.ns .i64 xs)) :
   Calls Tryz.prog 79 #[.slice p1 xs.length c1,.slice p2 xs.length c2] w0 fun e w' => e = .returned (.bool true) ∧ Below w0.heap.size w0 w' := by
 refine ent2 Tryz.func79 rfl Tryz.ntmps79 fun Y U =>?_
 have m0 := MemOk.start (fun _ => False) w0
 refine regS U (.assign rfl .nil) fun Y U =>?_
 refine zsr fun K0 hK0 =>?_
 refine goCh U (.move rfl<|.move rfl .nil) fun Y U =>?_
 refine plz (ecb U Tryz.func121 rfl m0 (s6_t xs _ _ _ _ _ hl ((h1.now' m0 rfl).any) ((h2.now' m0 rfl).any)) fun Y w6 U m7 =>?_)
 refine gz hK0 U (.assign rfl .nil) fun Y U =>?_
 refine rt1 U ?_
 exact ⟨rfl,m7.below⟩
theorem cmd_t (x : Cm) (hpl : x.pl.length ≤ 1000000) (hil : x.its.length ≤ 1000000) (p1 q1 p2 q2 : Option Addr) (c1 n1 d1 c2 n2 d2 : Nat) (w0 : World) (h1 : Rd (fun _ => True) w0 (.slice p1 x.pl.length c1) (.ns .i64 x.pl)) (h2 : Rd (fun _ => True) w0 (.slice q1 n1 d1) (.l 2 (x.its.map itD))) (h3 : Rd (fun _ => True) w0 (.slice p2 x.pl.length c2) (.ns .i64 x.pl)) (h4 : Rd (fun _ => True) w0 (.slice q2 n2 d2) (.l 2 (x.its.map itD))) :
   Calls Tryz.prog 30 #[.agg #[.int .i64 x.kd,.int .i64 x.vo,.int .i64 x.bl,.int .i64 x.sz,.int .i64 x.pe,.slice p1 x.pl.length c1,.int .i64 x.to,.int .i64 x.at0,.int .i64 x.ix,.slice q1 n1 d1],.agg #[.int .i64 x.kd,.int .i64 x.vo,.int .i64 x.bl,.int .i64 x.sz,.int .i64 x.pe,.slice p2 x.pl.length c2,.int .i64 x.to,.int .i64 x.at0,.int .i64 x.ix,.slice q2 n2 d2]] w0 fun e w' => e = .returned (.bool true) ∧ Below w0.heap.size w0 w' := by
 refine ent2 Tryz.func30 rfl Tryz.ntmps30 fun Y U =>?_
 have m0 := MemOk.start (fun _ => False) w0
 refine zsr fun K0 hK0 =>?_
 refine plz (e_box U m0 10 (cs := [_,_,_,_,_,_,_,_,_,_]) rfl rfl rfl fun g1 Y w2 U m2 _ _ =>?_)
 refine plz (e_box U m2 11 (cs := [_,_,_,_,_,_,_,_,_,_]) rfl rfl rfl fun g3 Y w4 U m4 _ _ =>?_)
 refine gz hK0 U (.assign rfl .nil) fun Y U =>?_
 refine zsr fun K1 hK1 =>?_
 refine goCh U (.fa 0 rfl U38<|.lb m4 10 U3 rfl rfl rfl<|.fa 0 rfl U38<|.lb m4 11 U3 rfl rfl rfl<|.eql rfl rfl<|.move rfl .nil) fun Y U =>?_
 refine bc U 10 ?_ ?_
 rotate_left
 · intro hb _; exact absurd hb (by simp)
 clear U; intro _ U
 refine goCh U (.faZ 1 rfl U38<|.loadB1Z m4 (i := 10) rfl rfl rfl U3 rfl<|.faZ 1 rfl U38<|.loadB1Z m4 (i := 11) rfl rfl rfl U3 rfl<|.eqlZ rfl rfl<|.pickT rfl rfl<|.move rfl .nil) fun Y U =>?_
 refine bc U 17 ?_ ?_
 rotate_left
 · intro hb _; exact absurd hb (by simp)
 clear U; intro _ U
 refine goCh U (.faZ 2 rfl U38<|.loadB1Z m4 (i := 10) rfl rfl rfl U3 rfl<|.faZ 2 rfl U38<|.loadB1Z m4 (i := 11) rfl rfl rfl U3 rfl<|.eqlZ rfl rfl<|.pickT rfl rfl<|.move rfl .nil) fun Y U =>?_
 refine bc U 24 ?_ ?_
 rotate_left
 · intro hb _; exact absurd hb (by simp)
 clear U; intro _ U
 refine goCh U (.faZ 3 rfl U38<|.loadB1Z m4 (i := 10) rfl rfl rfl U3 rfl<|.faZ 3 rfl U38<|.loadB1Z m4 (i := 11) rfl rfl rfl U3 rfl<|.eqlZ rfl rfl<|.pickT rfl rfl<|.move rfl .nil) fun Y U =>?_
 refine bc U 31 ?_ ?_
 rotate_left
 · intro hb _; exact absurd hb (by simp)
 clear U; intro _ U
 refine goCh U (.faZ 4 rfl U38<|.loadB1Z m4 (i := 10) rfl rfl rfl U3 rfl<|.faZ 4 rfl U38<|.loadB1Z m4 (i := 11) rfl rfl rfl U3 rfl<|.eqlZ rfl rfl<|.pickT rfl rfl<|.move rfl .nil) fun Y U =>?_
 refine bc U 38 ?_ ?_
 rotate_left
 · intro hb _; exact absurd hb (by simp)
 clear U; intro _ U
 refine goCh U (.faZ 5 rfl U38<|.loadB1Z m4 (i := 10) rfl rfl rfl U35 rfl<|.faZ 5 rfl U38<|.loadB1Z m4 (i := 11) rfl rfl rfl U35 rfl .nil) fun Y U =>?_
 refine stz U (ecb U Tryz.func79 rfl m4 (hints_t x.pl _ _ _ _ _ hpl ((h1.now' m4 rfl).any) ((h3.now' m4 rfl).any)) fun Y w55 U m56 =>?_)
 refine goCh U (.pickT rfl rfl<|.move rfl<|.faZ 6 rfl U38<|.loadB1Z m56 (i := 10) rfl rfl rfl U3 rfl<|.faZ 6 rfl U38<|.loadB1Z m56 (i := 11) rfl rfl rfl U3 rfl<|.eqlZ rfl rfl<|.pickT rfl rfl<|.move rfl .nil) fun Y U =>?_
 refine bc U 52 ?_ ?_
 rotate_left
 · intro hb _; exact absurd hb (by simp)
 clear U; intro _ U
 refine goCh U (.faZ 7 rfl U38<|.loadB1Z m56 (i := 10) rfl rfl rfl U2 rfl<|.faZ 7 rfl U38<|.loadB1Z m56 (i := 11) rfl rfl rfl U2 rfl<|.eqlZ rfl rfl<|.pickT rfl rfl<|.move rfl .nil) fun Y U =>?_
 refine bc U 59 ?_ ?_
 rotate_left
 · intro hb _; exact absurd hb (by simp)
 clear U; intro _ U
 refine goCh U (.faZ 8 rfl U38<|.loadB1Z m56 (i := 10) rfl rfl rfl U3 rfl<|.faZ 8 rfl U38<|.loadB1Z m56 (i := 11) rfl rfl rfl U3 rfl<|.eqlZ rfl rfl<|.pickT rfl rfl<|.move rfl .nil) fun Y U =>?_
 refine bc U 66 ?_ ?_
 rotate_left
 · intro hb _; exact absurd hb (by simp)
 clear U; intro _ U
 refine goCh U (.faZ 9 rfl U38<|.loadB1Z m56 (i := 10) rfl rfl rfl U36 rfl<|.faZ 9 rfl U38<|.loadB1Z m56 (i := 11) rfl rfl rfl U36 rfl .nil) fun Y U =>?_
 refine stz U (ecb U Tryz.func80 rfl m56 (sitems_any x.its _ _ _ _ _ _ _ ((h2.now' m56 rfl).any) ((h4.now' m56 rfl).any) hil) fun Y w88 U m89 =>?_)
 refine gz hK1 U (.pickT rfl rfl<|.assign rfl<|.nil) fun Y U =>?_
 refine rt1 U ?_
 exact ⟨rfl,m89.below⟩
theorem mvol_x (X : Cx) (B G : Nat) (L : List VolV) (id : Int) (w0 : World) (hV : ∀ y ∈ L,VP y) (m0 : MemOk X w0 [(1,.box B 87 [.map (some G)]),(2,.mp G 11 ((L).map keyV) ((L).map volD))] w0) :
   Calls Tryz.prog 18 #[.pointer (some ⟨B,0,none⟩),.int .i64 id] w0 fun e w' => ∃ (x : VolV) (there : Bool) (p1 p2 p3 : Option Addr) (d1 d2 d3 : Nat),e = .returned (.tuple #[.agg #[.int .i64 x.vo,.int .i64 x.bl,.int .i64 x.sz,.int .i64 x.pe,.slice p1 x.place.length d1,.int .i64 x.to,.int .i64 x.ne,.bool x.hi,.int .i64 x.fl,.slice p2 x.pins.length d2,.slice p3 (x.ws.map wrD).length d3],.bool there]) ∧ (there = true → x ∈ L ∧ x.vo = id) ∧ (there = false → x = volZ ∧ ¬ ∃ y ∈ L,y.vo = id) ∧ MemOk X w0 [(1,.box B 87 [.map (some G)]),(2,.mp G 11 ((L).map keyV) ((L).map volD)),(3,.dat (.slice p1 x.place.length d1) (.ns .i64 x.place)),(4,.dat (.slice p2 x.pins.length d2) (.ns .i64 x.pins)),(5,.dat (.slice p3 (x.ws.map wrD).length d3) (.l 2 (x.ws.map wrD)))] w' := by
 refine ent2 Tryz.func18 rfl Tryz.ntmps18 fun Y U =>?_
 refine zsr fun K0 hK0 =>?_
 refine plz (e_alloc U m0 20 fct14 rfl fun g1 Y w2 U m2 _ _ =>?_)
 refine gz hK0 U (.assign rfl .nil) fun Y U =>?_
 refine wsk fun K1 hK1 =>?_
 by_cases hF : ∃ y ∈ L,y.vo = id
 ·
  obtain ⟨y,hyL,hy⟩ := hF
  obtain ⟨j,hj⟩ := List.getElem?_of_mem hyL
  have hys := vp_cp (hV y hyL)
  refine wp_region_lit ?_
  refine goCh U (.move rfl<|.nilCheck rfl<|.fa 0 rfl U87<|.lb m2 1 U85 rfl rfl rfl<|.move rfl .nil) fun Y U =>?_
  obtain ⟨es9,ck9,hks9,hel9,hmk9,m9⟩ := m2.mpOpen (i := 2) rfl
  clear m2 hel9 hmk9
  have hki9 := mpKeys hks9 keyI
  obtain ⟨e9,vs9,he9,hev9,hR9,ho9,hvl9⟩ := m9.mpeAt (i := 2) rfl (r := [.v (.int .i64 y.vo),.v (.int .i64 y.bl),.v (.int .i64 y.sz),.v (.int .i64 y.pe),.ns .i64 y.place,.v (.int .i64 y.to),.v (.int .i64 y.ne),.v (.bool y.hi),.v (.int .i64 y.fl),.ns .i64 y.pins,.l 2 (y.ws.map wrD)]) (volD_get hj)
  have hek9 := mpKey hks9 he9 (keyV_get hj)
  clear ho9 hvl9
  revert U
  rcases hR9 with _ | ⟨hd9_0,_ | ⟨hd9_1,_ | ⟨hd9_2,_ | ⟨hd9_3,_ | ⟨hd9_4,_ | ⟨hd9_5,_ | ⟨hd9_6,_ | ⟨hd9_7,_ | ⟨hd9_8,_ | ⟨hd9_9,_ | ⟨hd9_10,_ | _⟩⟩⟩⟩⟩⟩⟩⟩⟩⟩⟩
  obtain rfl := hd9_0.v_out
  clear hd9_0
  obtain rfl := hd9_1.v_out
  clear hd9_1
  obtain rfl := hd9_2.v_out
  clear hd9_2
  obtain rfl := hd9_3.v_out
  clear hd9_3
  obtain ⟨p10,c10,hv10,hc10⟩ := hd9_4.ns_shape; subst hv10
  intro U
  have m10 := m9.dat 21 rfl (hd9_4.cast (fun _ h => h)); clear m9 hd9_4
  revert U
  obtain rfl := hd9_5.v_out
  clear hd9_5
  obtain rfl := hd9_6.v_out
  clear hd9_6
  obtain rfl := hd9_7.v_out
  clear hd9_7
  obtain rfl := hd9_8.v_out
  clear hd9_8
  obtain ⟨p11,c11,hv11,hc11⟩ := hd9_9.ns_shape; subst hv11
  intro U
  have m11 := m10.dat 22 rfl (hd9_9.cast (fun _ h => (free_add rfl h))); clear m10 hd9_9
  revert U
  obtain ⟨p12,c12,hv12,hc12⟩ := hd9_10.l_shape; subst hv12
  intro U
  have m12 := m11.dat 23 rfl (hd9_10.cast (fun _ h => (free_add rfl (free_add rfl h)))); clear m11 hd9_10
  refine goCh U (.c rfl (fun _ h_ => y_lookE h_ m12 (i := 2) rfl rfl rfl U85 (KeyT.int (q := .i64) U3) hki9 he9 (hek9.trans (keyV_eq hy)) hev9)<|.move rfl<|.extract rfl rfl<|.extract rfl rfl .nil) fun Y U =>?_
  refine plz (e_alloc U m12 24 fct14 rfl fun g17 Y w18 U m18 _ _ =>?_)
  refine plz (stw U m18 24 fct13 fun w19 m19 _ =>?_)
  refine gz hK1 U (.assign rfl .nil) fun Y U =>?_
  replace U := U.oz [4,5,6,7]
  refine zsr fun K2 hK2 =>?_
  refine goCh U (.loadBR m19 (i := 24) rfl rfl U51 rfl fct13 (by simp) (by dsimp only [List.drop,List.take] <;> rfl) .nil) fun Y U =>?_
  refine plz (ecl U Tryz.func52 rfl (volcopy_any y.vo y.bl y.sz y.pe y.to y.ne y.fl y.hi y.place y.pins y.ws _ _ _ _ _ _ _ _ ((m19.rd (i := 21) rfl).any) ((m19.rd (i := 22) rfl).any) ((m19.rd (i := 23) rfl).any) hys.1 hys.2.1 hys.2.2.1 hys.2.2.2) ?_)
  rintro e w24 ⟨pa24,ca24,pb24,cb24,pc24,cc24,rfl,ha24,hb24,hc24,hd24⟩
  have m25 := m19.callF3 25 26 27 rfl rfl rfl hd24 ha24 hb24 hc24
  clear ha24 hb24 hc24 hd24
  refine ⟨_,rfl,?_⟩; intro Y U
  refine goCh U (.move rfl .nil) fun Y U =>?_
  refine plz (stw U m25 20 fct13 fun w28 m28 _ =>?_)
  refine gz hK2 U (.assign rfl .nil) fun Y U =>?_
  refine rtd (retCT (fn := Tryz.f18) U m28 (i := 20) rfl rfl rfl rfl U51 rfl fct13 ?_)
  have m30 := m28.mpClose (i := 2) rfl
  rw [hks9] at m30
  exact ⟨y,true,_,_,_,_,_,_,rfl,(fun _ => ⟨hyL,hy⟩),(fun h => by cases h),m30.ren [(1,1),(2,2),(3,25),(4,26),(5,27)] (by decide)⟩
 have hno : ∀ y ∈ L,y.vo ≠ id := fun y hy he => hF ⟨y,hy,he⟩
 refine wp_region_lit ?_
 refine goCh U (.move rfl<|.nilCheck rfl<|.fa 0 rfl U87<|.lb m2 1 U85 rfl rfl rfl<|.move rfl .nil) fun Y U =>?_
 obtain ⟨es36,ck36,hks36,hel36,hmk36,m36⟩ := m2.mpOpen (i := 2) rfl
 clear m2 hel36 hmk36
 have hki36 := mpKeys hks36 keyI
 refine goCh U (.c rfl (fun _ h_ => y_lookN h_ m36 (.agg #[.int .i64 0,.int .i64 0,.int .i64 0,.int .i64 0,.slice none 0 0,.int .i64 0,.int .i64 0,.bool false,.int .i64 0,.slice none 0 0,.slice none 0 0]) (i := 2) rfl rfl rfl U85 zv51 (KeyT.int (q := .i64) U3) hki36 ⟨_,rfl⟩ (mpKeys hks36 (keyV_ne hno)))<|.move rfl<|.extract rfl rfl<|.extract rfl rfl .nil) fun Y U =>?_
 refine plz (e_alloc U m36 21 fct14 rfl fun g41 Y w42 U m42 _ _ =>?_)
 refine plz (stw U m42 21 fct13 fun w43 m43 _ =>?_)
 refine gz hK1 U (.assign rfl .nil) fun Y U =>?_
 replace U := U.oz [4,5,6,7]
 refine zsr fun K3 hK3 =>?_
 refine goCh U (.loadBR m43 (i := 21) rfl rfl U51 rfl fct13 (by simp) (by dsimp only [List.drop,List.take] <;> rfl) .nil) fun Y U =>?_
 refine plz (ecl U Tryz.func52 rfl (volcopy_any volZ.vo volZ.bl volZ.sz volZ.pe volZ.to volZ.ne volZ.fl volZ.hi volZ.place volZ.pins volZ.ws _ _ _ _ _ _ _ _ (Rd.nilN _ _ .i64 none) (Rd.nilN _ _ .i64 none) (Rd.l0 none 0 2) (by decide) (by decide) (by decide) (fun e he => by cases he)) ?_)
 rintro e w48 ⟨pa48,ca48,pb48,cb48,pc48,cc48,rfl,ha48,hb48,hc48,hd48⟩
 have m49 := m43.callF3 22 23 24 rfl rfl rfl hd48 ha48 hb48 hc48
 clear ha48 hb48 hc48 hd48
 refine ⟨_,rfl,?_⟩; intro Y U
 refine goCh U (.move rfl .nil) fun Y U =>?_
 refine plz (stw U m49 20 fct13 fun w52 m52 _ =>?_)
 refine gz hK3 U (.assign rfl .nil) fun Y U =>?_
 refine rtd (retCT (fn := Tryz.f18) U m52 (i := 20) rfl rfl rfl rfl U51 rfl fct13 ?_)
 have m54 := m52.mpClose (i := 2) rfl
 rw [hks36] at m54
 exact ⟨volZ,false,_,_,_,_,_,_,rfl,(fun h => by cases h),(fun _ => ⟨rfl,hF⟩),m54.ren [(1,1),(2,2),(3,22),(4,23),(5,24)] (by decide)⟩
theorem apply_n (X : Cx) (B G : Nat) (L : List VolV) (b : List Int) (hb : b.length ≤ 1000000) (hbb : BytesL b) (hno : ∀ x : Cm,CmdR x → (∀ e ∈ x.its,BytesL e.2) → cmE x ≠ b) (p : Option Addr) (c : Nat) (w0 : World) (m0 : MemOk X w0 [(1,.box B 87 [.map (some G)]),(2,.mp G 11 ((L).map keyV) ((L).map volD)),(3,.dat (.slice p b.length c) (.ns .u8 b))] w0) :
   Calls Tryz.prog 14 #[.pointer (some ⟨B,0,none⟩),.slice p b.length c] w0 fun e w' => e = .returned (.agg #[.int .i64 20,.int .i64 0,.int .i64 0,.int .i64 0,.slice none 0 0]) ∧ MemOk X w0 [(1,.box B 87 [.map (some G)]),(2,.mp G 11 ((L).map keyV) ((L).map volD))] w' := by
 refine ent2 Tryz.func14 rfl Tryz.ntmps14 fun Y U =>?_
 refine zsr fun K0 hK0 =>?_
 refine plz (e_alloc U m0 20 fct26 rfl fun g1 Y w2 U m2 _ _ =>?_)
 refine znl (hK0 _ _ ?_)
 refine zsr fun K1 hK1 =>?_
 refine goCh U (.move rfl .nil) fun Y U =>?_
 refine plz (ecl U Tryz.func28 rfl (readCmd_n _ b hb hbb hno _ _ _ (m2.into [(1,3)] (by decide) rfl)) ?_)
 rintro e w5 ⟨rfl,hm5⟩
 have mx5 := m2.back hm5 [(3,1)] (by decide); clear hm5 m2
 have m5 := mx5.oz [3,1,2,20]
 refine ⟨_,rfl,?_⟩; intro Y U
 refine goCh U (.move rfl<|.extract rfl rfl<|.extract rfl rfl .nil) fun Y U =>?_
 refine plz (e_alloc U m5 21 fct23 rfl fun g10 Y w11 U m11 _ _ =>?_)
 refine plz (stw U m11 21 fct18 fun w12 m12 _ =>?_)
 refine gz hK1 U (.assign rfl .nil) fun Y U =>?_
 refine wsk fun K2 hK2 =>?_
 replace U := U.oz [0,4,5,6]
 refine regS U (.move rfl<|.neq rfl rfl .nil) fun Y U =>?_
 refine bc U 13 ?_ ?_
 rotate_left
 · intro hb _; exact absurd hb (by simp)
 clear U; intro _ U
 refine wct U ?_
 refine zsr fun K3 hK3 =>?_
 refine goCh U (.move rfl<|.build rfl fct26 fl44man rfl (by dsimp only [setL,List.set] <;> rfl) .nil) fun Y U =>?_
 refine plz (stw U m12 20 fct25 fun w22 m22 _ =>?_)
 refine znl (hK3 _ _ ?_)
 refine rtd (retC (fn := Tryz.f14) U m22 (i := 20) rfl rfl rfl U44 rfl fct25 ?_)
 exact ⟨rfl,m22.only [1,2]⟩
end
end Go.Proofs.YtkehgingagggaaaGreat.K
