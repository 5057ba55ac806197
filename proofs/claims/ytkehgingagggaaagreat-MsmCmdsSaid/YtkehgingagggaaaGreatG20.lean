/- General laws of walks. -/
import Derived.Test.YtkehgingagggaaaGreatG19
namespace Go.Proofs.YtkehgingagggaaaGreat.K
open Go.ChangeShapes Go.WideShapes Go.ChangeAt Go.RowKit
set_option linter.unusedVariables false
set_option linter.unusedSimpArgs false
section
theorem fl51mtk : flatS Tryz.prog 51 [.int .i64 0,.int .i64 0,.int .i64 0,.int .i64 0,.slice none 0 0,.int .i64 0,.int .i64 0,.bool false,.int .i64 0,.slice none 0 0,.slice none 0 0] = true := by kernel_rfl
theorem fl103mtk : flatS Tryz.prog 103 [.int .i64 0,.slice none 0 0] = true := by kernel_rfl
theorem len_r2 {a b d : List Int} (h : d = a ++ b) (hd : d.length ≤ 1000000) : b.length ≤ 1000000 := len_r h hd
theorem by_r2 {a b d : List Int} (h : d = a ++ b) (hd : BytesL d) : BytesL b := bytes_r (h ▸ hd)
def isE (l : List (Int × List Int)) : List Int := enc (l.length : Int) ++ itemsE l
def isD (l : List (Int × List Int)) : List D := [.l 2 (l.map itD)]
theorem isE_drop {l : List (List (Int × List Int))} {k : Nat} {xl : List (Int × List Int)} (h : l[k]? = some xl) : (l.drop k).flatMap isE = isE xl ++ (l.drop (k + 1)).flatMap isE := by
 obtain ⟨hk,e⟩ := List.getElem?_eq_some_iff.1 h
 rw [List.drop_eq_getElem_cons hk,e,List.flatMap_cons]
theorem isD_snoc {l : List (List (Int × List Int))} {k : Nat} {xl : List (Int × List Int)} (h : l[k]? = some xl) : (l.take (k + 1)).map isD = (l.take k).map isD ++ [[.l 2 (xl.map itD)]] := by
 rw [List.take_add_one,h,List.map_append]; rfl
theorem isE_wsE (ws : List PWr) : (ws.map (·.2)).flatMap isE = wsE ws := by
 rw [List.flatMap_map]; rfl
theorem isD_get {ws : List PWr} {k : Nat} {xs : Int} {xl : List (Int × List Int)} (h : ws[k]? = some (xs,xl)) : ((ws.map (·.2)).map isD)[k]? = some [.l 2 (xl.map itD)] := by
 rw [List.getElem?_map,List.getElem?_map,h]; rfl
theorem wr_snoc9 {ws : List PWr} {k : Nat} {xs : Int} {xl : List (Int × List Int)} (h : ws[k]? = some (xs,xl)) (hs : xs = (k : Int) + 1) : ((ws.take k).map wrD) ++ [[.v (.int .i64 ((k + 1 : Nat) : Int)),.l 2 (xl.map itD)]] = ((ws.take (k + 1)).map wrD) := by
 rw [List.take_add_one,h,List.map_append,hs]; rfl
theorem hid_eq (b : Bool) : (decide (hidI b = 1)) = b := by cases b <;> rfl
set_option maxRecDepth 100000
set_option maxHeartbeats 4000000
theorem list64_o (X : Cx) (B : Nat) (b : List Int) (p : Option Addr) (c : Nat) (w0 : World) (l T : List Int) (hb : b.length ≤ 1000000) (hbb : BytesL b) (hbe : b = enc (l.length : Int) ++ (encs l ++ T)) (hl : l.length ≤ 60000) (hlb : ∀ k,k < l.length → 0 ≤ l.getD k 0 ∧ l.getD k 0 ≤ 1099511627776) (m0 : MemOk X w0 [(1,.box B 148 [.slice p (b).length c,.int .i64 0]),(2,.dat (.slice p (b).length c) (.ns .u8 (b)))] w0) :
   Calls Tryz.prog 108 #[.pointer (some ⟨B,0,none⟩),.func (.func 74) #[] #[]] w0 fun e w' => ∃ (p' : Option Addr) (c' : Nat) (p3 : Option Addr) (c3 : Nat),e = .returned (.slice p3 l.length c3) ∧ MemOk X w0 [(1,.box B 148 [.slice p' (T).length c',.int .i64 0]),(2,.dat (.slice p' (T).length c') (.ns .u8 (T))),(3,.dat (.slice p3 l.length c3) (.ns .i64 l))] w' := by
 refine ent2 Tryz.func108 rfl Tryz.ntmps108 fun Y U =>?_
 have hlT := bytes_r (hbe ▸ hbb)
 have hlL := len_r hbe hb
 refine regS U (.assign rfl .nil) fun Y U =>?_
 refine regS U (.assign rfl .nil) fun Y U =>?_
 refine wsk fun K0 hK0 =>?_
 refine zsr fun K1 hK1 =>?_
 refine goCh U (.move rfl .nil) fun Y U =>?_
 refine plz (ecl U Tryz.func60 rfl (pnum_ok _ _ _ 1099511627776 _ _ _ (l.length : Int) (encs (l) ++ T) hb hbb hbe (by omega) (by omega) (m0.into [(1,1),(2,2)] (by decide) rfl)) ?_)
 rintro e w5 ⟨p5,c5,rfl,hm5⟩
 have mx5 := m0.back hm5 [(1,1),(2,2)] (by decide); clear hm5 m0
 have m5 := mx5.oz [1,2]
 refine ⟨_,rfl,?_⟩; intro Y U
 refine gz hK1 U (.move rfl .nil) fun Y U =>?_
 refine wp_block ?_
 refine wp_loop_ghost (fun g a w => ∃ (k : Nat) (p1 : Option Addr) (c1 : Nat) (p3 : Option Addr) (c3 : Nat),k ≤ l.length ∧ g = l.length - k ∧ (encs (l.drop k) ++ T).length ≤ 1000000 ∧ BytesL (encs (l.drop k) ++ T) ∧ Has 23 [(0,.pointer (some ⟨B,0,none⟩)),(1,.func (.func 74) #[] #[]),(5,.slice p3 (l.take k).length c3),(8,.int .u64 (l.length : Nat)),(9,.int .u64 (k : Int))] a ∧ MemOk X w0 [(1,.box B 148 [.slice p1 (encs (l.drop k) ++ T).length c1,.int .i64 0]),(2,.dat (.slice p1 (encs (l.drop k) ++ T).length c1) (.ns .u8 (encs (l.drop k) ++ T))),(7,.num (.slice p3 (l.take k).length c3) 2 .i64 (l.take k))] w) (l.length) ?_ ?_
 · have mz := m5.nilN 7 2 .i64
   exact ⟨0,_,_,_,_,Nat.zero_le _,rfl,by rw [List.drop_zero]; exact hlL,by rw [List.drop_zero]; exact hlT,U.only [0,1,5,8,9],mz.ren [(1,1),(2,2),(7,7)] (by decide)⟩
 clear U m5
 rintro g Y w8 ⟨k,p1,c1,p3,c3,hkl,hg,hb1,hbb1,U,m8⟩
 refine regS U (.lss rfl rfl .nil) fun Y U =>?_
 refine wsk fun K2 hK2 =>?_
 refine bc U 10 ?_ ?_
 ·
  intro hb10 U; try simp only [QQ,Qax] at hb10
  have hk : k < l.length := by omega
  have hb2 : (encs (l.drop (k + 1)) ++ T).length ≤ 1000000 := by have h9 := hb1; rw [encs_drop hk,List.append_assoc,List.length_append] at h9; omega
  have hbb2 : BytesL (encs (l.drop (k + 1)) ++ T) := bytes_r (by have h9 := hbb1; rw [encs_drop hk,List.append_assoc] at h9; exact h9)
  refine wct U ?_
  refine zss (hK2 _ _ ?_)
  refine wsk fun K3 hK3 =>?_
  refine wp_block ?_
  refine zsr fun K4 hK4 =>?_
  refine goCh U (.move rfl<|.move rfl .nil) fun Y U =>?_
  refine plz (e_callV U rfl Tryz.func74 rfl rfl rfl rfl (time_o _ _ _ _ _ _ (l.getD k 0) (encs (l.drop (k + 1)) ++ T) hb1 hbb1 (by rw [encs_drop hk,List.append_assoc]) (hlb k hk) (m8.into [(1,1),(2,2)] (by decide) rfl)) ?_)
  rintro e w15 ⟨p15,c15,rfl,hm15⟩
  have mx15 := m8.back hm15 [(1,1),(2,2)] (by decide); clear hm15 m8
  have m15 := mx15.oz [1,2,7]
  refine ⟨_,rfl,?_⟩; intro Y U
  refine gz hK4 U (.assign rfl .nil) fun Y U =>?_
  refine wsk fun K5 hK5 =>?_
  refine zsr fun K6 hK6 =>?_
  refine goCh U (.move rfl .nil) fun Y U =>?_
  refine plz (ecl U Tryz.func62 rfl (perr_x _ _ _ _ _ _ _ (m15.into [(1,1),(2,2)] (by decide) rfl)) ?_)
  rintro e w20 ⟨rfl,hm20⟩
  have mx20 := m15.back hm20 [(1,1),(2,2)] (by decide); clear hm20 m15
  have m20 := mx20.oz [1,2,7]
  refine ⟨_,rfl,?_⟩; intro Y U
  refine gz hK6 U (.neq rfl rfl .nil) fun Y U =>?_
  refine bc U 16 ?_ ?_
  · intro hb _; exact absurd hb (by simp)
  clear U; intro _ U
  refine wcf U ?_
  refine zss (hK5 _ _ ?_)
  replace U := U.oz [0,1,5,8,9,6]
  refine wp_region_lit ?_
  refine goCh U (.move rfl<|.move rfl .nil) fun Y U =>?_
  refine plz (e_litN U m20 100 (k := .i64) rfl rfl U48 fct1 rfl rfl rfl rfl fun g27 Y w28 U m28 =>?_)
  refine plz (e_appN U m28 7 rfl rfl rfl (m28.numsO (i := 100) rfl) U48 fct1 (by decide) (by simp; omega) rfl fun p29 c29 Y w30 U m30 =>?_)
  refine gz hK3 U (.assign rfl .nil) fun Y U =>?_
  refine wp_region_lit ?_
  refine goCh U (.add rfl rfl (r := ((k + 1 : Nat) : Int)) (by rw [IntWalk.u64_in _ (by omega)]; omega)<|.move rfl .nil) fun Y U =>?_
  refine wpList_nil ?_
  show ∃ n',n' < _ ∧ _
  have hE : l.take k ++ [l.getD k 0] = l.take (k + 1) := (take_getD hk).symm
  rw [hE] at m30 U
  exact ⟨l.length - (k + 1),by omega,k + 1,_,_,_,_,by omega,rfl,hb2,hbb2,U.only [0,1,5,8,9],m30.ren [(1,1),(2,2),(7,7)] (by decide)⟩
 intro hb10 U; try simp only [QQ,Qax] at hb10
 revert U
 obtain rfl : k = l.length := by omega
 intro U
 rw [List.drop_length,show encs [] ++ T = T from rfl,List.take_length] at m8
 rw [List.take_length] at U
 refine wcf U ?_
 refine wp_exit ?_
 refine hK0 _ _ ?_
 refine regS U (.move rfl<|.assign rfl .nil) fun Y U =>?_
 refine rt1 U ?_
 have m36 := m8.freezeN 7 rfl
 exact ⟨_,_,_,_,rfl,m36.ren [(1,1),(2,2),(3,7)] (by decide)⟩
theorem listW_o (X : Cx) (B : Nat) (b : List Int) (p : Option Addr) (c : Nat) (w0 : World) (l : List (List (Int × List Int))) (T : List Int) (hb : b.length ≤ 1000000) (hbb : BytesL b) (hbe : b = enc (l.length : Int) ++ (l.flatMap isE ++ T)) (hl : l.length ≤ 60000) (hlb : ∀ x ∈ l,x.length ≤ 8 ∧ ∀ e ∈ x,(0 ≤ e.1 ∧ e.1 ≤ 255) ∧ e.2.length ≤ 32) (m0 : MemOk X w0 [(1,.box B 148 [.slice p (b).length c,.int .i64 0]),(2,.dat (.slice p (b).length c) (.ns .u8 (b)))] w0) :
   Calls Tryz.prog 109 #[.pointer (some ⟨B,0,none⟩),.func (.func 76) #[] #[]] w0 fun e w' => ∃ (p' : Option Addr) (c' : Nat) (p3 : Option Addr) (c3 : Nat),e = .returned (.slice p3 (l.map isD).length c3) ∧ MemOk X w0 [(1,.box B 148 [.slice p' (T).length c',.int .i64 0]),(2,.dat (.slice p' (T).length c') (.ns .u8 (T))),(3,.dat (.slice p3 (l.map isD).length c3) (.l 1 (l.map isD)))] w' := by
 refine ent2 Tryz.func109 rfl Tryz.ntmps109 fun Y U =>?_
 have hlT := bytes_r (hbe ▸ hbb)
 have hlL := len_r hbe hb
 refine regS U (.assign rfl .nil) fun Y U =>?_
 refine regS U (.assign rfl .nil) fun Y U =>?_
 refine wsk fun K0 hK0 =>?_
 refine zsr fun K1 hK1 =>?_
 refine goCh U (.move rfl .nil) fun Y U =>?_
 refine plz (ecl U Tryz.func60 rfl (pnum_ok _ _ _ 1099511627776 _ _ _ (l.length : Int) ((l).flatMap isE ++ T) hb hbb hbe (by omega) (by omega) (m0.into [(1,1),(2,2)] (by decide) rfl)) ?_)
 rintro e w5 ⟨p5,c5,rfl,hm5⟩
 have mx5 := m0.back hm5 [(1,1),(2,2)] (by decide); clear hm5 m0
 have m5 := mx5.oz [1,2]
 refine ⟨_,rfl,?_⟩; intro Y U
 refine gz hK1 U (.move rfl .nil) fun Y U =>?_
 refine wp_block ?_
 refine wp_loop_ghost (fun g a w => ∃ (k : Nat) (p1 : Option Addr) (c1 : Nat) (p3 : Option Addr) (c3 : Nat),k ≤ l.length ∧ g = l.length - k ∧ ((l.drop k).flatMap isE ++ T).length ≤ 1000000 ∧ BytesL ((l.drop k).flatMap isE ++ T) ∧ Has 23 [(0,.pointer (some ⟨B,0,none⟩)),(1,.func (.func 76) #[] #[]),(5,.slice p3 ((l.take k).map isD).length c3),(8,.int .u64 (l.length : Nat)),(9,.int .u64 (k : Int))] a ∧ MemOk X w0 [(1,.box B 148 [.slice p1 ((l.drop k).flatMap isE ++ T).length c1,.int .i64 0]),(2,.dat (.slice p1 ((l.drop k).flatMap isE ++ T).length c1) (.ns .u8 ((l.drop k).flatMap isE ++ T))),(7,.row (.slice p3 ((l.take k).map isD).length c3) 36 1 ((l.take k).map isD))] w) (l.length) ?_ ?_
 · have mz := m5.nilR 7 36 1
   exact ⟨0,_,_,_,_,Nat.zero_le _,rfl,by rw [List.drop_zero]; exact hlL,by rw [List.drop_zero]; exact hlT,U.only [0,1,5,8,9],mz.ren [(1,1),(2,2),(7,7)] (by decide)⟩
 clear U m5
 rintro g Y w8 ⟨k,p1,c1,p3,c3,hkl,hg,hb1,hbb1,U,m8⟩
 refine regS U (.lss rfl rfl .nil) fun Y U =>?_
 refine wsk fun K2 hK2 =>?_
 refine bc U 10 ?_ ?_
 ·
  intro hb10 U; try simp only [QQ,Qax] at hb10
  have hk : k < l.length := by omega
  obtain ⟨xl,hes⟩ : ∃ e,l[k]? = some e := ⟨_,List.getElem?_eq_getElem hk⟩
  have hx := hlb _ (List.mem_of_getElem? hes)
  have hb2 : ((l.drop (k + 1)).flatMap isE ++ T).length ≤ 1000000 := by have h9 := hb1; rw [isE_drop hes,List.append_assoc,List.length_append] at h9; omega
  have hbb2 : BytesL ((l.drop (k + 1)).flatMap isE ++ T) := bytes_r (by have h9 := hbb1; rw [isE_drop hes,List.append_assoc] at h9; exact h9)
  refine wct U ?_
  refine zss (hK2 _ _ ?_)
  refine wsk fun K3 hK3 =>?_
  refine wp_block ?_
  refine zsr fun K4 hK4 =>?_
  refine goCh U (.move rfl<|.move rfl .nil) fun Y U =>?_
  refine plz (e_callV U rfl Tryz.func76 rfl rfl rfl rfl (readItems_o _ _ _ _ _ _ xl ((l.drop (k + 1)).flatMap isE ++ T) hb1 hbb1 (by rw [isE_drop hes]; simp only [isE,List.append_assoc]) (by have := hx.1; omega) hx.2 (m8.into [(1,1),(2,2)] (by decide) rfl)) ?_)
  rintro e w15 ⟨p15,c15,p315,c315,rfl,hm15⟩
  have mx15 := m8.back hm15 [(1,1),(2,2),(100,3)] (by decide); clear hm15 m8
  have m15 := mx15.oz [1,2,100,7]
  refine ⟨_,rfl,?_⟩; intro Y U
  refine gz hK4 U (.assign rfl .nil) fun Y U =>?_
  refine wsk fun K5 hK5 =>?_
  refine zsr fun K6 hK6 =>?_
  refine goCh U (.move rfl .nil) fun Y U =>?_
  refine plz (ecl U Tryz.func62 rfl (perr_x _ _ _ _ _ _ _ (m15.into [(1,1),(2,2)] (by decide) rfl)) ?_)
  rintro e w20 ⟨rfl,hm20⟩
  have mx20 := m15.back hm20 [(1,1),(2,2)] (by decide); clear hm20 m15
  have m20 := mx20.oz [1,2,7,100]
  refine ⟨_,rfl,?_⟩; intro Y U
  refine gz hK6 U (.neq rfl rfl .nil) fun Y U =>?_
  refine bc U 16 ?_ ?_
  · intro hb _; exact absurd hb (by simp)
  clear U; intro _ U
  refine wcf U ?_
  refine zss (hK5 _ _ ?_)
  replace U := U.oz [0,1,5,8,9,6]
  refine wp_region_lit ?_
  refine goCh U (.move rfl<|.move rfl .nil) fun Y U =>?_
  refine plz (e_litR U m20 101 (mm := 1) rfl (.cons rfl rfl (.cons (m20.rd (i := 100) rfl) .nil) .nil) U153 fct35 rfl rfl rfl rfl rfl fun g27 Y w28 U m28 =>?_)
  have m30 := m28.freezeR 101 rfl
  refine plz (e_appR U m30 7 rfl rfl rfl (m30.rd (i := 101) rfl) U153 fct35 rfl rfl (by decide) (by simp; omega) rfl fun p29 c29 Y w31 U m31 =>?_)
  refine gz hK3 U (.assign rfl .nil) fun Y U =>?_
  refine wp_region_lit ?_
  refine goCh U (.add rfl rfl (r := ((k + 1 : Nat) : Int)) (by rw [IntWalk.u64_in _ (by omega)]; omega)<|.move rfl .nil) fun Y U =>?_
  refine wpList_nil ?_
  show ∃ n',n' < _ ∧ _
  have hE : (l.take k).map isD ++ [[.l 2 (xl.map itD)]] = (l.take (k + 1)).map isD := (isD_snoc hes).symm
  rw [hE] at m31 U
  exact ⟨l.length - (k + 1),by omega,k + 1,_,_,_,_,by omega,rfl,hb2,hbb2,U.only [0,1,5,8,9],m31.ren [(1,1),(2,2),(7,7)] (by decide)⟩
 intro hb10 U; try simp only [QQ,Qax] at hb10
 revert U
 obtain rfl : k = l.length := by omega
 intro U
 rw [List.drop_length,show ([] : List (List (Int × List Int))).flatMap isE ++ T = T from rfl,List.take_length] at m8
 rw [List.take_length] at U
 refine wcf U ?_
 refine wp_exit ?_
 refine hK0 _ _ ?_
 refine regS U (.move rfl<|.assign rfl .nil) fun Y U =>?_
 refine rt1 U ?_
 have m37 := m8.freezeR 7 rfl
 exact ⟨_,_,_,_,rfl,m37.ren [(1,1),(2,2),(3,7)] (by decide)⟩
theorem take_o (X : Cx) (B : Nat) (b0 b1 b2 b3 b4 b5 b6 b7 b8 b9 b10 b11 : List Int) (x : VolV) (p : Option Addr) (c : Nat) (w0 : World) (hP : VP x) (hSq : ∀ (k : Nat) (w : PWr),x.ws[k]? = some w → w.1 = (k : Int) + 1) (hl0 : b0.length ≤ 1000000) (hy0 : BytesL b0) (he0 : b0 = enc x.vo ++ b1) (he1 : b1 = enc x.bl ++ b2) (he2 : b2 = enc x.sz ++ b3) (he3 : b3 = enc x.pe ++ b4) (he4 : b4 = enc (x.place.length : Int) ++ (encs x.place ++ b5)) (he5 : b5 = enc x.to ++ b6) (he6 : b6 = enc x.ne ++ b7) (he7 : b7 = enc (hidI x.hi) ++ b8) (he8 : b8 = enc x.fl ++ b9) (he9 : b9 = enc (x.pins.length : Int) ++ (encs x.pins ++ b10)) (he10 : b10 = enc (x.ws.length : Int) ++ (wsE x.ws ++ b11)) (m0 : MemOk X w0 [(1,.box B 148 [.slice p (b0).length c,.int .i64 0]),(2,.dat (.slice p (b0).length c) (.ns .u8 (b0)))] w0) :
   Calls Tryz.prog 61 #[.pointer (some ⟨B,0,none⟩)] w0 fun e w' => ∃ (p' p1 p2 p3 : Option Addr) (c' d1 d2 d3 : Nat),e = .returned (.agg #[.int .i64 x.vo,.int .i64 x.bl,.int .i64 x.sz,.int .i64 x.pe,.slice p1 x.place.length d1,.int .i64 x.to,.int .i64 x.ne,.bool x.hi,.int .i64 x.fl,.slice p2 x.pins.length d2,.slice p3 (x.ws.map wrD).length d3]) ∧ MemOk X w0 [(1,.box B 148 [.slice p' (b11).length c',.int .i64 0]),(2,.dat (.slice p' (b11).length c') (.ns .u8 (b11))),(3,.dat (.slice p1 x.place.length d1) (.ns .i64 x.place)),(4,.dat (.slice p2 x.pins.length d2) (.ns .i64 x.pins)),(5,.dat (.slice p3 (x.ws.map wrD).length d3) (.l 2 (x.ws.map wrD)))] w' := by
 refine ent1 Tryz.func61 rfl Tryz.ntmps61 fun Y U =>?_
 have hl1 : b1.length ≤ 1000000 := len_r2 he0 hl0
 have hy1 : BytesL b1 := by_r2 he0 hy0
 have hl2 : b2.length ≤ 1000000 := len_r2 he1 hl1
 have hy2 : BytesL b2 := by_r2 he1 hy1
 have hl3 : b3.length ≤ 1000000 := len_r2 he2 hl2
 have hy3 : BytesL b3 := by_r2 he2 hy2
 have hl4 : b4.length ≤ 1000000 := len_r2 he3 hl3
 have hy4 : BytesL b4 := by_r2 he3 hy3
 have hl5 : b5.length ≤ 1000000 := len_r2 (a := _ ++ _) (he4.trans (List.append_assoc _ _ _).symm) hl4
 have hy5 : BytesL b5 := by_r2 (a := _ ++ _) (he4.trans (List.append_assoc _ _ _).symm) hy4
 have hl6 : b6.length ≤ 1000000 := len_r2 he5 hl5
 have hy6 : BytesL b6 := by_r2 he5 hy5
 have hl7 : b7.length ≤ 1000000 := len_r2 he6 hl6
 have hy7 : BytesL b7 := by_r2 he6 hy6
 have hl8 : b8.length ≤ 1000000 := len_r2 he7 hl7
 have hy8 : BytesL b8 := by_r2 he7 hy7
 have hl9 : b9.length ≤ 1000000 := len_r2 he8 hl8
 have hy9 : BytesL b9 := by_r2 he8 hy8
 have hl10 : b10.length ≤ 1000000 := len_r2 (a := _ ++ _) (he9.trans (List.append_assoc _ _ _).symm) hl9
 have hy10 : BytesL b10 := by_r2 (a := _ ++ _) (he9.trans (List.append_assoc _ _ _).symm) hy9
 have hl11 : b11.length ≤ 1000000 := len_r2 (a := _ ++ _) (he10.trans (List.append_assoc _ _ _).symm) hl10
 have hy11 : BytesL b11 := by_r2 (a := _ ++ _) (he10.trans (List.append_assoc _ _ _).symm) hy10
 refine zsr fun K0 hK0 =>?_
 refine plz (e_alloc U m0 40 fct14 rfl fun g1 Y w2 U m2 _ _ =>?_)
 refine znl (hK0 _ _ ?_)
 refine zsr fun K1 hK1 =>?_
 refine goCh U (.move rfl .nil) fun Y U =>?_
 refine plz (ecl U Tryz.func73 rfl (num_o _ _ _ _ _ _ (x.vo) b1 hl0 hy0 he0 (by have := hP.h4; have := hP.h3; omega) (m2.into [(1,1),(2,2)] (by decide) rfl)) ?_)
 rintro e w5 ⟨p5,c5,rfl,hm5⟩
 have mx5 := m2.back hm5 [(1,1),(2,2)] (by decide); clear hm5 m2
 have m5 := mx5.oz [1,2,40]
 refine ⟨_,rfl,?_⟩; intro Y U
 refine goCh U (.move rfl .nil) fun Y U =>?_
 refine plz (ecl U Tryz.func73 rfl (num_o _ _ _ _ _ _ (x.bl) b2 hl1 hy1 he1 (by have := hP.h4; have := hP.h3; omega) (m5.into [(1,1),(2,2)] (by decide) rfl)) ?_)
 rintro e w8 ⟨p8,c8,rfl,hm8⟩
 have mx8 := m5.back hm8 [(1,1),(2,2)] (by decide); clear hm8 m5
 have m8 := mx8.oz [1,2,40]
 refine ⟨_,rfl,?_⟩; intro Y U
 refine goCh U (.move rfl .nil) fun Y U =>?_
 refine plz (ecl U Tryz.func73 rfl (num_o _ _ _ _ _ _ (x.sz) b3 hl2 hy2 he2 (by have := hP.h4; have := hP.h3; omega) (m8.into [(1,1),(2,2)] (by decide) rfl)) ?_)
 rintro e w11 ⟨p11,c11,rfl,hm11⟩
 have mx11 := m8.back hm11 [(1,1),(2,2)] (by decide); clear hm11 m8
 have m11 := mx11.oz [1,2,40]
 refine ⟨_,rfl,?_⟩; intro Y U
 refine goCh U (.move rfl .nil) fun Y U =>?_
 refine plz (ecl U Tryz.func73 rfl (num_o _ _ _ _ _ _ (x.pe) b4 hl3 hy3 he3 (by have := hP.h4; have := hP.h3; omega) (m11.into [(1,1),(2,2)] (by decide) rfl)) ?_)
 rintro e w14 ⟨p14,c14,rfl,hm14⟩
 have mx14 := m11.back hm14 [(1,1),(2,2)] (by decide); clear hm14 m11
 have m14 := mx14.oz [1,2,40]
 refine ⟨_,rfl,?_⟩; intro Y U
 refine goCh U (.move rfl .nil) fun Y U =>?_
 refine plz (ecl U Tryz.func75 rfl (listI_o _ _ _ _ _ _ x.place b5 hl4 hy4 he4 (by have := hP.pl.1; omega) (fun k hk => by have := hP.pl.2 _ (getD_mem hk); omega) (m14.into [(1,1),(2,2)] (by decide) rfl)) ?_)
 rintro e w17 ⟨p17,c17,p317,c317,rfl,hm17⟩
 have mx17 := m14.back hm17 [(1,1),(2,2),(41,3)] (by decide); clear hm17 m14
 have m17 := mx17.oz [1,2,41,40]
 refine ⟨_,rfl,?_⟩; intro Y U
 refine goCh U (.build rfl fct14 fl51mtk rfl (by dsimp only [setL,List.set] <;> rfl) .nil) fun Y U =>?_
 refine plz (e_alloc U m17 42 fct14 rfl fun g20 Y w21 U m21 _ _ =>?_)
 refine plz (stw U m21 42 fct13 fun w22 m22 _ =>?_)
 refine znl (hK1 _ _ ?_)
 replace U := U.oz [0,2,3]
 refine zsr fun K2 hK2 =>?_
 refine goCh U (.move rfl .nil) fun Y U =>?_
 refine plz (ecl U Tryz.func73 rfl (num_o _ _ _ _ _ _ (x.to) b6 hl5 hy5 he5 (by have := hP.h4; have := hP.h3; omega) (m22.into [(1,1),(2,2)] (by decide) rfl)) ?_)
 rintro e w26 ⟨p26,c26,rfl,hm26⟩
 have mx26 := m22.back hm26 [(1,1),(2,2)] (by decide); clear hm26 m22
 have m26 := mx26.oz [1,2,40,41,42]
 refine ⟨_,rfl,?_⟩; intro Y U
 refine goCh U (.move rfl .nil) fun Y U =>?_
 refine plz (ecl U Tryz.func73 rfl (num_o _ _ _ _ _ _ (x.ne) b7 hl6 hy6 he6 (by have := hP.h4; have := hP.h3; omega) (m26.into [(1,1),(2,2)] (by decide) rfl)) ?_)
 rintro e w29 ⟨p29,c29,rfl,hm29⟩
 have mx29 := m26.back hm29 [(1,1),(2,2)] (by decide); clear hm29 m26
 have m29 := mx29.oz [1,2,40,41,42]
 refine ⟨_,rfl,?_⟩; intro Y U
 refine goCh U (.move rfl .nil) fun Y U =>?_
 refine plz (ecl U Tryz.func60 rfl (pnum_ok _ _ _ 1 _ _ _ (hidI x.hi) b8 hl7 hy7 he7 (by omega) (hidI_bd x.hi) (m29.into [(1,1),(2,2)] (by decide) rfl)) ?_)
 rintro e w32 ⟨p32,c32,rfl,hm32⟩
 have mx32 := m29.back hm32 [(1,1),(2,2)] (by decide); clear hm32 m29
 have m32 := mx32.oz [1,2,40,41,42]
 refine ⟨_,rfl,?_⟩; intro Y U
 refine goCh U (.eql rfl rfl<|.fa 5 rfl U51 .nil) fun Y U =>?_
 refine plz (st1 U m32 42 fct17 fun w36 m36 _ =>?_)
 refine goCh U (.fieldAddr (off := 6) rfl U51 rfl (s := 0) (by kernel_rfl) rfl .nil) fun Y U =>?_
 refine plz (st1 U m36 42 fct17 fun w38 m38 _ =>?_)
 refine goCh U (.fieldAddr (off := 7) rfl U51 rfl (s := 0) (by kernel_rfl) rfl .nil) fun Y U =>?_
 refine plz (st1 U m38 42 fct34 fun w40 m40 _ =>?_)
 refine znl (hK2 _ _ ?_)
 replace U := U.oz [0,2,3]
 refine zsr fun K3 hK3 =>?_
 refine goCh U (.move rfl .nil) fun Y U =>?_
 refine plz (ecl U Tryz.func74 rfl (time_o _ _ _ _ _ _ (x.fl) b9 hl8 hy8 he8 (by have := hP.h4; have := hP.h3; omega) (m40.into [(1,1),(2,2)] (by decide) rfl)) ?_)
 rintro e w44 ⟨p44,c44,rfl,hm44⟩
 have mx44 := m40.back hm44 [(1,1),(2,2)] (by decide); clear hm44 m40
 have m44 := mx44.oz [1,2,40,41,42]
 refine ⟨_,rfl,?_⟩; intro Y U
 refine goCh U (.move rfl .nil) fun Y U =>?_
 refine plz (ecl U Tryz.func108 rfl (list64_o _ _ _ _ _ _ x.pins b10 hl9 hy9 he9 hP.pn.1 (fun k hk => hP.pn.2 _ (getD_mem hk)) (m44.into [(1,1),(2,2)] (by decide) rfl)) ?_)
 rintro e w47 ⟨p47,c47,p347,c347,rfl,hm47⟩
 have mx47 := m44.back hm47 [(1,1),(2,2),(43,3)] (by decide); clear hm47 m44
 have m47 := mx47.oz [1,2,43,40,41,42]
 refine ⟨_,rfl,?_⟩; intro Y U
 refine goCh U (.fieldAddr (off := 8) rfl U51 rfl (s := 0) (by kernel_rfl) rfl .nil) fun Y U =>?_
 refine plz (st1 U m47 42 fct22 fun w50 m50 _ =>?_)
 refine goCh U (.fieldAddr (off := 9) rfl U51 rfl (s := 0) (by kernel_rfl) rfl .nil) fun Y U =>?_
 refine plz (st1 U m50 42 fct11 fun w52 m52 _ =>?_)
 refine znl (hK3 _ _ ?_)
 refine wsk fun K4 hK4 =>?_
 replace U := U.oz [0,2,3]
 refine zsr fun K5 hK5 =>?_
 refine goCh U (.move rfl .nil) fun Y U =>?_
 refine plz (ecl U Tryz.func109 rfl (listW_o _ _ _ _ _ _ (x.ws.map (·.2)) b11 hl10 hy10 (by rw [List.length_map,isE_wsE]; exact he10) (by rw [List.length_map]; exact hP.ws) (fun l hl => by obtain ⟨w,hw,rfl⟩ := List.mem_map.1 hl; exact hP.it w hw) (m52.into [(1,1),(2,2)] (by decide) rfl)) ?_)
 rintro e w56 ⟨p56,c56,p356,c356,rfl,hm56⟩
 have mx56 := m52.back hm56 [(1,1),(2,2),(44,3)] (by decide); clear hm56 m52
 have m56 := mx56.oz [1,2,44,40,41,42,43]
 refine ⟨_,rfl,?_⟩; intro Y U
 refine gz hK5 U (.len rfl U153<|.move rfl<|.nil) fun Y U =>?_
 refine wp_block ?_
 refine wp_loop_ghost (fun g a w => ∃ (k B2 B3 : Nat) (p1 p2 q1 q3 q4 : Option Addr) (c1 c2 d1 d3 d4 : Nat),k ≤ x.ws.length ∧ g = x.ws.length - k ∧ Has 52 [(2,.pointer (some ⟨B2,0,none⟩)),(3,.pointer (some ⟨B3,0,none⟩)),(34,.slice q4 ((x.ws.map (·.2)).map isD).length d4),(35,.int .i64 ((((x.ws.map (·.2)).map isD).length : Nat) : Int)),(36,.int .i64 k)] a ∧ MemOk X w0 [(1,.box B 148 [.slice q1 b11.length d1,.int .i64 0]),(2,.dat (.slice q1 b11.length d1) (.ns .u8 b11)),(5,.box B2 51 [.int .i64 0,.int .i64 0,.int .i64 0,.int .i64 0,.slice none 0 0,.int .i64 0,.int .i64 0,.bool false,.int .i64 0,.slice none 0 0,.slice none 0 0]),(6,.box B3 51 [.int .i64 x.vo,.int .i64 x.bl,.int .i64 x.sz,.int .i64 x.pe,.slice p1 x.place.length c1,.int .i64 x.to,.int .i64 x.ne,.bool x.hi,.int .i64 x.fl,.slice p2 x.pins.length c2,.slice q3 ((x.ws.take k).map wrD).length d3]),(7,.dat (.slice p1 x.place.length c1) (.ns .i64 x.place)),(8,.dat (.slice p2 x.pins.length c2) (.ns .i64 x.pins)),(9,.row (.slice q3 ((x.ws.take k).map wrD).length d3) 103 2 ((x.ws.take k).map wrD)),(10,.dat (.slice q4 ((x.ws.map (·.2)).map isD).length d4) (.l 1 ((x.ws.map (·.2)).map isD)))] w) (x.ws.length) ?_ ?_
 · rw [hid_eq] at m56
   have mz := m56.nilR 99 103 2
   exact ⟨0,_,_,_,_,_,_,_,_,_,_,_,_,Nat.zero_le _,rfl,U.only [2,3,34,35,36],mz.ren [(1,1),(2,2),(5,40),(6,42),(7,41),(8,43),(9,99),(10,44)] (by decide)⟩
 clear U m56
 rintro g Y w60 ⟨k,B2,B3,p1,p2,q1,q3,q4,c1,c2,d1,d3,d4,hkl,hg,U,m60⟩
 refine regS U (.lss rfl rfl .nil) fun Y U =>?_
 refine wsk fun K6 hK6 =>?_
 refine bc U 37 ?_ ?_
 ·
  intro hb62 U; try simp only [QQ,Qax] at hb62
  have hk : k < x.ws.length := by have := hb62; first | omega | (simp at this; omega)
  obtain ⟨⟨xs,xl⟩,hes⟩ : ∃ e,x.ws[k]? = some e := ⟨_,List.getElem?_eq_getElem hk⟩
  have hsq : xs = (k : Int) + 1 := hSq k _ hes
  have hws := hP.ws
  refine wct U ?_
  refine zss (hK6 _ _ ?_)
  refine wsk fun K7 hK7 =>?_
  refine wp_block ?_
  refine zsr fun K8 hK8 =>?_
  refine goCh U (.move rfl .nil) fun Y U =>?_
  obtain ⟨b66,o66,vs66,hp66,hR66,ho66,m66⟩ := m60.openR (i := 10) rfl (k) (r := [.l 2 (xl.map itD)]) (isD_get hes) 100 rfl
  revert U
  cases hp66; clear m60 ho66
  rcases hR66 with _ | ⟨hd66_0,_ | _⟩
  obtain ⟨p67,c67,hv67,hc67⟩ := hd66_0.l_shape; subst hv67
  intro U
  have m67 := m66.dat 101 rfl (hd66_0.cast (fun _ h => (free_add rfl h))); clear m66 hd66_0
  refine gz hK8 U (.c rfl (fun _ h_ => y_idx h_ rfl rfl U153 fct6 (k) rfl (by simpa using hk))<|.loadC0 m67 (i := 100) rfl rfl U36 rfl<|.assign rfl<|.assign rfl<|.nil) fun Y U =>?_
  refine wp_region_lit ?_
  refine goCh U (.fa 10 rfl U51<|.lb m67 6 U49 rfl rfl rfl<|.move rfl<|.inc (k + 1)<|.move rfl<|.build rfl fct8 fl103mtk rfl (by dsimp only [setL,List.set] <;> rfl) .nil) fun Y U =>?_
  refine plz (e_litR U m67 102 (mm := 2) rfl (.cons rfl rfl (.cons (.v _) (.cons (m67.rd (i := 101) rfl) .nil)) .nil) U49 fct9 rfl rfl rfl rfl rfl fun g78 Y w79 U m79 =>?_)
  have m81 := m79.freezeR 102 rfl
  refine plz (e_appR U m81 9 rfl rfl rfl (m81.rd (i := 102) rfl) U49 fct9 rfl rfl (by decide) (by have h8 : (x.ws.take k).length ≤ k := List.length_take_le _ _; rw [List.length_map,List.length_singleton]; omega) rfl fun p80 c80 Y w82 U m82 =>?_)
  refine goCh U (.fieldAddr (off := 10) rfl U51 rfl (s := 0) (by kernel_rfl) rfl .nil) fun Y U =>?_
  refine plz (st1 U m82 6 fct12 fun w84 m84 _ =>?_)
  refine znl (hK7 _ _ ?_)
  replace U := U.oz [2,3,34,35,36]
  refine wp_region_lit ?_
  refine goCh U (.inc (k + 1)<|.move rfl .nil) fun Y U =>?_
  refine wpList_nil ?_
  show ∃ n',n' < _ ∧ _
  rw [show ((x.ws.take k).map wrD) ++ [[.v (.int .i64 ((k + 1 : Nat) : Int)),.l 2 (xl.map itD)]] = ((x.ws.take (k + 1)).map wrD) from wr_snoc9 hes hsq] at m84
  exact ⟨x.ws.length - (k + 1),by omega,k + 1,_,_,_,_,_,_,_,_,_,_,_,_,by omega,rfl,U.only [2,3,34,35,36],m84.ren [(1,1),(2,2),(5,5),(6,6),(7,7),(8,8),(9,9),(10,10)] (by decide)⟩
 intro hb62 U; try simp only [QQ,Qax] at hb62
 revert U
 obtain rfl : k = x.ws.length := by have := hb62; first | omega | (simp at this; omega)
 intro U
 refine wcf U ?_
 refine wp_exit ?_
 refine hK4 _ _ ?_
 refine zsr fun K9 hK9 =>?_
 refine goCh U (.loadBR m60 (i := 6) rfl rfl U51 rfl fct13 (by simp) (by dsimp only [List.drop,List.take] <;> rfl) .nil) fun Y U =>?_
 refine plz (stw U m60 5 fct13 fun w90 m90 _ =>?_)
 refine znl (hK9 _ _ ?_)
 refine rtd (retC (fn := Tryz.f61) U m90 (i := 5) rfl rfl rfl U51 rfl fct13 ?_)
 have m91 := m90.freezeR 9 rfl
 rw [List.take_length] at m91 ⊢
 exact ⟨_,_,_,_,_,_,_,_,rfl,m91.ren [(1,1),(2,2),(3,7),(4,8),(5,9)] (by decide)⟩
end
section
structure Tl where
 id : Int
 c : Cm
 fr : Int
 to : Int
 e9 : Int
 rl : Int
 rf : Int
 rn : Int
 da : List Int
def tlD (t : Tl) : List D := [.v (.int .i64 t.id),.v (.int .i64 t.c.kd),.v (.int .i64 t.c.vo),.v (.int .i64 t.c.bl),.v (.int .i64 t.c.sz),.v (.int .i64 t.c.pe),.ns .i64 t.c.pl,.v (.int .i64 t.c.to),.v (.int .i64 t.c.at0),.v (.int .i64 t.c.ix),.l 2 (t.c.its.map itD),.v (.int .i64 t.fr),.v (.int .i64 t.to),.v (.int .i64 t.e9),.v (.int .i64 t.rl),.v (.int .i64 t.rf),.v (.int .i64 t.rn),.ns .u8 t.da]
def ansB (t : Tl) : Bool := decide (0 ≤ t.to) && decide (t.fr ≤ t.to)
def graB (t : Tl) : Bool := ansB t && decide (t.e9 = 0)
def isB (t : Tl) (l : List Int) : Bool := decide (t.c.kd ∈ l)
def seeB (t : Tl) : Bool := graB t && isB t [2,6,8]
def upB (a b : Tl) : Bool := if isB b [2] = true then decide (a.rl < b.rl) else decide (a.rl ≤ b.rl)
set_option maxRecDepth 100000
set_option maxHeartbeats 4000000
end
section
def tolB (v : VolV) (t : Tl) : Bool := !(graB t && isB t [2,6]) || (decide (1 ≤ t.rl) && decide (t.rl ≤ v.ws.length) && (!(isB t [2]) || decide (t.c.its = (v.ws.getD (t.rl - 1).toNat (0,[])).2)))
def unl1 (a b : Tl) : Bool := !(graB a && isB a [2] && graB b && isB b [2] && decide (a.rl = b.rl))
def unlP (l : List Tl) (k : Nat) : Prop := ∀ i,i < k → ∀ j,j < i → ∀ a b,l[i]? = some a → l[j]? = some b → unl1 a b = true
def unlL (l : List Tl) : Bool := (List.range l.length).all fun i => (List.range i).all fun j => match l[i]?,l[j]? with | some a,some b => unl1 a b | _,_ => true
def int1 (a b : Tl) : Bool := !(seeB a && seeB b && decide (a.to < b.fr) && !(upB a b))
def intL (l : List Tl) : Bool := l.all fun a => l.all (int1 a)
def ask1 (w : Int × List (Int × List Int)) (t : Tl) : Bool := isB t [2,6] && decide (t.c.its = w.2)
def askL (l : List Tl) (v : VolV) : Bool := v.ws.all fun w => l.any (ask1 w)
def ofB (v : VolV) (t : Tl) : Bool := decide (t.c.vo = v.vo)
def ordB (l : List Tl) (v : VolV) : Bool := (l.filter (ofB v)).all (tolB v) && unlL (l.filter (ofB v)) && intL (l.filter (ofB v)) && askL (l.filter (ofB v)) v
set_option maxRecDepth 100000
set_option maxHeartbeats 4000000
end
section
theorem fl38crx : flatS Tryz.prog 38 [.int .i64 0,.int .i64 0,.int .i64 0,.int .i64 0,.int .i64 0,.slice none 0 0,.int .i64 0,.int .i64 0,.int .i64 0,.slice none 0 0] = true := by kernel_rfl
def cmD (x : Cm) : List D := [.v (.int .i64 x.kd),.v (.int .i64 x.vo),.v (.int .i64 x.bl),.v (.int .i64 x.sz),.v (.int .i64 x.pe),.ns .i64 x.pl,.v (.int .i64 x.to),.v (.int .i64 x.at0),.v (.int .i64 x.ix),.l 2 (x.its.map itD)]
theorem cmD_get {l : List Cm} {k : Nat} {x : Cm} (h : l[k]? = some x) : (l.map cmD)[k]? = some [.v (.int .i64 x.kd),.v (.int .i64 x.vo),.v (.int .i64 x.bl),.v (.int .i64 x.sz),.v (.int .i64 x.pe),.ns .i64 x.pl,.v (.int .i64 x.to),.v (.int .i64 x.at0),.v (.int .i64 x.ix),.l 2 (x.its.map itD)] := by rw [List.getElem?_map,h]; rfl
open Classical in
noncomputable def repL (cs : List Cm) : List VolV := cs.foldl (fun L c => if CmdR c then (mApp L c).1 else L) []
theorem mApp_s {n : Nat} {L L' : List VolV} {c : Cm} {e9 rl rf rn : Int} (h : mApp L c = (L',e9,rl,rf,rn)) (hV : ∀ y ∈ L,VolS n y) (hb : ∀ e ∈ c.its,BytesL e.2) : (∀ y ∈ L',VolS (n + 1) y) ∧ L'.length ≤ L.length + 1 := by
 have same : L' = L → (∀ y ∈ L',VolS (n + 1) y) ∧ L'.length ≤ L.length + 1 := fun e => by subst e; exact ⟨fun y hy => (hV y hy).up (by omega),by omega⟩
 unfold mApp at h
 split at h
 · split at h
   · exact same (Prod.mk.inj h).1.symm
   split at h
   · rename_i hN
     have e := (Prod.mk.inj h).1
     subst e
     refine ⟨fun y hy =>?_,by simp⟩
     rcases List.mem_append.1 hy with hy | hy
     · exact (hV y hy).up (by omega)
     simp at hy; subst hy; exact newV_s hN
   exact same (Prod.mk.inj h).1.symm
 split at h
 · exact same (Prod.mk.inj h).1.symm
 rename_i j hf
 have e := (Prod.mk.inj h).1
 subst e
 obtain ⟨hjl,_,_⟩ := List.findIdx?_eq_some_iff_getElem.1 hf
 refine ⟨fun y hy =>?_,by simp⟩
 rcases List.mem_or_eq_of_mem_set hy with hy | hy
 · exact (hV y hy).up (by omega)
 subst hy
 exact (doV_s (hV (L.getD j volZ) (by rw [List.getD,List.getElem?_eq_getElem hjl]; exact List.getElem_mem hjl)) hb).1
set_option maxRecDepth 100000
set_option maxHeartbeats 4000000
theorem create_e (vx bx sx px to : Int) (w0 : World) (hv : 0 ≤ vx ∧ vx ≤ 255) (hb : 0 ≤ bx ∧ bx ≤ 255) (hs : 0 ≤ sx ∧ sx ≤ 255) (hp : 0 ≤ px ∧ px ≤ 255) :
   Calls Tryz.prog 42 #[.int .u8 vx,.int .u8 bx,.int .u8 sx,.int .u8 px,.int .i64 to] w0 fun e w' => ∃ (bl sz pe : Int) (pl : List Int) (p : Option Addr) (c : Nat),e = .returned (.agg #[.int .i64 1,.int .i64 (vx.tmod 3),.int .i64 bl,.int .i64 sz,.int .i64 pe,.slice p pl.length c,.int .i64 to,.int .i64 0,.int .i64 0,.slice none 0 0]) ∧ bl = bx.tmod 9 + 1 ∧ sz = sx.tmod 3 + 1 ∧ 1 ≤ pe ∧ pe ≤ bl ∧ PlaceOk bl pe pl ∧ pl.length ≤ 9 ∧ Rd (New w0) w' (.slice p pl.length c) (.ns .i64 pl) ∧ Below w0.heap.size w0 w' := by
 refine ent5 Tryz.func42 rfl Tryz.ntmps42 fun Y U =>?_
 have m0 := MemOk.start (fun _ => False) w0
 obtain ⟨vm,hvm,hvmb⟩ : ∃ x : Int,vx.tmod 3 = x ∧ 0 ≤ x ∧ x ≤ 2 := ⟨_,rfl,by rw [Int.tmod_eq_emod_of_nonneg (by omega)]; omega,by rw [Int.tmod_eq_emod_of_nonneg (by omega)]; omega⟩
 obtain ⟨b0,hb0,hb0b⟩ : ∃ x : Int,bx.tmod 9 = x ∧ 0 ≤ x ∧ x ≤ 8 := ⟨_,rfl,by rw [Int.tmod_eq_emod_of_nonneg (by omega)]; omega,by rw [Int.tmod_eq_emod_of_nonneg (by omega)]; omega⟩
 obtain ⟨s0,hs0,hs0b⟩ : ∃ x : Int,sx.tmod 3 = x ∧ 0 ≤ x ∧ x ≤ 2 := ⟨_,rfl,by rw [Int.tmod_eq_emod_of_nonneg (by omega)]; omega,by rw [Int.tmod_eq_emod_of_nonneg (by omega)]; omega⟩
 obtain ⟨bl,hbl⟩ : ∃ x : Int,b0 + 1 = x := ⟨_,rfl⟩
 obtain ⟨sz,hsz⟩ : ∃ x : Int,s0 + 1 = x := ⟨_,rfl⟩
 obtain ⟨pm,hpm,hpm1,hpm2⟩ : ∃ x : Int,px.tmod bl = x ∧ 0 ≤ x ∧ x < bl := ⟨_,rfl,by rw [Int.tmod_eq_emod_of_nonneg (by omega)]; exact Int.emod_nonneg _ (by omega),by rw [Int.tmod_eq_emod_of_nonneg (by omega)]; exact Int.emod_lt_of_pos _ (by omega)⟩
 obtain ⟨cc,hcc⟩ : ∃ x : Int,(bl + (pm + 1) - 1) / (pm + 1) = x := ⟨_,rfl⟩
 have hccb : 0 ≤ cc ∧ cc ≤ 9 := by
   rw [← hcc]
   have h1 := Int.ediv_nonneg (show 0 ≤ bl + (pm + 1) - 1 by omega) (show 0 ≤ pm + 1 by omega)
   refine ⟨h1,?_⟩
   have h2 : (bl + (pm + 1) - 1) / (pm + 1) < 10 := Int.ediv_lt_of_lt_mul (by omega) (by have h10 : 10 * (pm + 1) = 10 * pm + 10 := (by omega); omega)
   omega
 refine zsr fun K0 hK0 =>?_
 refine plz (e_alloc U m0 20 fct23 rfl fun g1 Y w2 U m2 _ _ =>?_)
 refine znl (hK0 _ _ ?_)
 refine zsr fun K1 hK1 =>?_
 refine goCh U (.move rfl<|.rem rfl rfl (by decide) (r := vm) hvm<|.conv rfl U5 U3 (r := vm) (IntWalk.i64_in _ (by omega))<|.move rfl<|.rem rfl rfl (by decide) (r := b0) hb0<|.conv rfl U5 U3 (r := b0) (IntWalk.i64_in _ (by omega))<|.add rfl rfl (r := bl) (by rw [hbl]; exact (IntWalk.i64_in _ (by omega)))<|.move rfl<|.rem rfl rfl (by decide) (r := s0) hs0<|.conv rfl U5 U3 (r := s0) (IntWalk.i64_in _ (by omega))<|.add rfl rfl (r := sz) (by rw [hsz]; exact (IntWalk.i64_in _ (by omega)))<|.move rfl<|.build rfl fct23 fl38crx rfl (by dsimp only [setL,List.set] <;> rfl) .nil) fun Y U =>?_
 refine plz (e_alloc U m2 21 fct23 rfl fun g29 Y w30 U m30 _ _ =>?_)
 refine plz (stw U m30 21 fct18 fun w31 m31 _ =>?_)
 refine znl (hK1 _ _ ?_)
 replace U := U.oz [3,10,11]
 refine zsr fun K2 hK2 =>?_
 refine goCh U (.move rfl<|.conv rfl U5 U3 (r := px) (IntWalk.i64_in _ (by omega))<|.fa 2 rfl U38<|.lb m31 21 U3 rfl rfl rfl<|.rem rfl rfl (by omega) (r := pm) hpm<|.add rfl rfl (r := pm + 1) (IntWalk.i64_in _ (by omega))<|.fa 4 rfl U38 .nil) fun Y U =>?_
 refine plz (st1 U m31 21 fct17 fun w47 m47 _ =>?_)
 refine znl (hK2 _ _ ?_)
 refine wsk fun K3 hK3 =>?_
 replace U := U.oz [3,10,11]
 refine regS U (.assign rfl .nil) fun Y U =>?_
 refine wp_block ?_
 refine wp_loop_ghost (fun g a w => ∃ (i A D : Nat) (q : Option Addr) (c : Nat),(i : Int) ≤ cc ∧ g = cc.toNat - i ∧ Has 54 [(3,.int .u8 px),(10,.pointer (some ⟨A,0,none⟩)),(11,.pointer (some ⟨D,0,none⟩)),(12,.int .i64 (i : Int))] a ∧ MemOk (cn w0) w0 [(8,.box A 38 [.int .i64 0,.int .i64 0,.int .i64 0,.int .i64 0,.int .i64 0,.slice none 0 0,.int .i64 0,.int .i64 0,.int .i64 0,.slice none 0 0]),(9,.box D 38 [.int .i64 1,.int .i64 vm,.int .i64 bl,.int .i64 sz,.int .i64 (pm + 1),.slice q (crL px i).length c,.int .i64 to,.int .i64 0,.int .i64 0,.slice none 0 0]),(10,.num (.slice q (crL px i).length c) 3 .i64 (crL px i))] w) (cc.toNat) ?_ ?_
 · have mz := m47.nilN 10 3 .i64
   exact ⟨0,_,_,_,_,by omega,rfl,U.only [3,10,11,12],mz.ren [(8,20),(9,21),(10,10)] (by decide)⟩
 clear U m47
 rintro g Y w50 ⟨i,A,D,q,c,hic,hg,U,m50⟩
 refine wsk fun K4 hK4 =>?_
 refine zsr fun K5 hK5 =>?_
 refine goCh U (.move rfl<|.fa 2 rfl U38<|.lb m50 9 U3 rfl rfl rfl<|.fa 4 rfl U38<|.lb m50 9 U3 rfl rfl rfl .nil) fun Y U =>?_
 refine plz (ecb U Tryz.func91 rfl m50 (chunks_any bl (pm + 1) _ (by omega) (by omega)) fun Y w61 U m62 =>?_)
 refine gz hK5 U (.lss rfl rfl .nil) fun Y U =>?_
 refine bc U 39 ?_ ?_
 ·
  intro hb65 U; try simp only [QQ,Qax] at hb65
  rw [hcc] at hb65
  have hi9 : (i : Int) < cc := by omega
  refine wct U ?_
  refine zss (hK4 _ _ ?_)
  refine wsk fun K6 hK6 =>?_
  refine wp_block ?_
  replace U := U.oz [3,10,11,12,38]
  refine wp_region_lit ?_
  refine goCh U (.fa 5 rfl U38<|.lb m62 9 U35 rfl rfl rfl<|.move rfl<|.move rfl<|.conv rfl U5 U3 (r := px) (IntWalk.i64_in _ (by omega))<|.add rfl rfl (r := (i : Int) + px) (IntWalk.i64_in _ (by omega))<|.rem rfl rfl (by decide) (Int.tmod_eq_emod_of_nonneg (by omega))<|.add rfl rfl (r := 1 + ((i : Int) + px) % 2) (IntWalk.i64_in _ (by omega)) .nil) fun Y U =>?_
  refine plz (e_litN U m62 100 (k := .i64) rfl rfl U35 fct16 rfl rfl rfl rfl fun g75 Y w76 U m76 =>?_)
  refine plz (e_appN U m76 10 rfl rfl rfl (m76.numsO (i := 100) rfl) U35 fct16 (by decide) (by simp [crL_len]; omega) rfl fun p77 c77 Y w78 U m78 =>?_)
  refine goCh U (.fieldAddr (off := 5) rfl U38 rfl (s := 0) (by kernel_rfl) rfl .nil) fun Y U =>?_
  refine plz (st1 U m78 9 fct10 fun w80 m80 _ =>?_)
  refine znl (hK6 _ _ ?_)
  replace U := U.oz [3,10,11,12,38]
  refine wp_region_lit ?_
  refine goCh U (.move rfl<|.inc (i + 1)<|.assign rfl .nil) fun Y U =>?_
  refine wpList_nil ?_
  show ∃ n',n' < _ ∧ _
  have hE : crL px i ++ [1 + ((i : Int) + px) % 2] = crL px (i + 1) := (crL_snoc px i).symm
  rw [hE] at m80
  exact ⟨cc.toNat - (i + 1),by omega,i + 1,_,_,_,_,by omega,rfl,U.only [3,10,11,12],m80.only [8,9,10]⟩
 intro hb65 U; try simp only [QQ,Qax] at hb65
 rw [hcc] at hb65
 have hi9 : (i : Int) = cc := by omega
 refine wcf U ?_
 refine wp_exit ?_
 refine hK3 _ _ ?_
 replace U := U.oz [3,10,11,12,38]
 refine zsr fun K7 hK7 =>?_
 refine goCh U (.loadBR m62 (i := 9) rfl rfl U38 rfl fct18 (by simp) (by dsimp only [List.drop,List.take] <;> rfl) .nil) fun Y U =>?_
 refine plz (stw U m62 8 fct18 fun w88 m88 _ =>?_)
 refine znl (hK7 _ _ ?_)
 refine rtd (retC (fn := Tryz.f42) U m88 (i := 8) rfl rfl rfl U38 rfl fct18 ?_)
 have m89 := m88.freezeN 10 rfl
 exact ⟨bl,sz,pm + 1,crL px i,_,_,by rw [hvm],by omega,by omega,by omega,by omega,⟨crL_ok px i,by rw [crL_len,hcc]; exact hi9⟩,by rw [crL_len]; omega,m89.outF (i := 10) rfl,m89.below⟩
theorem rDo_v (X : Cx) (x : VolV) (c : Cm) (n : Nat) (hx : VolS n x) (hn : n ≤ 800000) (hil : c.its.length ≤ 1000000) (hio : ItsOk c.its) (p1 p2 p3 q1 pi : Option Addr) (c1 c2 c3 n1 d1 ci : Nat) (v1 v2 v3 v4 v5 : Int) (w0 : World) (m0 : MemOk X w0 [(1,.dat (.slice p1 x.place.length c1) (.ns .i64 x.place)),(2,.dat (.slice p2 x.pins.length c2) (.ns .i64 x.pins)),(3,.dat (.slice p3 (x.ws.map wrD).length c3) (.l 2 (x.ws.map wrD))),(4,.dat (.slice pi c.its.length ci) (.l 2 (c.its.map itD)))] w0) :
   Calls Tryz.prog 40 #[.agg #[.int .i64 x.vo,.int .i64 x.bl,.int .i64 x.sz,.int .i64 x.pe,.slice p1 x.place.length c1,.int .i64 x.to,.int .i64 x.ne,.bool x.hi,.int .i64 x.fl,.slice p2 x.pins.length c2,.slice p3 (x.ws.map wrD).length c3],.agg #[.int .i64 c.kd,.int .i64 v1,.int .i64 v2,.int .i64 v3,.int .i64 v4,.slice q1 n1 d1,.int .i64 v5,.int .i64 c.at0,.int .i64 c.ix,.slice pi c.its.length ci]] w0 fun e w' => ∃ (y : VolV) (e9 rl rf rn : Int) (p1 p2 p3 : Option Addr) (d1 d2 d3 : Nat),e = .returned (.tuple #[.agg #[.int .i64 y.vo,.int .i64 y.bl,.int .i64 y.sz,.int .i64 y.pe,.slice p1 y.place.length d1,.int .i64 y.to,.int .i64 y.ne,.bool y.hi,.int .i64 y.fl,.slice p2 y.pins.length d2,.slice p3 (y.ws.map wrD).length d3],.agg #[.int .i64 e9,.int .i64 rl,.int .i64 rf,.int .i64 rn,.slice none 0 0]]) ∧ doV x c = (y,e9) ∧ repV y e9 = (rl,rf,rn) ∧ MemOk X w0 [(1,.dat (.slice p1 y.place.length d1) (.ns .i64 y.place)),(2,.dat (.slice p2 y.pins.length d2) (.ns .i64 y.pins)),(3,.dat (.slice p3 (y.ws.map wrD).length d3) (.l 2 (y.ws.map wrD)))] w' := by
 obtain ⟨vo,bl,sz,pe,place,to,ne,hi,fl,pins,ws⟩ := x
 obtain ⟨kd,cvo,cbl,csz,cpe,cpl,cto,at0,ix,its⟩ := c
 obtain ⟨h1,h2,h3,h4,h5⟩ := hx
 simp only at *
 have hne : -1000000000000000 ≤ ne ∧ ne ≤ 1000000000000000 := by
   obtain ⟨⟨a1,a2,a3,a4,a5,a6,a7,a8,a9,a10,a11⟩,b1,b2,b3⟩ := h1
   omega
 by_cases k4 : kd = 4
 · subst k4
   refine (rDo4 X vo bl sz pe to ne fl hi place pins ws p1 p2 p3 c1 c2 c3 v1 v2 v3 v4 v5 at0 ix q1 n1 d1 pi its.length ci w0 (by omega) h1.sorted (m0.only [1,2,3])).mono ?_
   rintro e w' ⟨pins',e9,rl,rf,rn,p2',d2',rfl,hd,hr,m⟩
   refine ⟨⟨vo,bl,sz,pe,place,to,ne,hi,fl,pins',ws⟩,e9,rl,rf,rn,_,_,_,_,_,_,rfl,?_,repV_of hr,m.ren [(1,1),(2,6),(3,3)] (by decide)⟩
   simp only [doV,if_true,hd]
 by_cases k5 : kd = 5
 · subst k5
   refine (rDo5 X vo bl sz pe to ne fl hi place pins ws p1 p2 p3 c1 c2 c3 v1 v2 v3 v4 v5 at0 ix q1 n1 d1 pi its.length ci w0 (by omega) (m0.only [1,2,3])).mono ?_
   rintro e w' ⟨pins',e9,rl,rf,rn,p2',d2',rfl,hd,hr,m⟩
   refine ⟨⟨vo,bl,sz,pe,place,to,ne,hi,fl,pins',ws⟩,e9,rl,rf,rn,_,_,_,_,_,_,rfl,?_,repV_of hr,m.ren [(1,1),(2,6),(3,3)] (by decide)⟩
   simp only [doV,hd]; rfl
 refine (rDo X vo bl sz pe to ne fl hi place pins ws its p1 p2 p3 c1 c2 c3 pi ci kd v1 v2 v3 v4 v5 at0 ix q1 n1 d1 w0 k4 k5 hne (by omega) (by omega) hil hio m0).mono ?_
 rintro e w' ⟨ne',hi',fl',ws',e9,rl,rf,rn,p3',d3',rfl,hd,hr,m⟩
 refine ⟨⟨vo,bl,sz,pe,place,to,ne',hi',fl',pins,ws'⟩,e9,rl,rf,rn,_,_,_,_,_,_,rfl,?_,repV_of hr,m.ren [(1,1),(2,2),(3,7)] (by decide)⟩
 simp only [doV,if_neg k4,if_neg k5,hd]
end
end Go.Proofs.YtkehgingagggaaaGreat.K
