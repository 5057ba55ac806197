/- General laws of walks. -/
import Derived.Test.YtkehgingagggaaaGreatG7
import Derived.Test.YtkehgingagggaaaGreatG4
namespace Go.Proofs.YtkehgingagggaaaGreat.K
open Go.ChangeShapes Go.WideShapes Go.ChangeAt Go.RowKit
set_option linter.unusedVariables false
set_option linter.unusedSimpArgs false
section
theorem fl38rt : flatS Tryz.prog 38 [.int .i64 0,.int .i64 0,.int .i64 0,.int .i64 0,.int .i64 0,.slice none 0 0,.int .i64 0,.int .i64 0,.int .i64 0,.slice none 0 0] = true := by kernel_rfl
abbrev w1 : Int × List (Int × List Int) := (0,[])
theorem getW {l : List (Int × List (Int × List Int))} {k : Nat} {e : Int × List (Int × List Int)} (h : l[k]? = some e) : l.getD k w1 = e := by rw [List.getD,h]; rfl
def lastP (fl : Int) (pins : List Int) : Nat → Int
 | 0 => fl
 | k + 1 => pins.getD k 0
def PinsPre (fl : Int) (n : Nat) (pins : List Int) (k : Nat) : Prop := ∀ j,j < k → lastP fl pins j ≤ pins.getD j 0 ∧ pins.getD j 0 ≤ n
theorem pins_snoc {fl : Int} {n : Nat} {pins : List Int} {k : Nat} (h : PinsPre fl n pins k) (h1 : lastP fl pins k ≤ pins.getD k 0) (h2 : pins.getD k 0 ≤ n) : PinsPre fl n pins (k + 1) := fun j hj => by
 rcases Nat.lt_or_ge j k with h3 | h3
 · exact h j h3
 obtain rfl : j = k := by omega
 exact ⟨h1,h2⟩
def lowL (n : Nat) (pins : List Int) : Int := pins.foldl min (n : Int)
theorem low_snoc {n : Nat} {pins : List Int} {k : Nat} (hk : k < pins.length) : min (lowL n (pins.take k)) (pins.getD k 0) = lowL n (pins.take (k + 1)) := by
 rw [List.take_succ_eq_append_getElem hk,lowL,lowL,List.foldl_append,List.getD,List.getElem?_eq_getElem hk]; rfl
def WrPre (bl sz : Int) (ws : List (Int × List (Int × List Int))) (k : Nat) : Prop := ∀ j,j < k → (ws.getD j w1).1 = j + 1 ∧ ItemsR bl sz (ws.getD j w1).2
theorem wr_snoc {bl sz : Int} {ws : List (Int × List (Int × List Int))} {k : Nat} {xs : Int} {xl : List (Int × List Int)} (h : WrPre bl sz ws k) (hes : ws[k]? = some (xs,xl)) (h1 : xs = k + 1) (h2 : ItemsR bl sz xl) : WrPre bl sz ws (k + 1) := fun j hj => by
 rcases Nat.lt_or_ge j k with h3 | h3
 · exact h j h3
 obtain rfl : j = k := by omega
 rw [getW hes]; exact ⟨h1,h2⟩
def VolR (vo bl sz pe to ne fl : Int) (hi : Bool) (place pins : List Int) (ws : List (Int × List (Int × List Int))) : Prop := NewOk vo bl sz pe to place ∧ 0 ≤ ne ∧ ne ≤ to ∧ (hi = true → to ≠ 0) ∧ (hi = false → ne = to) ∧ 0 ≤ fl ∧ fl ≤ ws.length ∧ PinsPre fl ws.length pins pins.length ∧ WrPre bl sz ws ws.length
set_option maxRecDepth 100000
set_option maxHeartbeats 4000000
theorem vnew_yes (kd vo bl sz pe to at0 ix : Int) (place : List Int) (pp pi : Option Addr) (cp ni ci : Nat) (w0 : World) (h0 : Rd (fun _ => True) w0 (.slice pp place.length cp) (.ns .i64 place)) (hn : place.length ≤ 1000000) (hN : NewOk vo bl sz pe to place) :
   Calls Tryz.prog 95 #[.agg #[.int .i64 kd,.int .i64 vo,.int .i64 bl,.int .i64 sz,.int .i64 pe,.slice pp place.length cp,.int .i64 to,.int .i64 at0,.int .i64 ix,.slice pi ni ci]] w0 fun e w' => ∃ p c,e = .returned (.tuple #[.agg #[.int .i64 vo,.int .i64 bl,.int .i64 sz,.int .i64 pe,.slice p place.length c,.int .i64 to,.int .i64 0,.bool (decide (0 < to)),.int .i64 0,.slice none 0 0,.slice none 0 0],.int .i64 0]) ∧ Rd (New w0) w' (.slice p place.length c) (.ns .i64 place) ∧ Below w0.heap.size w0 w' :=
 (vnew_any kd vo bl sz pe to at0 ix place pp pi cp ni ci w0 h0 hn).mono (fun _ _ h => h.elim (fun h => h.2) (fun h => absurd hN h.1))
theorem vnew_no (kd vo bl sz pe to at0 ix : Int) (place : List Int) (pp pi : Option Addr) (cp ni ci : Nat) (w0 : World) (h0 : Rd (fun _ => True) w0 (.slice pp place.length cp) (.ns .i64 place)) (hn : place.length ≤ 1000000) (hN : ¬ NewOk vo bl sz pe to place) :
   Calls Tryz.prog 95 #[.agg #[.int .i64 kd,.int .i64 vo,.int .i64 bl,.int .i64 sz,.int .i64 pe,.slice pp place.length cp,.int .i64 to,.int .i64 at0,.int .i64 ix,.slice pi ni ci]] w0 fun e w' => e = .returned (.tuple #[.agg #[.int .i64 0,.int .i64 0,.int .i64 0,.int .i64 0,.slice none 0 0,.int .i64 0,.int .i64 0,.bool false,.int .i64 0,.slice none 0 0,.slice none 0 0],.int .i64 23]) ∧ Below w0.heap.size w0 w' :=
 (vnew_any kd vo bl sz pe to at0 ix place pp pi cp ni ci w0 h0 hn).mono (fun _ _ h => h.elim (fun h => absurd h.1 hN) (fun h => h.2))
theorem vitems_nn (bl sz : Int) (l : List (Int × List Int)) (p : Option Addr) (nn c : Nat) (w0 : World) (h0 : Rd (fun _ => True) w0 (.slice p nn c) (.l 2 (l.map itD))) (hl : l.length ≤ 1000000) :
   Calls Tryz.prog 113 #[.int .i64 bl,.int .i64 sz,.slice p nn c] w0 fun e w' => ∃ b : Bool,e = .returned (.bool b) ∧ (b = true ↔ ItemsR bl sz l) ∧ Below w0.heap.size w0 w' := by
 obtain rfl : nn = l.length := by obtain ⟨pq,cq,hv,_⟩ := h0.l_shape; injection hv with _ e2 _; rw [List.length_map] at e2; exact e2
 exact vitems_any bl sz l p c w0 h0 hl
theorem pins_any (vo bl sz pe to ne fl : Int) (hi : Bool) (place pins : List Int) (ws : List (Int × List (Int × List Int))) (pp pn pw : Option Addr) (cp cn9 cw : Nat) (w0 : World) (h1 : Rd (fun _ => True) w0 (.slice pn pins.length cn9) (.ns .i64 pins)) (hp : pins.length ≤ 1000000) :
   Calls Tryz.prog 112 #[.agg #[.int .i64 vo,.int .i64 bl,.int .i64 sz,.int .i64 pe,.slice pp place.length cp,.int .i64 to,.int .i64 ne,.bool hi,.int .i64 fl,.slice pn pins.length cn9,.slice pw ws.length cw]] w0 fun e w' => ∃ b : Bool,e = .returned (.bool b) ∧ (b = true ↔ PinsPre fl ws.length pins pins.length) ∧ Below w0.heap.size w0 w' := by
 refine ent1 Tryz.func112 rfl Tryz.ntmps112 fun Y U =>?_
 have m0 := MemOk.start (fun _ => False) w0
 refine zsr fun K0 hK0 =>?_
 refine plz (e_box U m0 20 (cs := [_,_,_,_,_,_,_,_,_,_,_]) rfl rfl rfl fun g1 Y w2 U m2 _ _ =>?_)
 refine gz hK0 U (.assign rfl .nil) fun Y U =>?_
 refine regS U (.fa 8 rfl U51<|.lb m2 20 U2 rfl rfl rfl<|.assign rfl .nil) fun Y U =>?_
 refine wsk fun K1 hK1 =>?_
 refine regS U (.fa 9 rfl U51<|.lb m2 20 U48 rfl rfl rfl<|.len rfl U48<|.move rfl .nil) fun Y U =>?_
 refine wp_block ?_
 refine wp_loop_ghost (fun g a w => ∃ (k B : Nat),k ≤ pins.length ∧ g = pins.length - k ∧ PinsPre fl ws.length pins k ∧ Has 26 [(1,.pointer (some ⟨B,0,none⟩)),(3,.int .i64 (lastP fl pins k)),(9,.slice pn pins.length cn9),(10,.int .i64 pins.length),(11,.int .i64 k)] a ∧ MemOk (cn w0) w0 [(9,.box B 51 [.int .i64 vo,.int .i64 bl,.int .i64 sz,.int .i64 pe,.slice pp place.length cp,.int .i64 to,.int .i64 ne,.bool hi,.int .i64 fl,.slice pn pins.length cn9,.slice pw ws.length cw])] w) (pins.length) ?_ ?_
 · exact ⟨0,_,Nat.zero_le _,rfl,(fun j hj => by omega),U.only [1,3,9,10,11],m2.ren [(9,20)] (by decide)⟩
 clear U m2
 rintro g Y w11 ⟨k,B,hkl,hg,hall,U,m11⟩
 refine regS U (.lss rfl rfl .nil) fun Y U =>?_
 refine wsk fun K2 hK2 =>?_
 refine bc U 12 ?_ ?_
 ·
  intro hb13 U; try simp only [QQ,Qax] at hb13
  have hk : k < pins.length := by omega
  refine wct U ?_
  refine zss (hK2 _ _ ?_)
  refine wsk fun K3 hK3 =>?_
  refine wp_block ?_
  refine zsr fun K4 hK4 =>?_
  obtain ⟨gx15,ox15,hp15,hl15,hrg15⟩ := h1.extN (k) hk
  revert U
  cases hp15
  intro U
  refine gz hK4 U (.c rfl (fun _ h_ => y_idx h_ rfl rfl U48 fct22 (k) rfl hk)<|.loadAt1 (hrg15 m11 rfl) (q := 0) rfl rfl rfl U2 rfl<|.assign rfl<|.nil) fun Y U =>?_
  refine wsk fun K5 hK5 =>?_
  refine zsr fun K6 hK6 =>?_
  refine goCh U (.move rfl<|.move rfl<|.lss rfl rfl<|.move rfl .nil) fun Y U =>?_
  refine bc U 18 ?_ ?_
  ·
   intro hb27 U; try simp only [QQ,Qax] at hb27
   refine gz hK6 U (.sk<|.sk<|.sk<|.sk<|.pickT rfl rfl<|.nil) fun Y U =>?_
   refine wct U ?_
   replace U := U.oz [1,3,9,10,11,5]
   refine regS U (.assign rfl .nil) fun Y U =>?_
   refine rt1 U ?_
   exact ⟨false,rfl,iff_of_false (by simp) (fun h => by have h9 := h k hk; omega),m11.below⟩
  intro hb27 U; try simp only [QQ,Qax] at hb27
  refine goCh U (.moveZ rfl<|.loadBRZ m11 (i := 9) rfl rfl U51 rfl fct13 (by simp) (by dsimp only [List.drop,List.take] <;> rfl) .nil) fun Y U =>?_
  refine stz U (ecb U Tryz.func111 rfl m11 (vlen_any _ _ _ _ _ _ _ _ _ _ _ _ _ _ _ _ _ _) fun Y w37 U m38 =>?_)
  refine gz hK6 U (.gtrZ rfl rfl<|.pickF rfl rfl<|.nil) fun Y U =>?_
  refine bc U 23 ?_ ?_
  ·
   intro hb42 U; try simp only [QQ,Qax] at hb42
   refine wct U ?_
   replace U := U.oz [1,3,9,10,11,5]
   refine regS U (.assign rfl .nil) fun Y U =>?_
   refine rt1 U ?_
   exact ⟨false,rfl,iff_of_false (by simp) (fun h => by have h9 := h k hk; omega),m38.below⟩
  intro hb42 U; try simp only [QQ,Qax] at hb42
  refine wcf U ?_
  refine zss (hK5 _ _ ?_)
  replace U := U.oz [1,3,9,10,11,5]
  refine wp_region_lit ?_
  refine gz hK3 U (.move rfl<|.assign rfl<|.nil) fun Y U =>?_
  refine wp_region_lit ?_
  refine goCh U (.inc (k + 1)<|.move rfl .nil) fun Y U =>?_
  refine wpList_nil ?_
  show ∃ n',n' < _ ∧ _
  exact ⟨pins.length - (k + 1),by omega,k + 1,_,by omega,rfl,pins_snoc hall (by omega) (by omega),U.only [1,3,9,10,11],m38.only [9]⟩
 intro hb13 U; try simp only [QQ,Qax] at hb13
 revert U
 obtain rfl : k = pins.length := by omega
 intro U
 refine wcf U ?_
 refine wp_exit ?_
 refine hK1 _ _ ?_
 refine regS U (.assign rfl .nil) fun Y U =>?_
 refine rt1 U ?_
 exact ⟨true,rfl,iff_of_true rfl hall,m11.below⟩
theorem vright_any (vo bl sz pe to ne fl : Int) (hi : Bool) (place pins : List Int) (ws : List (Int × List (Int × List Int))) (pp pn pw : Option Addr) (cp cn9 cw : Nat) (w0 : World) (h0 : Rd (fun _ => True) w0 (.slice pp place.length cp) (.ns .i64 place)) (h1 : Rd (fun _ => True) w0 (.slice pn pins.length cn9) (.ns .i64 pins)) (h2 : Rd (fun _ => True) w0 (.slice pw ws.length cw) (.l 2 (ws.map wrD))) (hn : place.length ≤ 1000000) (hp : pins.length ≤ 1000000) (hl : ws.length ≤ 1000000) (hwl : ∀ e ∈ ws,e.2.length ≤ 1000000) :
   Calls Tryz.prog 63 #[.agg #[.int .i64 vo,.int .i64 bl,.int .i64 sz,.int .i64 pe,.slice pp place.length cp,.int .i64 to,.int .i64 ne,.bool hi,.int .i64 fl,.slice pn pins.length cn9,.slice pw ws.length cw]] w0 fun e w' => ∃ b : Bool,e = .returned (.bool b) ∧ (b = true ↔ VolR vo bl sz pe to ne fl hi place pins ws) ∧ Below w0.heap.size w0 w' := by
 refine ent1 Tryz.func63 rfl Tryz.ntmps63 fun Y U =>?_
 have m0 := MemOk.start (fun _ => False) w0
 refine zsr fun K0 hK0 =>?_
 refine plz (e_box U m0 20 (cs := [_,_,_,_,_,_,_,_,_,_,_]) rfl rfl rfl fun g1 Y w2 U m2 _ _ =>?_)
 refine gz hK0 U (.assign rfl .nil) fun Y U =>?_
 refine wsk fun K1 hK1 =>?_
 by_cases hN : NewOk vo bl sz pe to place
 ·
  refine wp_region_lit ?_
  refine goCh U (.fa 0 rfl U51<|.lb m2 20 U3 rfl rfl rfl<|.fa 1 rfl U51<|.lb m2 20 U3 rfl rfl rfl<|.fa 2 rfl U51<|.lb m2 20 U3 rfl rfl rfl<|.fa 3 rfl U51<|.lb m2 20 U3 rfl rfl rfl<|.fa 4 rfl U51<|.lb m2 20 U35 rfl rfl rfl<|.fa 5 rfl U51<|.lb m2 20 U3 rfl rfl rfl<|.build rfl fct23 fl38rt rfl (by dsimp only [setL,List.set] <;> rfl) .nil) fun Y U =>?_
  refine plz (ecl U Tryz.func95 rfl (vnew_yes _ _ _ _ _ _ _ _ place _ _ _ _ _ _ ((h0.now' m2 rfl).any) hn hN) ?_)
  rintro e w17 ⟨p17,c17,rfl,hd17,hb17⟩
  have m18 := m2.callF 21 rfl hb17 hd17
  refine ⟨_,rfl,?_⟩; intro Y U
  refine goCh U (.move rfl<|.extract rfl rfl<|.extract rfl rfl .nil) fun Y U =>?_
  refine plz (e_alloc U m18 22 fct14 rfl fun g23 Y w24 U m24 _ _ =>?_)
  refine plz (stw U m24 22 fct13 fun w25 m25 _ =>?_)
  refine gz hK1 U (.assign rfl .nil) fun Y U =>?_
  refine wsk fun K2 hK2 =>?_
  replace U := U.oz [1,2,4]
  refine zsr fun K3 hK3 =>?_
  refine goCh U (.move rfl<|.neq rfl rfl<|.move rfl .nil) fun Y U =>?_
  refine bc U 26 ?_ ?_
  · intro hb _; exact absurd hb (by simp)
  clear U; intro _ U
  refine goCh U (.faZ 6 rfl U51<|.loadB1Z m25 (i := 20) rfl rfl rfl U3 rfl<|.faZ 5 rfl U51<|.loadB1Z m25 (i := 20) rfl rfl rfl U3 rfl .nil) fun Y U =>?_
  refine stz U (ecb U Tryz.func110 rfl m25 (within_any _ _ _ _) fun Y w39 U m40 =>?_)
  refine goCh U (.notZ rfl<|.pickF rfl rfl<|.move rfl .nil) fun Y U =>?_
  refine bc U 34 ?_ ?_
  ·
   intro hb45 U; try simp only [QQ,Qax] at hb45
   refine goCh U (.sk<|.sk<|.sk .nil) fun Y U =>?_
   refine st_skipU U rfl rfl rfl rfl fun Y U =>?_
   refine st_skipU U rfl rfl rfl rfl fun Y U =>?_
   refine st_skipU U rfl rfl rfl rfl fun Y U =>?_
   refine goCh U (.sk<|.pickT rfl rfl<|.move rfl<|.sk<|.sk<|.sk<|.sk .nil) fun Y U =>?_
   refine st_skipU U rfl rfl rfl rfl fun Y U =>?_
   refine st_skipU U rfl rfl rfl rfl fun Y U =>?_
   refine st_skipU U rfl rfl rfl rfl fun Y U =>?_
   refine st_skipU U rfl rfl rfl rfl fun Y U =>?_
   refine st_skipU U rfl rfl rfl rfl fun Y U =>?_
   refine gz hK3 U (.sk<|.pickT rfl rfl<|.nil) fun Y U =>?_
   refine wct U ?_
   replace U := U.oz [1,2]
   refine regS U (.assign rfl .nil) fun Y U =>?_
   refine rt1 U ?_
   exact ⟨false,rfl,iff_of_false (by simp) (fun h => by obtain ⟨v1,v2,v3,v4,v5,v6,v7,v8,v9⟩ := h; first | (have v10 := v9 k hk; rw [getW hes] at v10; have v12 := v10.1; dsimp only at v12; omega) | (have v10 := v9 k hk; rw [getW hes] at v10; have v11 := hib.2 v10.2; exact absurd (v11.symm.trans ‹ib = false›) (by decide)) | exact hN v1 | omega | (have v10 := hpb.2 v8; subst v10; first | exact absurd ‹true = false› (by decide) | exact absurd ‹(!true) = true› (by decide)) | (simp_all; done) | (simp_all; omega)),m40.below⟩
  intro hb45 U; try simp only [QQ,Qax] at hb45
  refine goCh U (.faZ 7 rfl U51<|.loadB1Z m40 (i := 20) rfl rfl rfl U4 rfl<|.moveZ rfl .nil) fun Y U =>?_
  refine bc U 37 ?_ ?_
  ·
   intro hb71 U; try simp only [QQ,Qax] at hb71
   refine goCh U (.faZ 5 rfl U51<|.loadB1Z m40 (i := 20) rfl rfl rfl U3 rfl<|.eqlZ rfl rfl<|.pickTZ rfl rfl<|.pickF rfl rfl<|.move rfl .nil) fun Y U =>?_
   refine bc U 43 ?_ ?_
   ·
    intro hb78 U; try simp only [QQ,Qax] at hb78
    refine goCh U (.sk<|.sk<|.sk<|.sk .nil) fun Y U =>?_
    refine st_skipU U rfl rfl rfl rfl fun Y U =>?_
    refine st_skipU U rfl rfl rfl rfl fun Y U =>?_
    refine st_skipU U rfl rfl rfl rfl fun Y U =>?_
    refine st_skipU U rfl rfl rfl rfl fun Y U =>?_
    refine st_skipU U rfl rfl rfl rfl fun Y U =>?_
    refine gz hK3 U (.sk<|.pickT rfl rfl<|.nil) fun Y U =>?_
    refine wct U ?_
    replace U := U.oz [1,2]
    refine regS U (.assign rfl .nil) fun Y U =>?_
    refine rt1 U ?_
    exact ⟨false,rfl,iff_of_false (by simp) (fun h => by obtain ⟨v1,v2,v3,v4,v5,v6,v7,v8,v9⟩ := h; first | (have v10 := v9 k hk; rw [getW hes] at v10; have v12 := v10.1; dsimp only at v12; omega) | (have v10 := v9 k hk; rw [getW hes] at v10; have v11 := hib.2 v10.2; exact absurd (v11.symm.trans ‹ib = false›) (by decide)) | exact hN v1 | omega | (have v10 := hpb.2 v8; subst v10; first | exact absurd ‹true = false› (by decide) | exact absurd ‹(!true) = true› (by decide)) | (simp_all; done) | (simp_all; omega)),m40.below⟩
   intro hb78 U; try simp only [QQ,Qax] at hb78
   refine goCh U (.faZ 7 rfl U51<|.loadB1Z m40 (i := 20) rfl rfl rfl U4 rfl<|.notZ rfl<|.moveZ rfl .nil) fun Y U =>?_
   refine bc U 47 ?_ ?_
   ·
    intro hb96 U; try simp only [QQ,Qax] at hb96
    refine gz hK3 U (.faZ 6 rfl U51<|.loadB1Z m40 (i := 20) rfl rfl rfl U3 rfl<|.faZ 5 rfl U51<|.loadB1Z m40 (i := 20) rfl rfl rfl U3 rfl<|.neqZ rfl rfl<|.pickTZ rfl rfl<|.pickF rfl rfl<|.nil) fun Y U =>?_
    refine bc U 54 ?_ ?_
    ·
     intro hb104 U; try simp only [QQ,Qax] at hb104
     refine wct U ?_
     replace U := U.oz [1,2]
     refine regS U (.assign rfl .nil) fun Y U =>?_
     refine rt1 U ?_
     exact ⟨false,rfl,iff_of_false (by simp) (fun h => by obtain ⟨v1,v2,v3,v4,v5,v6,v7,v8,v9⟩ := h; first | (have v10 := v9 k hk; rw [getW hes] at v10; have v12 := v10.1; dsimp only at v12; omega) | (have v10 := v9 k hk; rw [getW hes] at v10; have v11 := hib.2 v10.2; exact absurd (v11.symm.trans ‹ib = false›) (by decide)) | exact hN v1 | omega | (have v10 := hpb.2 v8; subst v10; first | exact absurd ‹true = false› (by decide) | exact absurd ‹(!true) = true› (by decide)) | (simp_all; done) | (simp_all; omega)),m40.below⟩
    intro hb104 U; try simp only [QQ,Qax] at hb104
    refine wcf U ?_
    refine zss (hK2 _ _ ?_)
    refine wsk fun K4 hK4 =>?_
    refine wsk fun K5 hK5 =>?_
    replace U := U.oz [1,2]
    have m108 := m40.oz [20,21,22]
    refine region_p 15 (B := [(20,_),(21,_),(22,_)]) (m108.to ⟨il,il,il,trivial⟩) m108 (by kernel_rfl) (fun w109 hP109 m109 =>?_); clear m108
    refine goR hP109 [0,1,2,3] [1] 4 0 15 U (m109.to ⟨il,il,il,trivial⟩) (.fa 8 rfl U51<|.lb hh 20 U2 rfl rfl rfl<|.lss rfl rfl<|.move rfl .nil) fun Y U =>?_
    refine bc U 58 ?_ ?_
    ·
     intro hb114 U; try simp only [QQ,Qax] at hb114
     refine goA hP109 [4,5,6,7,8,9,10,11,12,13,14] 11 15 32767 U (m109.to ⟨il,il,il,trivial⟩) (.s<|.s<|.s<|.s<|.s<|.pickT rfl rfl<|.move rfl<|.s<|.s<|.s<|.pickT rfl rfl .nil) fun Y U =>?_
     refine wpAnyE_done (by kernel_rfl) ?_ _
     refine hK5 _ _ ?_
     refine wct U ?_
     replace U := U.oz [1,2]
     refine regS U (.assign rfl .nil) fun Y U =>?_
     refine rt1 U ?_
     exact ⟨false,rfl,iff_of_false (by simp) (fun h => by obtain ⟨v1,v2,v3,v4,v5,v6,v7,v8,v9⟩ := h; first | (have v10 := v9 k hk; rw [getW hes] at v10; have v12 := v10.1; dsimp only at v12; omega) | (have v10 := v9 k hk; rw [getW hes] at v10; have v11 := hib.2 v10.2; exact absurd (v11.symm.trans ‹ib = false›) (by decide)) | exact hN v1 | omega | (have v10 := hpb.2 v8; subst v10; first | exact absurd ‹true = false› (by decide) | exact absurd ‹(!true) = true› (by decide)) | (simp_all; done) | (simp_all; omega)),m109.below⟩
    intro hb114 U; try simp only [QQ,Qax] at hb114
    refine goR hP109 [4,5,6] [5,6] 3 15 127 U (m109.to ⟨il,il,il,trivial⟩) (.fa 8 rfl U51<|.lb hh 20 U2 rfl rfl rfl<|.loadBR hh (i := 20) rfl rfl U51 rfl fct13 (by simp) (by dsimp only [List.drop,List.take] <;> rfl) .nil) fun Y U =>?_
    refine stepE_only 7 rfl (by kernel_rfl) (wantedG U rfl rfl rfl rfl) (fun K hK =>?_)
    refine e_call U Tryz.func111 rfl rfl rfl rfl (vlen_any _ _ _ _ _ _ _ _ _ _ _ _ _ _ _ _ _ _) ?_
    rintro e w131 ⟨rfl,hb131⟩
    have m132 := m109.later hb131
    refine ⟨_,rfl,?_⟩; intro Y U
    refine hK _ _ (m132.to ⟨il,il,il,trivial⟩) ?_; clear hK K
    refine goA hP109 [8,9,10] 3 255 2047 U (m132.to ⟨il,il,il,trivial⟩) (.gtr rfl rfl<|.pickF rfl rfl<|.move rfl .nil) fun Y U =>?_
    refine bc U 65 ?_ ?_
    ·
     intro hb137 U; try simp only [QQ,Qax] at hb137
     refine goA hP109 [11,12,13,14] 4 2047 32767 U (m132.to ⟨il,il,il,trivial⟩) (.s<|.s<|.s<|.pickT rfl rfl .nil) fun Y U =>?_
     refine wpAnyE_done (by kernel_rfl) ?_ _
     refine hK5 _ _ ?_
     refine wct U ?_
     replace U := U.oz [1,2]
     refine regS U (.assign rfl .nil) fun Y U =>?_
     refine rt1 U ?_
     exact ⟨false,rfl,iff_of_false (by simp) (fun h => by obtain ⟨v1,v2,v3,v4,v5,v6,v7,v8,v9⟩ := h; first | (have v10 := v9 k hk; rw [getW hes] at v10; have v12 := v10.1; dsimp only at v12; omega) | (have v10 := v9 k hk; rw [getW hes] at v10; have v11 := hib.2 v10.2; exact absurd (v11.symm.trans ‹ib = false›) (by decide)) | exact hN v1 | omega | (have v10 := hpb.2 v8; subst v10; first | exact absurd ‹true = false› (by decide) | exact absurd ‹(!true) = true› (by decide)) | (simp_all; done) | (simp_all; omega)),m132.below⟩
    intro hb137 U; try simp only [QQ,Qax] at hb137
    refine goR hP109 [11] [11] 1 2047 4095 U (m132.to ⟨il,il,il,trivial⟩) (.loadBR hh (i := 20) rfl rfl U51 rfl fct13 (by simp) (by dsimp only [List.drop,List.take] <;> rfl) .nil) fun Y U =>?_
    refine stepE_only 12 rfl (by kernel_rfl) (wantedG U rfl rfl rfl rfl) (fun K hK =>?_)
    refine e_call U Tryz.func112 rfl rfl rfl rfl (pins_any _ _ _ _ _ _ _ _ place pins ws _ _ _ _ _ _ _ ((h1.now' m132 rfl).any) hp) ?_
    rintro e w145 ⟨pb,rfl,hpb,hb145⟩
    have m146 := m132.later hb145
    refine ⟨_,rfl,?_⟩; intro Y U
    refine hK _ _ (m146.to ⟨il,il,il,trivial⟩) ?_; clear hK K
    refine goA hP109 [13,14] 2 8191 32767 U (m146.to ⟨il,il,il,trivial⟩) (.not rfl<|.pickF rfl rfl .nil) fun Y U =>?_
    refine wpAnyE_done (by kernel_rfl) ?_ _
    refine hK5 _ _ ?_
    refine bc U 69 ?_ ?_
    ·
     intro hb150 U; try simp only [QQ,Qax] at hb150
     refine wct U ?_
     replace U := U.oz [1,2]
     refine regS U (.assign rfl .nil) fun Y U =>?_
     refine rt1 U ?_
     exact ⟨false,rfl,iff_of_false (by simp) (fun h => by obtain ⟨v1,v2,v3,v4,v5,v6,v7,v8,v9⟩ := h; first | (have v10 := v9 k hk; rw [getW hes] at v10; have v12 := v10.1; dsimp only at v12; omega) | (have v10 := v9 k hk; rw [getW hes] at v10; have v11 := hib.2 v10.2; exact absurd (v11.symm.trans ‹ib = false›) (by decide)) | exact hN v1 | omega | (have v10 := hpb.2 v8; subst v10; first | exact absurd ‹true = false› (by decide) | exact absurd ‹(!true) = true› (by decide)) | (simp_all; done) | (simp_all; omega)),m146.below⟩
    intro hb150 U; try simp only [QQ,Qax] at hb150
    refine wcf U ?_
    refine zss (hK4 _ _ ?_)
    refine wsk fun K6 hK6 =>?_
    replace U := U.oz [1,2]
    refine regS U (.fa 10 rfl U51<|.lb m146 20 U49 rfl rfl rfl<|.len rfl U49<|.move rfl .nil) fun Y U =>?_
    refine wp_block ?_
    refine wp_loop_ghost (fun g a w => ∃ (k B : Nat),k ≤ ws.length ∧ g = ws.length - k ∧ WrPre bl sz ws k ∧ Has 94 [(1,.pointer (some ⟨B,0,none⟩)),(71,.slice pw ws.length cw),(72,.int .i64 ws.length),(73,.int .i64 k)] a ∧ MemOk (cn w0) w0 [(9,.box B 51 [.int .i64 vo,.int .i64 bl,.int .i64 sz,.int .i64 pe,.slice pp place.length cp,.int .i64 to,.int .i64 ne,.bool hi,.int .i64 fl,.slice pn pins.length cn9,.slice pw ws.length cw])] w) (ws.length) ?_ ?_
    · exact ⟨0,_,Nat.zero_le _,rfl,(fun j hj => by omega),U.only [1,71,72,73],m146.ren [(9,20)] (by decide)⟩
    clear U m146
    rintro g Y w158 ⟨k,B,hkl,hg,hall,U,m158⟩
    refine regS U (.lss rfl rfl .nil) fun Y U =>?_
    refine wsk fun K7 hK7 =>?_
    refine bc U 74 ?_ ?_
    ·
     intro hb160 U; try simp only [QQ,Qax] at hb160
     have hk : k < ws.length := by omega
     obtain ⟨⟨xs,xl⟩,hes⟩ : ∃ e,ws[k]? = some e := ⟨_,List.getElem?_eq_getElem hk⟩
     refine wct U ?_
     refine zss (hK7 _ _ ?_)
     refine wsk fun K8 hK8 =>?_
     refine wp_block ?_
     refine zsr fun K9 hK9 =>?_
     refine goCh U (.move rfl .nil) fun Y U =>?_
     obtain ⟨gx164,ox164,vx164,hp164,hl164,hR164,hrg164⟩ := h2.extA (k) (r := [.v (.int .i64 xs),.l 2 (xl.map itD)]) (wrD_get hes)
     revert U
     cases hp164
     rcases hR164 with _ | ⟨hd164_0,_ | ⟨hd164_1,_ | _⟩⟩
     obtain rfl := hd164_0.v_out
     clear hd164_0
     obtain ⟨p165,c165,hv165,hw165⟩ := hd164_1.l_shape; subst hv165
     intro U
     refine goCh U (.c rfl (fun _ h_ => y_idx h_ rfl rfl U49 fct7 (k) rfl hk)<|.loadAt (hrg164 m158 rfl) rfl U103 rfl fct7 .nil) fun Y U =>?_
     refine plz (e_alloc U m158 101 fct8 rfl fun g168 Y w169 U m169 _ _ =>?_)
     refine goCh U (.assign rfl .nil) fun Y U =>?_
     refine plz (stw U m169 101 fct7 fun w171 m171 _ =>?_)
     refine znl (hK9 _ _ ?_)
     refine zsr fun K10 hK10 =>?_
     refine goCh U (.fa 0 rfl U103<|.lb m171 101 U2 rfl rfl rfl<|.move rfl<|.add rfl rfl (r := ((k : Nat) : Int) + 1) (IntWalk.i64_in _ (by omega))<|.neq rfl rfl<|.move rfl .nil) fun Y U =>?_
     refine bc U 83 ?_ ?_
     ·
      intro hb184 U; try simp only [QQ,Qax] at hb184
      refine gz hK10 U (.sk<|.sk<|.sk<|.sk<|.sk<|.sk<|.sk<|.sk<|.pickT rfl rfl<|.nil) fun Y U =>?_
      refine wct U ?_
      replace U := U.oz [1,71,72,73]
      refine regS U (.assign rfl .nil) fun Y U =>?_
      refine rt1 U ?_
      exact ⟨false,rfl,iff_of_false (by simp) (fun h => by obtain ⟨v1,v2,v3,v4,v5,v6,v7,v8,v9⟩ := h; first | (have v10 := v9 k hk; rw [getW hes] at v10; have v12 := v10.1; dsimp only at v12; omega) | (have v10 := v9 k hk; rw [getW hes] at v10; have v11 := hib.2 v10.2; exact absurd (v11.symm.trans ‹ib = false›) (by decide)) | exact hN v1 | omega | (have v10 := hpb.2 v8; subst v10; first | exact absurd ‹true = false› (by decide) | exact absurd ‹(!true) = true› (by decide)) | (simp_all; done) | (simp_all; omega)),m171.below⟩
     intro hb184 U; try simp only [QQ,Qax] at hb184
     refine goCh U (.faZ 1 rfl U51<|.loadB1Z m171 (i := 9) rfl rfl rfl U3 rfl<|.faZ 2 rfl U51<|.loadB1Z m171 (i := 9) rfl rfl rfl U3 rfl<|.faZ 1 rfl U103<|.loadB1Z m171 (i := 101) rfl rfl rfl U36 rfl .nil) fun Y U =>?_
     refine stz U (ecl U Tryz.func113 rfl (vitems_nn _ _ xl _ _ _ _ ((hd164_1.now' m171 rfl).any) (hwl _ (List.mem_of_getElem? hes))) ?_)
     rintro e w202 ⟨ib,rfl,hib,hb202⟩
     have m203 := m171.later hb202
     refine ⟨_,rfl,?_⟩; intro Y U
     refine gz hK10 U (.notZ rfl<|.pickF rfl rfl<|.nil) fun Y U =>?_
     refine bc U 92 ?_ ?_
     ·
      intro hb207 U; try simp only [QQ,Qax] at hb207
      refine wct U ?_
      replace U := U.oz [1,71,72,73]
      refine regS U (.assign rfl .nil) fun Y U =>?_
      refine rt1 U ?_
      exact ⟨false,rfl,iff_of_false (by simp) (fun h => by obtain ⟨v1,v2,v3,v4,v5,v6,v7,v8,v9⟩ := h; first | (have v10 := v9 k hk; rw [getW hes] at v10; have v12 := v10.1; dsimp only at v12; omega) | (have v10 := v9 k hk; rw [getW hes] at v10; have v11 := hib.2 v10.2; exact absurd (v11.symm.trans ‹ib = false›) (by decide)) | exact hN v1 | omega | (have v10 := hpb.2 v8; subst v10; first | exact absurd ‹true = false› (by decide) | exact absurd ‹(!true) = true› (by decide)) | (simp_all; done) | (simp_all; omega)),m203.below⟩
     intro hb207 U; try simp only [QQ,Qax] at hb207
     refine wcf U ?_
     refine zss (hK8 _ _ ?_)
     replace U := U.oz [1,71,72,73]
     refine wp_region_lit ?_
     refine goCh U (.inc (k + 1)<|.move rfl .nil) fun Y U =>?_
     refine wpList_nil ?_
     show ∃ n',n' < _ ∧ _
     exact ⟨ws.length - (k + 1),by omega,k + 1,_,by omega,rfl,wr_snoc hall hes (by omega) (hib.1 (by first | assumption | simp_all)),U.only [1,71,72,73],m203.only [9]⟩
    intro hb160 U; try simp only [QQ,Qax] at hb160
    revert U
    obtain rfl : k = ws.length := by omega
    intro U
    refine wcf U ?_
    refine wp_exit ?_
    refine hK6 _ _ ?_
    refine regS U (.assign rfl .nil) fun Y U =>?_
    refine rt1 U ?_
    exact ⟨true,rfl,iff_of_true rfl ⟨hN,by omega,by omega,by simp_all,by simp_all,by omega,by omega,hpb.1 (by simp_all),hall⟩,m158.below⟩
   intro hb96 U; try simp only [QQ,Qax] at hb96
   refine gz hK3 U (.sk<|.sk<|.sk<|.sk<|.sk<|.pickFZ rfl rfl<|.pickF rfl rfl<|.nil) fun Y U =>?_
   refine wcf U ?_
   refine zss (hK2 _ _ ?_)
   refine wsk fun K11 hK11 =>?_
   refine wsk fun K12 hK12 =>?_
   replace U := U.oz [1,2]
   have m222 := m40.oz [20,21,22]
   refine region_p 15 (B := [(20,_),(21,_),(22,_)]) (m222.to ⟨il,il,il,trivial⟩) m222 (by kernel_rfl) (fun w223 hP223 m223 =>?_); clear m222
   refine goR hP223 [0,1,2,3] [1] 4 0 15 U (m223.to ⟨il,il,il,trivial⟩) (.fa 8 rfl U51<|.lb hh 20 U2 rfl rfl rfl<|.lss rfl rfl<|.move rfl .nil) fun Y U =>?_
   refine bc U 58 ?_ ?_
   ·
    intro hb228 U; try simp only [QQ,Qax] at hb228
    refine goA hP223 [4,5,6,7,8,9,10,11,12,13,14] 11 15 32767 U (m223.to ⟨il,il,il,trivial⟩) (.s<|.s<|.s<|.s<|.s<|.pickT rfl rfl<|.move rfl<|.s<|.s<|.s<|.pickT rfl rfl .nil) fun Y U =>?_
    refine wpAnyE_done (by kernel_rfl) ?_ _
    refine hK12 _ _ ?_
    refine wct U ?_
    replace U := U.oz [1,2]
    refine regS U (.assign rfl .nil) fun Y U =>?_
    refine rt1 U ?_
    exact ⟨false,rfl,iff_of_false (by simp) (fun h => by obtain ⟨v1,v2,v3,v4,v5,v6,v7,v8,v9⟩ := h; first | (have v10 := v9 k hk; rw [getW hes] at v10; have v12 := v10.1; dsimp only at v12; omega) | (have v10 := v9 k hk; rw [getW hes] at v10; have v11 := hib.2 v10.2; exact absurd (v11.symm.trans ‹ib = false›) (by decide)) | exact hN v1 | omega | (have v10 := hpb.2 v8; subst v10; first | exact absurd ‹true = false› (by decide) | exact absurd ‹(!true) = true› (by decide)) | (simp_all; done) | (simp_all; omega)),m223.below⟩
   intro hb228 U; try simp only [QQ,Qax] at hb228
   refine goR hP223 [4,5,6] [5,6] 3 15 127 U (m223.to ⟨il,il,il,trivial⟩) (.fa 8 rfl U51<|.lb hh 20 U2 rfl rfl rfl<|.loadBR hh (i := 20) rfl rfl U51 rfl fct13 (by simp) (by dsimp only [List.drop,List.take] <;> rfl) .nil) fun Y U =>?_
   refine stepE_only 7 rfl (by kernel_rfl) (wantedG U rfl rfl rfl rfl) (fun K hK =>?_)
   refine e_call U Tryz.func111 rfl rfl rfl rfl (vlen_any _ _ _ _ _ _ _ _ _ _ _ _ _ _ _ _ _ _) ?_
   rintro e w245 ⟨rfl,hb245⟩
   have m246 := m223.later hb245
   refine ⟨_,rfl,?_⟩; intro Y U
   refine hK _ _ (m246.to ⟨il,il,il,trivial⟩) ?_; clear hK K
   refine goA hP223 [8,9,10] 3 255 2047 U (m246.to ⟨il,il,il,trivial⟩) (.gtr rfl rfl<|.pickF rfl rfl<|.move rfl .nil) fun Y U =>?_
   refine bc U 65 ?_ ?_
   ·
    intro hb251 U; try simp only [QQ,Qax] at hb251
    refine goA hP223 [11,12,13,14] 4 2047 32767 U (m246.to ⟨il,il,il,trivial⟩) (.s<|.s<|.s<|.pickT rfl rfl .nil) fun Y U =>?_
    refine wpAnyE_done (by kernel_rfl) ?_ _
    refine hK12 _ _ ?_
    refine wct U ?_
    replace U := U.oz [1,2]
    refine regS U (.assign rfl .nil) fun Y U =>?_
    refine rt1 U ?_
    exact ⟨false,rfl,iff_of_false (by simp) (fun h => by obtain ⟨v1,v2,v3,v4,v5,v6,v7,v8,v9⟩ := h; first | (have v10 := v9 k hk; rw [getW hes] at v10; have v12 := v10.1; dsimp only at v12; omega) | (have v10 := v9 k hk; rw [getW hes] at v10; have v11 := hib.2 v10.2; exact absurd (v11.symm.trans ‹ib = false›) (by decide)) | exact hN v1 | omega | (have v10 := hpb.2 v8; subst v10; first | exact absurd ‹true = false› (by decide) | exact absurd ‹(!true) = true› (by decide)) | (simp_all; done) | (simp_all; omega)),m246.below⟩
   intro hb251 U; try simp only [QQ,Qax] at hb251
   refine goR hP223 [11] [11] 1 2047 4095 U (m246.to ⟨il,il,il,trivial⟩) (.loadBR hh (i := 20) rfl rfl U51 rfl fct13 (by simp) (by dsimp only [List.drop,List.take] <;> rfl) .nil) fun Y U =>?_
   refine stepE_only 12 rfl (by kernel_rfl) (wantedG U rfl rfl rfl rfl) (fun K hK =>?_)
   refine e_call U Tryz.func112 rfl rfl rfl rfl (pins_any _ _ _ _ _ _ _ _ place pins ws _ _ _ _ _ _ _ ((h1.now' m246 rfl).any) hp) ?_
   rintro e w259 ⟨pb,rfl,hpb,hb259⟩
   have m260 := m246.later hb259
   refine ⟨_,rfl,?_⟩; intro Y U
   refine hK _ _ (m260.to ⟨il,il,il,trivial⟩) ?_; clear hK K
   refine goA hP223 [13,14] 2 8191 32767 U (m260.to ⟨il,il,il,trivial⟩) (.not rfl<|.pickF rfl rfl .nil) fun Y U =>?_
   refine wpAnyE_done (by kernel_rfl) ?_ _
   refine hK12 _ _ ?_
   refine bc U 69 ?_ ?_
   ·
    intro hb264 U; try simp only [QQ,Qax] at hb264
    refine wct U ?_
    replace U := U.oz [1,2]
    refine regS U (.assign rfl .nil) fun Y U =>?_
    refine rt1 U ?_
    exact ⟨false,rfl,iff_of_false (by simp) (fun h => by obtain ⟨v1,v2,v3,v4,v5,v6,v7,v8,v9⟩ := h; first | (have v10 := v9 k hk; rw [getW hes] at v10; have v12 := v10.1; dsimp only at v12; omega) | (have v10 := v9 k hk; rw [getW hes] at v10; have v11 := hib.2 v10.2; exact absurd (v11.symm.trans ‹ib = false›) (by decide)) | exact hN v1 | omega | (have v10 := hpb.2 v8; subst v10; first | exact absurd ‹true = false› (by decide) | exact absurd ‹(!true) = true› (by decide)) | (simp_all; done) | (simp_all; omega)),m260.below⟩
   intro hb264 U; try simp only [QQ,Qax] at hb264
   refine wcf U ?_
   refine zss (hK11 _ _ ?_)
   refine wsk fun K13 hK13 =>?_
   replace U := U.oz [1,2]
   refine regS U (.fa 10 rfl U51<|.lb m260 20 U49 rfl rfl rfl<|.len rfl U49<|.move rfl .nil) fun Y U =>?_
   refine wp_block ?_
   refine wp_loop_ghost (fun g a w => ∃ (k B : Nat),k ≤ ws.length ∧ g = ws.length - k ∧ WrPre bl sz ws k ∧ Has 94 [(1,.pointer (some ⟨B,0,none⟩)),(71,.slice pw ws.length cw),(72,.int .i64 ws.length),(73,.int .i64 k)] a ∧ MemOk (cn w0) w0 [(9,.box B 51 [.int .i64 vo,.int .i64 bl,.int .i64 sz,.int .i64 pe,.slice pp place.length cp,.int .i64 to,.int .i64 ne,.bool hi,.int .i64 fl,.slice pn pins.length cn9,.slice pw ws.length cw])] w) (ws.length) ?_ ?_
   · exact ⟨0,_,Nat.zero_le _,rfl,(fun j hj => by omega),U.only [1,71,72,73],m260.ren [(9,20)] (by decide)⟩
   clear U m260
   rintro g Y w272 ⟨k,B,hkl,hg,hall,U,m272⟩
   refine regS U (.lss rfl rfl .nil) fun Y U =>?_
   refine wsk fun K14 hK14 =>?_
   refine bc U 74 ?_ ?_
   ·
    intro hb274 U; try simp only [QQ,Qax] at hb274
    have hk : k < ws.length := by omega
    obtain ⟨⟨xs,xl⟩,hes⟩ : ∃ e,ws[k]? = some e := ⟨_,List.getElem?_eq_getElem hk⟩
    refine wct U ?_
    refine zss (hK14 _ _ ?_)
    refine wsk fun K15 hK15 =>?_
    refine wp_block ?_
    refine zsr fun K16 hK16 =>?_
    refine goCh U (.move rfl .nil) fun Y U =>?_
    obtain ⟨gx278,ox278,vx278,hp278,hl278,hR278,hrg278⟩ := h2.extA (k) (r := [.v (.int .i64 xs),.l 2 (xl.map itD)]) (wrD_get hes)
    revert U
    cases hp278
    rcases hR278 with _ | ⟨hd278_0,_ | ⟨hd278_1,_ | _⟩⟩
    obtain rfl := hd278_0.v_out
    clear hd278_0
    obtain ⟨p279,c279,hv279,hw279⟩ := hd278_1.l_shape; subst hv279
    intro U
    refine goCh U (.c rfl (fun _ h_ => y_idx h_ rfl rfl U49 fct7 (k) rfl hk)<|.loadAt (hrg278 m272 rfl) rfl U103 rfl fct7 .nil) fun Y U =>?_
    refine plz (e_alloc U m272 101 fct8 rfl fun g282 Y w283 U m283 _ _ =>?_)
    refine goCh U (.assign rfl .nil) fun Y U =>?_
    refine plz (stw U m283 101 fct7 fun w285 m285 _ =>?_)
    refine znl (hK16 _ _ ?_)
    refine zsr fun K17 hK17 =>?_
    refine goCh U (.fa 0 rfl U103<|.lb m285 101 U2 rfl rfl rfl<|.move rfl<|.add rfl rfl (r := ((k : Nat) : Int) + 1) (IntWalk.i64_in _ (by omega))<|.neq rfl rfl<|.move rfl .nil) fun Y U =>?_
    refine bc U 83 ?_ ?_
    ·
     intro hb298 U; try simp only [QQ,Qax] at hb298
     refine gz hK17 U (.sk<|.sk<|.sk<|.sk<|.sk<|.sk<|.sk<|.sk<|.pickT rfl rfl<|.nil) fun Y U =>?_
     refine wct U ?_
     replace U := U.oz [1,71,72,73]
     refine regS U (.assign rfl .nil) fun Y U =>?_
     refine rt1 U ?_
     exact ⟨false,rfl,iff_of_false (by simp) (fun h => by obtain ⟨v1,v2,v3,v4,v5,v6,v7,v8,v9⟩ := h; first | (have v10 := v9 k hk; rw [getW hes] at v10; have v12 := v10.1; dsimp only at v12; omega) | (have v10 := v9 k hk; rw [getW hes] at v10; have v11 := hib.2 v10.2; exact absurd (v11.symm.trans ‹ib = false›) (by decide)) | exact hN v1 | omega | (have v10 := hpb.2 v8; subst v10; first | exact absurd ‹true = false› (by decide) | exact absurd ‹(!true) = true› (by decide)) | (simp_all; done) | (simp_all; omega)),m285.below⟩
    intro hb298 U; try simp only [QQ,Qax] at hb298
    refine goCh U (.faZ 1 rfl U51<|.loadB1Z m285 (i := 9) rfl rfl rfl U3 rfl<|.faZ 2 rfl U51<|.loadB1Z m285 (i := 9) rfl rfl rfl U3 rfl<|.faZ 1 rfl U103<|.loadB1Z m285 (i := 101) rfl rfl rfl U36 rfl .nil) fun Y U =>?_
    refine stz U (ecl U Tryz.func113 rfl (vitems_nn _ _ xl _ _ _ _ ((hd278_1.now' m285 rfl).any) (hwl _ (List.mem_of_getElem? hes))) ?_)
    rintro e w316 ⟨ib,rfl,hib,hb316⟩
    have m317 := m285.later hb316
    refine ⟨_,rfl,?_⟩; intro Y U
    refine gz hK17 U (.notZ rfl<|.pickF rfl rfl<|.nil) fun Y U =>?_
    refine bc U 92 ?_ ?_
    ·
     intro hb321 U; try simp only [QQ,Qax] at hb321
     refine wct U ?_
     replace U := U.oz [1,71,72,73]
     refine regS U (.assign rfl .nil) fun Y U =>?_
     refine rt1 U ?_
     exact ⟨false,rfl,iff_of_false (by simp) (fun h => by obtain ⟨v1,v2,v3,v4,v5,v6,v7,v8,v9⟩ := h; first | (have v10 := v9 k hk; rw [getW hes] at v10; have v12 := v10.1; dsimp only at v12; omega) | (have v10 := v9 k hk; rw [getW hes] at v10; have v11 := hib.2 v10.2; exact absurd (v11.symm.trans ‹ib = false›) (by decide)) | exact hN v1 | omega | (have v10 := hpb.2 v8; subst v10; first | exact absurd ‹true = false› (by decide) | exact absurd ‹(!true) = true› (by decide)) | (simp_all; done) | (simp_all; omega)),m317.below⟩
    intro hb321 U; try simp only [QQ,Qax] at hb321
    refine wcf U ?_
    refine zss (hK15 _ _ ?_)
    replace U := U.oz [1,71,72,73]
    refine wp_region_lit ?_
    refine goCh U (.inc (k + 1)<|.move rfl .nil) fun Y U =>?_
    refine wpList_nil ?_
    show ∃ n',n' < _ ∧ _
    exact ⟨ws.length - (k + 1),by omega,k + 1,_,by omega,rfl,wr_snoc hall hes (by omega) (hib.1 (by first | assumption | simp_all)),U.only [1,71,72,73],m317.only [9]⟩
   intro hb274 U; try simp only [QQ,Qax] at hb274
   revert U
   obtain rfl : k = ws.length := by omega
   intro U
   refine wcf U ?_
   refine wp_exit ?_
   refine hK13 _ _ ?_
   refine regS U (.assign rfl .nil) fun Y U =>?_
   refine rt1 U ?_
   exact ⟨true,rfl,iff_of_true rfl ⟨hN,by omega,by omega,by simp_all,by simp_all,by omega,by omega,hpb.1 (by simp_all),hall⟩,m272.below⟩
  intro hb71 U; try simp only [QQ,Qax] at hb71
  refine goCh U (.sk<|.sk<|.sk<|.pickFZ rfl rfl<|.pickF rfl rfl<|.move rfl<|.faZ 7 rfl U51<|.loadB1Z m40 (i := 20) rfl rfl rfl U4 rfl<|.notZ rfl<|.moveZ rfl .nil) fun Y U =>?_
  refine bc U 47 ?_ ?_
  ·
   intro hb338 U; try simp only [QQ,Qax] at hb338
   refine gz hK3 U (.faZ 6 rfl U51<|.loadB1Z m40 (i := 20) rfl rfl rfl U3 rfl<|.faZ 5 rfl U51<|.loadB1Z m40 (i := 20) rfl rfl rfl U3 rfl<|.neqZ rfl rfl<|.pickTZ rfl rfl<|.pickF rfl rfl<|.nil) fun Y U =>?_
   refine bc U 54 ?_ ?_
   ·
    intro hb346 U; try simp only [QQ,Qax] at hb346
    refine wct U ?_
    replace U := U.oz [1,2]
    refine regS U (.assign rfl .nil) fun Y U =>?_
    refine rt1 U ?_
    exact ⟨false,rfl,iff_of_false (by simp) (fun h => by obtain ⟨v1,v2,v3,v4,v5,v6,v7,v8,v9⟩ := h; first | (have v10 := v9 k hk; rw [getW hes] at v10; have v12 := v10.1; dsimp only at v12; omega) | (have v10 := v9 k hk; rw [getW hes] at v10; have v11 := hib.2 v10.2; exact absurd (v11.symm.trans ‹ib = false›) (by decide)) | exact hN v1 | omega | (have v10 := hpb.2 v8; subst v10; first | exact absurd ‹true = false› (by decide) | exact absurd ‹(!true) = true› (by decide)) | (simp_all; done) | (simp_all; omega)),m40.below⟩
   intro hb346 U; try simp only [QQ,Qax] at hb346
   refine wcf U ?_
   refine zss (hK2 _ _ ?_)
   refine wsk fun K18 hK18 =>?_
   refine wsk fun K19 hK19 =>?_
   replace U := U.oz [1,2]
   have m350 := m40.oz [20,21,22]
   refine region_p 15 (B := [(20,_),(21,_),(22,_)]) (m350.to ⟨il,il,il,trivial⟩) m350 (by kernel_rfl) (fun w351 hP351 m351 =>?_); clear m350
   refine goR hP351 [0,1,2,3] [1] 4 0 15 U (m351.to ⟨il,il,il,trivial⟩) (.fa 8 rfl U51<|.lb hh 20 U2 rfl rfl rfl<|.lss rfl rfl<|.move rfl .nil) fun Y U =>?_
   refine bc U 58 ?_ ?_
   ·
    intro hb356 U; try simp only [QQ,Qax] at hb356
    refine goA hP351 [4,5,6,7,8,9,10,11,12,13,14] 11 15 32767 U (m351.to ⟨il,il,il,trivial⟩) (.s<|.s<|.s<|.s<|.s<|.pickT rfl rfl<|.move rfl<|.s<|.s<|.s<|.pickT rfl rfl .nil) fun Y U =>?_
    refine wpAnyE_done (by kernel_rfl) ?_ _
    refine hK19 _ _ ?_
    refine wct U ?_
    replace U := U.oz [1,2]
    refine regS U (.assign rfl .nil) fun Y U =>?_
    refine rt1 U ?_
    exact ⟨false,rfl,iff_of_false (by simp) (fun h => by obtain ⟨v1,v2,v3,v4,v5,v6,v7,v8,v9⟩ := h; first | (have v10 := v9 k hk; rw [getW hes] at v10; have v12 := v10.1; dsimp only at v12; omega) | (have v10 := v9 k hk; rw [getW hes] at v10; have v11 := hib.2 v10.2; exact absurd (v11.symm.trans ‹ib = false›) (by decide)) | exact hN v1 | omega | (have v10 := hpb.2 v8; subst v10; first | exact absurd ‹true = false› (by decide) | exact absurd ‹(!true) = true› (by decide)) | (simp_all; done) | (simp_all; omega)),m351.below⟩
   intro hb356 U; try simp only [QQ,Qax] at hb356
   refine goR hP351 [4,5,6] [5,6] 3 15 127 U (m351.to ⟨il,il,il,trivial⟩) (.fa 8 rfl U51<|.lb hh 20 U2 rfl rfl rfl<|.loadBR hh (i := 20) rfl rfl U51 rfl fct13 (by simp) (by dsimp only [List.drop,List.take] <;> rfl) .nil) fun Y U =>?_
   refine stepE_only 7 rfl (by kernel_rfl) (wantedG U rfl rfl rfl rfl) (fun K hK =>?_)
   refine e_call U Tryz.func111 rfl rfl rfl rfl (vlen_any _ _ _ _ _ _ _ _ _ _ _ _ _ _ _ _ _ _) ?_
   rintro e w373 ⟨rfl,hb373⟩
   have m374 := m351.later hb373
   refine ⟨_,rfl,?_⟩; intro Y U
   refine hK _ _ (m374.to ⟨il,il,il,trivial⟩) ?_; clear hK K
   refine goA hP351 [8,9,10] 3 255 2047 U (m374.to ⟨il,il,il,trivial⟩) (.gtr rfl rfl<|.pickF rfl rfl<|.move rfl .nil) fun Y U =>?_
   refine bc U 65 ?_ ?_
   ·
    intro hb379 U; try simp only [QQ,Qax] at hb379
    refine goA hP351 [11,12,13,14] 4 2047 32767 U (m374.to ⟨il,il,il,trivial⟩) (.s<|.s<|.s<|.pickT rfl rfl .nil) fun Y U =>?_
    refine wpAnyE_done (by kernel_rfl) ?_ _
    refine hK19 _ _ ?_
    refine wct U ?_
    replace U := U.oz [1,2]
    refine regS U (.assign rfl .nil) fun Y U =>?_
    refine rt1 U ?_
    exact ⟨false,rfl,iff_of_false (by simp) (fun h => by obtain ⟨v1,v2,v3,v4,v5,v6,v7,v8,v9⟩ := h; first | (have v10 := v9 k hk; rw [getW hes] at v10; have v12 := v10.1; dsimp only at v12; omega) | (have v10 := v9 k hk; rw [getW hes] at v10; have v11 := hib.2 v10.2; exact absurd (v11.symm.trans ‹ib = false›) (by decide)) | exact hN v1 | omega | (have v10 := hpb.2 v8; subst v10; first | exact absurd ‹true = false› (by decide) | exact absurd ‹(!true) = true› (by decide)) | (simp_all; done) | (simp_all; omega)),m374.below⟩
   intro hb379 U; try simp only [QQ,Qax] at hb379
   refine goR hP351 [11] [11] 1 2047 4095 U (m374.to ⟨il,il,il,trivial⟩) (.loadBR hh (i := 20) rfl rfl U51 rfl fct13 (by simp) (by dsimp only [List.drop,List.take] <;> rfl) .nil) fun Y U =>?_
   refine stepE_only 12 rfl (by kernel_rfl) (wantedG U rfl rfl rfl rfl) (fun K hK =>?_)
   refine e_call U Tryz.func112 rfl rfl rfl rfl (pins_any _ _ _ _ _ _ _ _ place pins ws _ _ _ _ _ _ _ ((h1.now' m374 rfl).any) hp) ?_
   rintro e w387 ⟨pb,rfl,hpb,hb387⟩
   have m388 := m374.later hb387
   refine ⟨_,rfl,?_⟩; intro Y U
   refine hK _ _ (m388.to ⟨il,il,il,trivial⟩) ?_; clear hK K
   refine goA hP351 [13,14] 2 8191 32767 U (m388.to ⟨il,il,il,trivial⟩) (.not rfl<|.pickF rfl rfl .nil) fun Y U =>?_
   refine wpAnyE_done (by kernel_rfl) ?_ _
   refine hK19 _ _ ?_
   refine bc U 69 ?_ ?_
   ·
    intro hb392 U; try simp only [QQ,Qax] at hb392
    refine wct U ?_
    replace U := U.oz [1,2]
    refine regS U (.assign rfl .nil) fun Y U =>?_
    refine rt1 U ?_
    exact ⟨false,rfl,iff_of_false (by simp) (fun h => by obtain ⟨v1,v2,v3,v4,v5,v6,v7,v8,v9⟩ := h; first | (have v10 := v9 k hk; rw [getW hes] at v10; have v12 := v10.1; dsimp only at v12; omega) | (have v10 := v9 k hk; rw [getW hes] at v10; have v11 := hib.2 v10.2; exact absurd (v11.symm.trans ‹ib = false›) (by decide)) | exact hN v1 | omega | (have v10 := hpb.2 v8; subst v10; first | exact absurd ‹true = false› (by decide) | exact absurd ‹(!true) = true› (by decide)) | (simp_all; done) | (simp_all; omega)),m388.below⟩
   intro hb392 U; try simp only [QQ,Qax] at hb392
   refine wcf U ?_
   refine zss (hK18 _ _ ?_)
   refine wsk fun K20 hK20 =>?_
   replace U := U.oz [1,2]
   refine regS U (.fa 10 rfl U51<|.lb m388 20 U49 rfl rfl rfl<|.len rfl U49<|.move rfl .nil) fun Y U =>?_
   refine wp_block ?_
   refine wp_loop_ghost (fun g a w => ∃ (k B : Nat),k ≤ ws.length ∧ g = ws.length - k ∧ WrPre bl sz ws k ∧ Has 94 [(1,.pointer (some ⟨B,0,none⟩)),(71,.slice pw ws.length cw),(72,.int .i64 ws.length),(73,.int .i64 k)] a ∧ MemOk (cn w0) w0 [(9,.box B 51 [.int .i64 vo,.int .i64 bl,.int .i64 sz,.int .i64 pe,.slice pp place.length cp,.int .i64 to,.int .i64 ne,.bool hi,.int .i64 fl,.slice pn pins.length cn9,.slice pw ws.length cw])] w) (ws.length) ?_ ?_
   · exact ⟨0,_,Nat.zero_le _,rfl,(fun j hj => by omega),U.only [1,71,72,73],m388.ren [(9,20)] (by decide)⟩
   clear U m388
   rintro g Y w400 ⟨k,B,hkl,hg,hall,U,m400⟩
   refine regS U (.lss rfl rfl .nil) fun Y U =>?_
   refine wsk fun K21 hK21 =>?_
   refine bc U 74 ?_ ?_
   ·
    intro hb402 U; try simp only [QQ,Qax] at hb402
    have hk : k < ws.length := by omega
    obtain ⟨⟨xs,xl⟩,hes⟩ : ∃ e,ws[k]? = some e := ⟨_,List.getElem?_eq_getElem hk⟩
    refine wct U ?_
    refine zss (hK21 _ _ ?_)
    refine wsk fun K22 hK22 =>?_
    refine wp_block ?_
    refine zsr fun K23 hK23 =>?_
    refine goCh U (.move rfl .nil) fun Y U =>?_
    obtain ⟨gx406,ox406,vx406,hp406,hl406,hR406,hrg406⟩ := h2.extA (k) (r := [.v (.int .i64 xs),.l 2 (xl.map itD)]) (wrD_get hes)
    revert U
    cases hp406
    rcases hR406 with _ | ⟨hd406_0,_ | ⟨hd406_1,_ | _⟩⟩
    obtain rfl := hd406_0.v_out
    clear hd406_0
    obtain ⟨p407,c407,hv407,hw407⟩ := hd406_1.l_shape; subst hv407
    intro U
    refine goCh U (.c rfl (fun _ h_ => y_idx h_ rfl rfl U49 fct7 (k) rfl hk)<|.loadAt (hrg406 m400 rfl) rfl U103 rfl fct7 .nil) fun Y U =>?_
    refine plz (e_alloc U m400 101 fct8 rfl fun g410 Y w411 U m411 _ _ =>?_)
    refine goCh U (.assign rfl .nil) fun Y U =>?_
    refine plz (stw U m411 101 fct7 fun w413 m413 _ =>?_)
    refine znl (hK23 _ _ ?_)
    refine zsr fun K24 hK24 =>?_
    refine goCh U (.fa 0 rfl U103<|.lb m413 101 U2 rfl rfl rfl<|.move rfl<|.add rfl rfl (r := ((k : Nat) : Int) + 1) (IntWalk.i64_in _ (by omega))<|.neq rfl rfl<|.move rfl .nil) fun Y U =>?_
    refine bc U 83 ?_ ?_
    ·
     intro hb426 U; try simp only [QQ,Qax] at hb426
     refine gz hK24 U (.sk<|.sk<|.sk<|.sk<|.sk<|.sk<|.sk<|.sk<|.pickT rfl rfl<|.nil) fun Y U =>?_
     refine wct U ?_
     replace U := U.oz [1,71,72,73]
     refine regS U (.assign rfl .nil) fun Y U =>?_
     refine rt1 U ?_
     exact ⟨false,rfl,iff_of_false (by simp) (fun h => by obtain ⟨v1,v2,v3,v4,v5,v6,v7,v8,v9⟩ := h; first | (have v10 := v9 k hk; rw [getW hes] at v10; have v12 := v10.1; dsimp only at v12; omega) | (have v10 := v9 k hk; rw [getW hes] at v10; have v11 := hib.2 v10.2; exact absurd (v11.symm.trans ‹ib = false›) (by decide)) | exact hN v1 | omega | (have v10 := hpb.2 v8; subst v10; first | exact absurd ‹true = false› (by decide) | exact absurd ‹(!true) = true› (by decide)) | (simp_all; done) | (simp_all; omega)),m413.below⟩
    intro hb426 U; try simp only [QQ,Qax] at hb426
    refine goCh U (.faZ 1 rfl U51<|.loadB1Z m413 (i := 9) rfl rfl rfl U3 rfl<|.faZ 2 rfl U51<|.loadB1Z m413 (i := 9) rfl rfl rfl U3 rfl<|.faZ 1 rfl U103<|.loadB1Z m413 (i := 101) rfl rfl rfl U36 rfl .nil) fun Y U =>?_
    refine stz U (ecl U Tryz.func113 rfl (vitems_nn _ _ xl _ _ _ _ ((hd406_1.now' m413 rfl).any) (hwl _ (List.mem_of_getElem? hes))) ?_)
    rintro e w444 ⟨ib,rfl,hib,hb444⟩
    have m445 := m413.later hb444
    refine ⟨_,rfl,?_⟩; intro Y U
    refine gz hK24 U (.notZ rfl<|.pickF rfl rfl<|.nil) fun Y U =>?_
    refine bc U 92 ?_ ?_
    ·
     intro hb449 U; try simp only [QQ,Qax] at hb449
     refine wct U ?_
     replace U := U.oz [1,71,72,73]
     refine regS U (.assign rfl .nil) fun Y U =>?_
     refine rt1 U ?_
     exact ⟨false,rfl,iff_of_false (by simp) (fun h => by obtain ⟨v1,v2,v3,v4,v5,v6,v7,v8,v9⟩ := h; first | (have v10 := v9 k hk; rw [getW hes] at v10; have v12 := v10.1; dsimp only at v12; omega) | (have v10 := v9 k hk; rw [getW hes] at v10; have v11 := hib.2 v10.2; exact absurd (v11.symm.trans ‹ib = false›) (by decide)) | exact hN v1 | omega | (have v10 := hpb.2 v8; subst v10; first | exact absurd ‹true = false› (by decide) | exact absurd ‹(!true) = true› (by decide)) | (simp_all; done) | (simp_all; omega)),m445.below⟩
    intro hb449 U; try simp only [QQ,Qax] at hb449
    refine wcf U ?_
    refine zss (hK22 _ _ ?_)
    replace U := U.oz [1,71,72,73]
    refine wp_region_lit ?_
    refine goCh U (.inc (k + 1)<|.move rfl .nil) fun Y U =>?_
    refine wpList_nil ?_
    show ∃ n',n' < _ ∧ _
    exact ⟨ws.length - (k + 1),by omega,k + 1,_,by omega,rfl,wr_snoc hall hes (by omega) (hib.1 (by first | assumption | simp_all)),U.only [1,71,72,73],m445.only [9]⟩
   intro hb402 U; try simp only [QQ,Qax] at hb402
   revert U
   obtain rfl : k = ws.length := by omega
   intro U
   refine wcf U ?_
   refine wp_exit ?_
   refine hK20 _ _ ?_
   refine regS U (.assign rfl .nil) fun Y U =>?_
   refine rt1 U ?_
   exact ⟨true,rfl,iff_of_true rfl ⟨hN,by omega,by omega,by simp_all,by simp_all,by omega,by omega,hpb.1 (by simp_all),hall⟩,m400.below⟩
  intro hb338 U; try simp only [QQ,Qax] at hb338
  refine gz hK3 U (.sk<|.sk<|.sk<|.sk<|.sk<|.pickFZ rfl rfl<|.pickF rfl rfl<|.nil) fun Y U =>?_
  refine wcf U ?_
  refine zss (hK2 _ _ ?_)
  refine wsk fun K25 hK25 =>?_
  refine wsk fun K26 hK26 =>?_
  replace U := U.oz [1,2]
  have m464 := m40.oz [20,21,22]
  refine region_p 15 (B := [(20,_),(21,_),(22,_)]) (m464.to ⟨il,il,il,trivial⟩) m464 (by kernel_rfl) (fun w465 hP465 m465 =>?_); clear m464
  refine goR hP465 [0,1,2,3] [1] 4 0 15 U (m465.to ⟨il,il,il,trivial⟩) (.fa 8 rfl U51<|.lb hh 20 U2 rfl rfl rfl<|.lss rfl rfl<|.move rfl .nil) fun Y U =>?_
  refine bc U 58 ?_ ?_
  ·
   intro hb470 U; try simp only [QQ,Qax] at hb470
   refine goA hP465 [4,5,6,7,8,9,10,11,12,13,14] 11 15 32767 U (m465.to ⟨il,il,il,trivial⟩) (.s<|.s<|.s<|.s<|.s<|.pickT rfl rfl<|.move rfl<|.s<|.s<|.s<|.pickT rfl rfl .nil) fun Y U =>?_
   refine wpAnyE_done (by kernel_rfl) ?_ _
   refine hK26 _ _ ?_
   refine wct U ?_
   replace U := U.oz [1,2]
   refine regS U (.assign rfl .nil) fun Y U =>?_
   refine rt1 U ?_
   exact ⟨false,rfl,iff_of_false (by simp) (fun h => by obtain ⟨v1,v2,v3,v4,v5,v6,v7,v8,v9⟩ := h; first | (have v10 := v9 k hk; rw [getW hes] at v10; have v12 := v10.1; dsimp only at v12; omega) | (have v10 := v9 k hk; rw [getW hes] at v10; have v11 := hib.2 v10.2; exact absurd (v11.symm.trans ‹ib = false›) (by decide)) | exact hN v1 | omega | (have v10 := hpb.2 v8; subst v10; first | exact absurd ‹true = false› (by decide) | exact absurd ‹(!true) = true› (by decide)) | (simp_all; done) | (simp_all; omega)),m465.below⟩
  intro hb470 U; try simp only [QQ,Qax] at hb470
  refine goR hP465 [4,5,6] [5,6] 3 15 127 U (m465.to ⟨il,il,il,trivial⟩) (.fa 8 rfl U51<|.lb hh 20 U2 rfl rfl rfl<|.loadBR hh (i := 20) rfl rfl U51 rfl fct13 (by simp) (by dsimp only [List.drop,List.take] <;> rfl) .nil) fun Y U =>?_
  refine stepE_only 7 rfl (by kernel_rfl) (wantedG U rfl rfl rfl rfl) (fun K hK =>?_)
  refine e_call U Tryz.func111 rfl rfl rfl rfl (vlen_any _ _ _ _ _ _ _ _ _ _ _ _ _ _ _ _ _ _) ?_
  rintro e w487 ⟨rfl,hb487⟩
  have m488 := m465.later hb487
  refine ⟨_,rfl,?_⟩; intro Y U
  refine hK _ _ (m488.to ⟨il,il,il,trivial⟩) ?_; clear hK K
  refine goA hP465 [8,9,10] 3 255 2047 U (m488.to ⟨il,il,il,trivial⟩) (.gtr rfl rfl<|.pickF rfl rfl<|.move rfl .nil) fun Y U =>?_
  refine bc U 65 ?_ ?_
  ·
   intro hb493 U; try simp only [QQ,Qax] at hb493
   refine goA hP465 [11,12,13,14] 4 2047 32767 U (m488.to ⟨il,il,il,trivial⟩) (.s<|.s<|.s<|.pickT rfl rfl .nil) fun Y U =>?_
   refine wpAnyE_done (by kernel_rfl) ?_ _
   refine hK26 _ _ ?_
   refine wct U ?_
   replace U := U.oz [1,2]
   refine regS U (.assign rfl .nil) fun Y U =>?_
   refine rt1 U ?_
   exact ⟨false,rfl,iff_of_false (by simp) (fun h => by obtain ⟨v1,v2,v3,v4,v5,v6,v7,v8,v9⟩ := h; first | (have v10 := v9 k hk; rw [getW hes] at v10; have v12 := v10.1; dsimp only at v12; omega) | (have v10 := v9 k hk; rw [getW hes] at v10; have v11 := hib.2 v10.2; exact absurd (v11.symm.trans ‹ib = false›) (by decide)) | exact hN v1 | omega | (have v10 := hpb.2 v8; subst v10; first | exact absurd ‹true = false› (by decide) | exact absurd ‹(!true) = true› (by decide)) | (simp_all; done) | (simp_all; omega)),m488.below⟩
  intro hb493 U; try simp only [QQ,Qax] at hb493
  refine goR hP465 [11] [11] 1 2047 4095 U (m488.to ⟨il,il,il,trivial⟩) (.loadBR hh (i := 20) rfl rfl U51 rfl fct13 (by simp) (by dsimp only [List.drop,List.take] <;> rfl) .nil) fun Y U =>?_
  refine stepE_only 12 rfl (by kernel_rfl) (wantedG U rfl rfl rfl rfl) (fun K hK =>?_)
  refine e_call U Tryz.func112 rfl rfl rfl rfl (pins_any _ _ _ _ _ _ _ _ place pins ws _ _ _ _ _ _ _ ((h1.now' m488 rfl).any) hp) ?_
  rintro e w501 ⟨pb,rfl,hpb,hb501⟩
  have m502 := m488.later hb501
  refine ⟨_,rfl,?_⟩; intro Y U
  refine hK _ _ (m502.to ⟨il,il,il,trivial⟩) ?_; clear hK K
  refine goA hP465 [13,14] 2 8191 32767 U (m502.to ⟨il,il,il,trivial⟩) (.not rfl<|.pickF rfl rfl .nil) fun Y U =>?_
  refine wpAnyE_done (by kernel_rfl) ?_ _
  refine hK26 _ _ ?_
  refine bc U 69 ?_ ?_
  ·
   intro hb506 U; try simp only [QQ,Qax] at hb506
   refine wct U ?_
   replace U := U.oz [1,2]
   refine regS U (.assign rfl .nil) fun Y U =>?_
   refine rt1 U ?_
   exact ⟨false,rfl,iff_of_false (by simp) (fun h => by obtain ⟨v1,v2,v3,v4,v5,v6,v7,v8,v9⟩ := h; first | (have v10 := v9 k hk; rw [getW hes] at v10; have v12 := v10.1; dsimp only at v12; omega) | (have v10 := v9 k hk; rw [getW hes] at v10; have v11 := hib.2 v10.2; exact absurd (v11.symm.trans ‹ib = false›) (by decide)) | exact hN v1 | omega | (have v10 := hpb.2 v8; subst v10; first | exact absurd ‹true = false› (by decide) | exact absurd ‹(!true) = true› (by decide)) | (simp_all; done) | (simp_all; omega)),m502.below⟩
  intro hb506 U; try simp only [QQ,Qax] at hb506
  refine wcf U ?_
  refine zss (hK25 _ _ ?_)
  refine wsk fun K27 hK27 =>?_
  replace U := U.oz [1,2]
  refine regS U (.fa 10 rfl U51<|.lb m502 20 U49 rfl rfl rfl<|.len rfl U49<|.move rfl .nil) fun Y U =>?_
  refine wp_block ?_
  refine wp_loop_ghost (fun g a w => ∃ (k B : Nat),k ≤ ws.length ∧ g = ws.length - k ∧ WrPre bl sz ws k ∧ Has 94 [(1,.pointer (some ⟨B,0,none⟩)),(71,.slice pw ws.length cw),(72,.int .i64 ws.length),(73,.int .i64 k)] a ∧ MemOk (cn w0) w0 [(9,.box B 51 [.int .i64 vo,.int .i64 bl,.int .i64 sz,.int .i64 pe,.slice pp place.length cp,.int .i64 to,.int .i64 ne,.bool hi,.int .i64 fl,.slice pn pins.length cn9,.slice pw ws.length cw])] w) (ws.length) ?_ ?_
  · exact ⟨0,_,Nat.zero_le _,rfl,(fun j hj => by omega),U.only [1,71,72,73],m502.ren [(9,20)] (by decide)⟩
  clear U m502
  rintro g Y w514 ⟨k,B,hkl,hg,hall,U,m514⟩
  refine regS U (.lss rfl rfl .nil) fun Y U =>?_
  refine wsk fun K28 hK28 =>?_
  refine bc U 74 ?_ ?_
  ·
   intro hb516 U; try simp only [QQ,Qax] at hb516
   have hk : k < ws.length := by omega
   obtain ⟨⟨xs,xl⟩,hes⟩ : ∃ e,ws[k]? = some e := ⟨_,List.getElem?_eq_getElem hk⟩
   refine wct U ?_
   refine zss (hK28 _ _ ?_)
   refine wsk fun K29 hK29 =>?_
   refine wp_block ?_
   refine zsr fun K30 hK30 =>?_
   refine goCh U (.move rfl .nil) fun Y U =>?_
   obtain ⟨gx520,ox520,vx520,hp520,hl520,hR520,hrg520⟩ := h2.extA (k) (r := [.v (.int .i64 xs),.l 2 (xl.map itD)]) (wrD_get hes)
   revert U
   cases hp520
   rcases hR520 with _ | ⟨hd520_0,_ | ⟨hd520_1,_ | _⟩⟩
   obtain rfl := hd520_0.v_out
   clear hd520_0
   obtain ⟨p521,c521,hv521,hw521⟩ := hd520_1.l_shape; subst hv521
   intro U
   refine goCh U (.c rfl (fun _ h_ => y_idx h_ rfl rfl U49 fct7 (k) rfl hk)<|.loadAt (hrg520 m514 rfl) rfl U103 rfl fct7 .nil) fun Y U =>?_
   refine plz (e_alloc U m514 101 fct8 rfl fun g524 Y w525 U m525 _ _ =>?_)
   refine goCh U (.assign rfl .nil) fun Y U =>?_
   refine plz (stw U m525 101 fct7 fun w527 m527 _ =>?_)
   refine znl (hK30 _ _ ?_)
   refine zsr fun K31 hK31 =>?_
   refine goCh U (.fa 0 rfl U103<|.lb m527 101 U2 rfl rfl rfl<|.move rfl<|.add rfl rfl (r := ((k : Nat) : Int) + 1) (IntWalk.i64_in _ (by omega))<|.neq rfl rfl<|.move rfl .nil) fun Y U =>?_
   refine bc U 83 ?_ ?_
   ·
    intro hb540 U; try simp only [QQ,Qax] at hb540
    refine gz hK31 U (.sk<|.sk<|.sk<|.sk<|.sk<|.sk<|.sk<|.sk<|.pickT rfl rfl<|.nil) fun Y U =>?_
    refine wct U ?_
    replace U := U.oz [1,71,72,73]
    refine regS U (.assign rfl .nil) fun Y U =>?_
    refine rt1 U ?_
    exact ⟨false,rfl,iff_of_false (by simp) (fun h => by obtain ⟨v1,v2,v3,v4,v5,v6,v7,v8,v9⟩ := h; first | (have v10 := v9 k hk; rw [getW hes] at v10; have v12 := v10.1; dsimp only at v12; omega) | (have v10 := v9 k hk; rw [getW hes] at v10; have v11 := hib.2 v10.2; exact absurd (v11.symm.trans ‹ib = false›) (by decide)) | exact hN v1 | omega | (have v10 := hpb.2 v8; subst v10; first | exact absurd ‹true = false› (by decide) | exact absurd ‹(!true) = true› (by decide)) | (simp_all; done) | (simp_all; omega)),m527.below⟩
   intro hb540 U; try simp only [QQ,Qax] at hb540
   refine goCh U (.faZ 1 rfl U51<|.loadB1Z m527 (i := 9) rfl rfl rfl U3 rfl<|.faZ 2 rfl U51<|.loadB1Z m527 (i := 9) rfl rfl rfl U3 rfl<|.faZ 1 rfl U103<|.loadB1Z m527 (i := 101) rfl rfl rfl U36 rfl .nil) fun Y U =>?_
   refine stz U (ecl U Tryz.func113 rfl (vitems_nn _ _ xl _ _ _ _ ((hd520_1.now' m527 rfl).any) (hwl _ (List.mem_of_getElem? hes))) ?_)
   rintro e w558 ⟨ib,rfl,hib,hb558⟩
   have m559 := m527.later hb558
   refine ⟨_,rfl,?_⟩; intro Y U
   refine gz hK31 U (.notZ rfl<|.pickF rfl rfl<|.nil) fun Y U =>?_
   refine bc U 92 ?_ ?_
   ·
    intro hb563 U; try simp only [QQ,Qax] at hb563
    refine wct U ?_
    replace U := U.oz [1,71,72,73]
    refine regS U (.assign rfl .nil) fun Y U =>?_
    refine rt1 U ?_
    exact ⟨false,rfl,iff_of_false (by simp) (fun h => by obtain ⟨v1,v2,v3,v4,v5,v6,v7,v8,v9⟩ := h; first | (have v10 := v9 k hk; rw [getW hes] at v10; have v12 := v10.1; dsimp only at v12; omega) | (have v10 := v9 k hk; rw [getW hes] at v10; have v11 := hib.2 v10.2; exact absurd (v11.symm.trans ‹ib = false›) (by decide)) | exact hN v1 | omega | (have v10 := hpb.2 v8; subst v10; first | exact absurd ‹true = false› (by decide) | exact absurd ‹(!true) = true› (by decide)) | (simp_all; done) | (simp_all; omega)),m559.below⟩
   intro hb563 U; try simp only [QQ,Qax] at hb563
   refine wcf U ?_
   refine zss (hK29 _ _ ?_)
   replace U := U.oz [1,71,72,73]
   refine wp_region_lit ?_
   refine goCh U (.inc (k + 1)<|.move rfl .nil) fun Y U =>?_
   refine wpList_nil ?_
   show ∃ n',n' < _ ∧ _
   exact ⟨ws.length - (k + 1),by omega,k + 1,_,by omega,rfl,wr_snoc hall hes (by omega) (hib.1 (by first | assumption | simp_all)),U.only [1,71,72,73],m559.only [9]⟩
  intro hb516 U; try simp only [QQ,Qax] at hb516
  revert U
  obtain rfl : k = ws.length := by omega
  intro U
  refine wcf U ?_
  refine wp_exit ?_
  refine hK27 _ _ ?_
  refine regS U (.assign rfl .nil) fun Y U =>?_
  refine rt1 U ?_
  exact ⟨true,rfl,iff_of_true rfl ⟨hN,by omega,by omega,by simp_all,by simp_all,by omega,by omega,hpb.1 (by simp_all),hall⟩,m514.below⟩
 refine wp_region_lit ?_
 refine goCh U (.fa 0 rfl U51<|.lb m2 20 U3 rfl rfl rfl<|.fa 1 rfl U51<|.lb m2 20 U3 rfl rfl rfl<|.fa 2 rfl U51<|.lb m2 20 U3 rfl rfl rfl<|.fa 3 rfl U51<|.lb m2 20 U3 rfl rfl rfl<|.fa 4 rfl U51<|.lb m2 20 U35 rfl rfl rfl<|.fa 5 rfl U51<|.lb m2 20 U3 rfl rfl rfl<|.build rfl fct23 fl38rt rfl (by dsimp only [setL,List.set] <;> rfl) .nil) fun Y U =>?_
 refine plz (ecb U Tryz.func95 rfl m2 (vnew_no _ _ _ _ _ _ _ _ place _ _ _ _ _ _ ((h0.now' m2 rfl).any) hn hN) fun Y w583 U m584 =>?_)
 refine goCh U (.move rfl<|.extract rfl rfl<|.extract rfl rfl .nil) fun Y U =>?_
 refine plz (e_alloc U m584 21 fct14 rfl fun g589 Y w590 U m590 _ _ =>?_)
 refine plz (stw U m590 21 fct13 fun w591 m591 _ =>?_)
 refine gz hK1 U (.assign rfl .nil) fun Y U =>?_
 refine wsk fun K32 hK32 =>?_
 replace U := U.oz [1,2,4]
 refine zsr fun K33 hK33 =>?_
 refine goCh U (.move rfl<|.neq rfl rfl<|.move rfl .nil) fun Y U =>?_
 refine bc U 26 ?_ ?_
 rotate_left
 · intro hb _; exact absurd hb (by simp)
 clear U; intro _ U
 refine goCh U (.sk<|.sk<|.sk<|.sk<|.sk<|.sk<|.pickT rfl rfl<|.move rfl<|.sk<|.sk<|.sk .nil) fun Y U =>?_
 refine st_skipU U rfl rfl rfl rfl fun Y U =>?_
 refine st_skipU U rfl rfl rfl rfl fun Y U =>?_
 refine st_skipU U rfl rfl rfl rfl fun Y U =>?_
 refine goCh U (.sk<|.pickT rfl rfl<|.move rfl<|.sk<|.sk<|.sk<|.sk .nil) fun Y U =>?_
 refine st_skipU U rfl rfl rfl rfl fun Y U =>?_
 refine st_skipU U rfl rfl rfl rfl fun Y U =>?_
 refine st_skipU U rfl rfl rfl rfl fun Y U =>?_
 refine st_skipU U rfl rfl rfl rfl fun Y U =>?_
 refine st_skipU U rfl rfl rfl rfl fun Y U =>?_
 refine gz hK33 U (.sk<|.pickT rfl rfl<|.nil) fun Y U =>?_
 refine wct U ?_
 replace U := U.oz [1,2]
 refine regS U (.assign rfl .nil) fun Y U =>?_
 refine rt1 U ?_
 exact ⟨false,rfl,iff_of_false (by simp) (fun h => by obtain ⟨v1,v2,v3,v4,v5,v6,v7,v8,v9⟩ := h; first | (have v10 := v9 k hk; rw [getW hes] at v10; have v12 := v10.1; dsimp only at v12; omega) | (have v10 := v9 k hk; rw [getW hes] at v10; have v11 := hib.2 v10.2; exact absurd (v11.symm.trans ‹ib = false›) (by decide)) | exact hN v1 | omega | (have v10 := hpb.2 v8; subst v10; first | exact absurd ‹true = false› (by decide) | exact absurd ‹(!true) = true› (by decide)) | (simp_all; done) | (simp_all; omega)),m591.below⟩
end
section
set_option maxRecDepth 100000
set_option maxHeartbeats 4000000
end
section
def bD (l : List Int) : List D := [.ns .u8 l]
def itemsL (fi cn9 : Int) (es : List (Int × List Int)) : List (Int × List Int) := (es.filter (fun x => decide (fi ≤ x.1 ∧ x.1 ≤ fi + cn9 - 1))).map (fun x => (x.1 - fi,x.2))
set_option maxRecDepth 100000
set_option maxHeartbeats 4000000
end
section
def stStep (L : List (List Int)) (x : Int × List Int) : List (List Int) := if 0 ≤ x.1 ∧ x.1 ≤ (L.length : Int) - 1 then L.set x.1.toNat x.2 else L
def stW (L : List (List Int)) (x : Int × List (Int × List Int)) : List (List Int) := x.2.foldl stStep L
set_option maxRecDepth 100000
set_option maxHeartbeats 4000000
end
section
def pushL (fi cnt : Int) (W : List (Int × List (Int × List Int))) : List (Int × List (Int × List Int)) := (W.map (fun w => (w.1,itemsL fi cnt w.2))).filter (fun w => decide (0 < w.2.length))
section
variable {P : Program} {n : Nat} {T : List (Nat × Value)} {a : Act} {w : World} {d : Option Tmp} {tt : TypeId} {pos : String} {af : Array Edge} {gd : Option (Nat × Bool)}
end
set_option maxRecDepth 100000
set_option maxHeartbeats 4000000
end
section
set_option maxRecDepth 100000
set_option maxHeartbeats 4000000
end
end Go.Proofs.YtkehgingagggaaaGreat.K
