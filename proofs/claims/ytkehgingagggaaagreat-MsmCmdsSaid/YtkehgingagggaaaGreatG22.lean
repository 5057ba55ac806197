/- General laws of walks. -/
import Derived.Test.YtkehgingagggaaaGreatG21
import Derived.Test.YtkehgingagggaaaGreatG17
import Derived.Test.YtkehgingagggaaaGreatG20
import Derived.Test.YtkehgingagggaaaGreatG18
namespace Go.Proofs.YtkehgingagggaaaGreat.K
open Go.ChangeShapes Go.WideShapes Go.ChangeAt Go.RowKit
set_option linter.unusedVariables false
set_option linter.unusedSimpArgs false
section
theorem at_snoc {l : List Int} {k : Nat} (h : ∀ i,i < k → 0 ≤ l.getD i 0 ∧ l.getD i 0 ≤ 7) (hk : 0 ≤ l.getD k 0 ∧ l.getD k 0 ≤ 7) : ∀ i,i < k + 1 → 0 ≤ l.getD i 0 ∧ l.getD i 0 ≤ 7 := fun i hi => by
 rcases Nat.lt_or_ge i k with h1 | h1
 · exact h i h1
 obtain rfl : i = k := by omega
 exact hk
theorem at_all {l : List Int} (h : ∀ i,i < l.length → 0 ≤ l.getD i 0 ∧ l.getD i 0 ≤ 7) : ∀ z ∈ l,0 ≤ z ∧ z ≤ 7 := fun z hz => by
 obtain ⟨j,hj,rfl⟩ := List.getElem_of_mem hz
 have := h j hj
 rwa [List.getD,List.getElem?_eq_getElem hj] at this
set_option maxRecDepth 100000
set_option maxHeartbeats 4000000
theorem within16_r (n : Int) (w0 : World) : Calls Tryz.prog 72 #[.int .i64 n] w0 fun e w' => ∃ b : Bool,e = .returned (.bool b) ∧ (b = true → 0 ≤ n ∧ n ≤ 1099511627776) ∧ Below w0.heap.size w0 w' := by
 refine ent1 Tryz.func72 rfl Tryz.ntmps72 fun Y U =>?_
 have m0 := MemOk.start (fun _ => False) w0
 refine regS U (.assign rfl .nil) fun Y U =>?_
 refine zsr fun K0 hK0 =>?_
 refine goCh U (.move rfl<|.geq rfl rfl<|.move rfl .nil) fun Y U =>?_
 refine bc U 5 ?_ ?_
 ·
  intro hb8 U; try simp only [QQ,Qax] at hb8
  refine gz hK0 U (.moveZ rfl<|.leqZ rfl rfl<|.pickT rfl rfl<|.assign rfl<|.nil) fun Y U =>?_
  refine rt1 U ?_
  exact ⟨_,rfl,(by intro h9; first | (exact absurd h9 (by decide)) | (have h8 := of_decide_eq_true h9; omega) | (simp at h9; omega)),m0.below⟩
 intro hb8 U; try simp only [QQ,Qax] at hb8
 refine gz hK0 U (.sk<|.sk<|.pickF rfl rfl<|.assign rfl<|.nil) fun Y U =>?_
 refine rt1 U ?_
 exact ⟨_,rfl,(by intro h9; first | (exact absurd h9 (by decide)) | (have h8 := of_decide_eq_true h9; omega) | (simp at h9; omega)),m0.below⟩
theorem rcmdRight_r (kd vo bl sz pe to at0 ix : Int) (place : List Int) (items : List (Int × List Int)) (pp pi : Option Addr) (cp ni ci : Nat) (w0 : World) (h0 : Rd (fun _ => True) w0 (.slice pp place.length cp) (.ns .i64 place)) (h1 : Rd (fun _ => True) w0 (.slice pi ni ci) (.l 2 (items.map itD))) (hp : place.length ≤ 1000000) (hl : items.length ≤ 1000000) :
   Calls Tryz.prog 27 #[.agg #[.int .i64 kd,.int .i64 vo,.int .i64 bl,.int .i64 sz,.int .i64 pe,.slice pp place.length cp,.int .i64 to,.int .i64 at0,.int .i64 ix,.slice pi ni ci]] w0 fun e w' => ∃ b : Bool,e = .returned (.bool b) ∧ (b = true → CmdR ⟨kd,vo,bl,sz,pe,place,to,at0,ix,items⟩) ∧ Below w0.heap.size w0 w' := by
 obtain rfl : ni = items.length := by obtain ⟨pq,c9,hv,_⟩ := h1.l_shape; injection hv with _ e2 _; rw [List.length_map] at e2; exact e2
 refine ent1 Tryz.func27 rfl Tryz.ntmps27 fun Y U =>?_
 have m0 := MemOk.start (fun _ => False) w0
 refine zsr fun K0 hK0 =>?_
 refine plz (e_box U m0 20 (cs := [_,_,_,_,_,_,_,_,_,_]) rfl rfl rfl fun g1 Y w2 U m2 _ _ =>?_)
 refine gz hK0 U (.assign rfl .nil) fun Y U =>?_
 refine wsk fun K1 hK1 =>?_
 refine zsr fun K2 hK2 =>?_
 refine goCh U (.fa 0 rfl U38<|.lb m2 20 U3 rfl rfl rfl<|.lss rfl rfl<|.move rfl .nil) fun Y U =>?_
 refine bc U 8 ?_ ?_
 ·
  intro hb12 U; try simp only [QQ,Qax] at hb12
  refine gz hK2 U (.sk<|.sk<|.sk<|.pickT rfl rfl<|.move rfl<|.sk<|.sk<|.sk<|.pickT rfl rfl<|.move rfl<|.sk<|.sk<|.sk<|.pickT rfl rfl<|.move rfl<|.sk<|.sk<|.sk<|.sk<|.pickT rfl rfl<|.move rfl<|.sk<|.sk<|.sk<|.sk<|.pickT rfl rfl<|.move rfl<|.sk<|.sk<|.sk<|.sk<|.pickT rfl rfl<|.move rfl<|.sk<|.sk<|.sk<|.sk<|.pickT rfl rfl<|.move rfl<|.sk<|.sk<|.sk<|.sk<|.pickT rfl rfl<|.move rfl<|.sk<|.sk<|.sk<|.sk<|.pickT rfl rfl<|.move rfl<|.sk<|.sk<|.sk<|.sk<|.pickT rfl rfl<|.move rfl<|.sk<|.sk<|.sk<|.sk<|.pickT rfl rfl<|.nil) fun Y U =>?_
  refine wct U ?_
  replace U := U.oz [1,2]
  refine regS U (.assign rfl .nil) fun Y U =>?_
  refine rt1 U ?_
  exact ⟨false,rfl,(fun h => by cases h),m2.below⟩
 intro hb12 U; try simp only [QQ,Qax] at hb12
 refine goCh U (.faZ 0 rfl U38<|.loadB1Z m2 (i := 20) rfl rfl rfl U3 rfl<|.gtrZ rfl rfl<|.pickF rfl rfl<|.move rfl .nil) fun Y U =>?_
 refine bc U 13 ?_ ?_
 ·
  intro hb82 U; try simp only [QQ,Qax] at hb82
  refine gz hK2 U (.sk<|.sk<|.sk<|.pickT rfl rfl<|.move rfl<|.sk<|.sk<|.sk<|.pickT rfl rfl<|.move rfl<|.sk<|.sk<|.sk<|.sk<|.pickT rfl rfl<|.move rfl<|.sk<|.sk<|.sk<|.sk<|.pickT rfl rfl<|.move rfl<|.sk<|.sk<|.sk<|.sk<|.pickT rfl rfl<|.move rfl<|.sk<|.sk<|.sk<|.sk<|.pickT rfl rfl<|.move rfl<|.sk<|.sk<|.sk<|.sk<|.pickT rfl rfl<|.move rfl<|.sk<|.sk<|.sk<|.sk<|.pickT rfl rfl<|.move rfl<|.sk<|.sk<|.sk<|.sk<|.pickT rfl rfl<|.move rfl<|.sk<|.sk<|.sk<|.sk<|.pickT rfl rfl<|.nil) fun Y U =>?_
  refine wct U ?_
  replace U := U.oz [1,2]
  refine regS U (.assign rfl .nil) fun Y U =>?_
  refine rt1 U ?_
  exact ⟨false,rfl,(fun h => by cases h),m2.below⟩
 intro hb82 U; try simp only [QQ,Qax] at hb82
 refine goCh U (.faZ 1 rfl U38<|.loadB1Z m2 (i := 20) rfl rfl rfl U3 rfl<|.lssZ rfl rfl<|.pickF rfl rfl<|.move rfl .nil) fun Y U =>?_
 refine bc U 18 ?_ ?_
 ·
  intro hb147 U; try simp only [QQ,Qax] at hb147
  refine gz hK2 U (.sk<|.sk<|.sk<|.pickT rfl rfl<|.move rfl<|.sk<|.sk<|.sk<|.sk<|.pickT rfl rfl<|.move rfl<|.sk<|.sk<|.sk<|.sk<|.pickT rfl rfl<|.move rfl<|.sk<|.sk<|.sk<|.sk<|.pickT rfl rfl<|.move rfl<|.sk<|.sk<|.sk<|.sk<|.pickT rfl rfl<|.move rfl<|.sk<|.sk<|.sk<|.sk<|.pickT rfl rfl<|.move rfl<|.sk<|.sk<|.sk<|.sk<|.pickT rfl rfl<|.move rfl<|.sk<|.sk<|.sk<|.sk<|.pickT rfl rfl<|.move rfl<|.sk<|.sk<|.sk<|.sk<|.pickT rfl rfl<|.nil) fun Y U =>?_
  refine wct U ?_
  replace U := U.oz [1,2]
  refine regS U (.assign rfl .nil) fun Y U =>?_
  refine rt1 U ?_
  exact ⟨false,rfl,(fun h => by cases h),m2.below⟩
 intro hb147 U; try simp only [QQ,Qax] at hb147
 refine goCh U (.faZ 1 rfl U38<|.loadB1Z m2 (i := 20) rfl rfl rfl U3 rfl<|.geqZ rfl rfl<|.pickF rfl rfl<|.move rfl .nil) fun Y U =>?_
 refine bc U 23 ?_ ?_
 ·
  intro hb207 U; try simp only [QQ,Qax] at hb207
  refine gz hK2 U (.sk<|.sk<|.sk<|.sk<|.pickT rfl rfl<|.move rfl<|.sk<|.sk<|.sk<|.sk<|.pickT rfl rfl<|.move rfl<|.sk<|.sk<|.sk<|.sk<|.pickT rfl rfl<|.move rfl<|.sk<|.sk<|.sk<|.sk<|.pickT rfl rfl<|.move rfl<|.sk<|.sk<|.sk<|.sk<|.pickT rfl rfl<|.move rfl<|.sk<|.sk<|.sk<|.sk<|.pickT rfl rfl<|.move rfl<|.sk<|.sk<|.sk<|.sk<|.pickT rfl rfl<|.move rfl<|.sk<|.sk<|.sk<|.sk<|.pickT rfl rfl<|.nil) fun Y U =>?_
  refine wct U ?_
  replace U := U.oz [1,2]
  refine regS U (.assign rfl .nil) fun Y U =>?_
  refine rt1 U ?_
  exact ⟨false,rfl,(fun h => by cases h),m2.below⟩
 intro hb207 U; try simp only [QQ,Qax] at hb207
 refine goCh U (.faZ 2 rfl U38<|.loadB1Z m2 (i := 20) rfl rfl rfl U3 rfl .nil) fun Y U =>?_
 refine stz U (ecl U Tryz.func72 rfl (within16_r _ _) ?_)
 rintro e w260 ⟨wb259,rfl,hw259,hb260⟩
 have m261 := m2.later hb260
 refine ⟨_,rfl,?_⟩; intro Y U
 refine goCh U (.notZ rfl<|.pickF rfl rfl<|.move rfl .nil) fun Y U =>?_
 refine bc U 29 ?_ ?_
 ·
  intro hb266 U; try simp only [QQ,Qax] at hb266
  refine gz hK2 U (.sk<|.sk<|.sk<|.sk<|.pickT rfl rfl<|.move rfl<|.sk<|.sk<|.sk<|.sk<|.pickT rfl rfl<|.move rfl<|.sk<|.sk<|.sk<|.sk<|.pickT rfl rfl<|.move rfl<|.sk<|.sk<|.sk<|.sk<|.pickT rfl rfl<|.move rfl<|.sk<|.sk<|.sk<|.sk<|.pickT rfl rfl<|.move rfl<|.sk<|.sk<|.sk<|.sk<|.pickT rfl rfl<|.move rfl<|.sk<|.sk<|.sk<|.sk<|.pickT rfl rfl<|.nil) fun Y U =>?_
  refine wct U ?_
  replace U := U.oz [1,2]
  refine regS U (.assign rfl .nil) fun Y U =>?_
  refine rt1 U ?_
  exact ⟨false,rfl,(fun h => by cases h),m261.below⟩
 intro hb266 U; try simp only [QQ,Qax] at hb266
 refine goCh U (.faZ 3 rfl U38<|.loadB1Z m261 (i := 20) rfl rfl rfl U3 rfl .nil) fun Y U =>?_
 refine stz U (ecl U Tryz.func72 rfl (within16_r _ _) ?_)
 rintro e w313 ⟨wb312,rfl,hw312,hb313⟩
 have m314 := m261.later hb313
 refine ⟨_,rfl,?_⟩; intro Y U
 refine goCh U (.notZ rfl<|.pickF rfl rfl<|.move rfl .nil) fun Y U =>?_
 refine bc U 35 ?_ ?_
 ·
  intro hb319 U; try simp only [QQ,Qax] at hb319
  refine gz hK2 U (.sk<|.sk<|.sk<|.sk<|.pickT rfl rfl<|.move rfl<|.sk<|.sk<|.sk<|.sk<|.pickT rfl rfl<|.move rfl<|.sk<|.sk<|.sk<|.sk<|.pickT rfl rfl<|.move rfl<|.sk<|.sk<|.sk<|.sk<|.pickT rfl rfl<|.move rfl<|.sk<|.sk<|.sk<|.sk<|.pickT rfl rfl<|.move rfl<|.sk<|.sk<|.sk<|.sk<|.pickT rfl rfl<|.nil) fun Y U =>?_
  refine wct U ?_
  replace U := U.oz [1,2]
  refine regS U (.assign rfl .nil) fun Y U =>?_
  refine rt1 U ?_
  exact ⟨false,rfl,(fun h => by cases h),m314.below⟩
 intro hb319 U; try simp only [QQ,Qax] at hb319
 refine goCh U (.faZ 4 rfl U38<|.loadB1Z m314 (i := 20) rfl rfl rfl U3 rfl .nil) fun Y U =>?_
 refine stz U (ecl U Tryz.func72 rfl (within16_r _ _) ?_)
 rintro e w360 ⟨wb359,rfl,hw359,hb360⟩
 have m361 := m314.later hb360
 refine ⟨_,rfl,?_⟩; intro Y U
 refine goCh U (.notZ rfl<|.pickF rfl rfl<|.move rfl .nil) fun Y U =>?_
 refine bc U 41 ?_ ?_
 ·
  intro hb366 U; try simp only [QQ,Qax] at hb366
  refine gz hK2 U (.sk<|.sk<|.sk<|.sk<|.pickT rfl rfl<|.move rfl<|.sk<|.sk<|.sk<|.sk<|.pickT rfl rfl<|.move rfl<|.sk<|.sk<|.sk<|.sk<|.pickT rfl rfl<|.move rfl<|.sk<|.sk<|.sk<|.sk<|.pickT rfl rfl<|.move rfl<|.sk<|.sk<|.sk<|.sk<|.pickT rfl rfl<|.nil) fun Y U =>?_
  refine wct U ?_
  replace U := U.oz [1,2]
  refine regS U (.assign rfl .nil) fun Y U =>?_
  refine rt1 U ?_
  exact ⟨false,rfl,(fun h => by cases h),m361.below⟩
 intro hb366 U; try simp only [QQ,Qax] at hb366
 refine goCh U (.faZ 6 rfl U38<|.loadB1Z m361 (i := 20) rfl rfl rfl U3 rfl .nil) fun Y U =>?_
 refine stz U (ecl U Tryz.func72 rfl (within16_r _ _) ?_)
 rintro e w401 ⟨wb400,rfl,hw400,hb401⟩
 have m402 := m361.later hb401
 refine ⟨_,rfl,?_⟩; intro Y U
 refine goCh U (.notZ rfl<|.pickF rfl rfl<|.move rfl .nil) fun Y U =>?_
 refine bc U 47 ?_ ?_
 ·
  intro hb407 U; try simp only [QQ,Qax] at hb407
  refine gz hK2 U (.sk<|.sk<|.sk<|.sk<|.pickT rfl rfl<|.move rfl<|.sk<|.sk<|.sk<|.sk<|.pickT rfl rfl<|.move rfl<|.sk<|.sk<|.sk<|.sk<|.pickT rfl rfl<|.move rfl<|.sk<|.sk<|.sk<|.sk<|.pickT rfl rfl<|.nil) fun Y U =>?_
  refine wct U ?_
  replace U := U.oz [1,2]
  refine regS U (.assign rfl .nil) fun Y U =>?_
  refine rt1 U ?_
  exact ⟨false,rfl,(fun h => by cases h),m402.below⟩
 intro hb407 U; try simp only [QQ,Qax] at hb407
 refine goCh U (.faZ 8 rfl U38<|.loadB1Z m402 (i := 20) rfl rfl rfl U3 rfl .nil) fun Y U =>?_
 refine stz U (ecl U Tryz.func72 rfl (within16_r _ _) ?_)
 rintro e w436 ⟨wb435,rfl,hw435,hb436⟩
 have m437 := m402.later hb436
 refine ⟨_,rfl,?_⟩; intro Y U
 refine goCh U (.notZ rfl<|.pickF rfl rfl<|.move rfl .nil) fun Y U =>?_
 refine bc U 53 ?_ ?_
 ·
  intro hb442 U; try simp only [QQ,Qax] at hb442
  refine gz hK2 U (.sk<|.sk<|.sk<|.sk<|.pickT rfl rfl<|.move rfl<|.sk<|.sk<|.sk<|.sk<|.pickT rfl rfl<|.move rfl<|.sk<|.sk<|.sk<|.sk<|.pickT rfl rfl<|.nil) fun Y U =>?_
  refine wct U ?_
  replace U := U.oz [1,2]
  refine regS U (.assign rfl .nil) fun Y U =>?_
  refine rt1 U ?_
  exact ⟨false,rfl,(fun h => by cases h),m437.below⟩
 intro hb442 U; try simp only [QQ,Qax] at hb442
 refine goCh U (.faZ 7 rfl U38<|.loadB1Z m437 (i := 20) rfl rfl rfl U2 rfl .nil) fun Y U =>?_
 refine stz U (ecl U Tryz.func72 rfl (within16_r _ _) ?_)
 rintro e w465 ⟨wb464,rfl,hw464,hb465⟩
 have m466 := m437.later hb465
 refine ⟨_,rfl,?_⟩; intro Y U
 refine goCh U (.notZ rfl<|.pickF rfl rfl<|.move rfl .nil) fun Y U =>?_
 refine bc U 59 ?_ ?_
 ·
  intro hb471 U; try simp only [QQ,Qax] at hb471
  refine gz hK2 U (.sk<|.sk<|.sk<|.sk<|.pickT rfl rfl<|.move rfl<|.sk<|.sk<|.sk<|.sk<|.pickT rfl rfl<|.nil) fun Y U =>?_
  refine wct U ?_
  replace U := U.oz [1,2]
  refine regS U (.assign rfl .nil) fun Y U =>?_
  refine rt1 U ?_
  exact ⟨false,rfl,(fun h => by cases h),m466.below⟩
 intro hb471 U; try simp only [QQ,Qax] at hb471
 refine goCh U (.faZ 5 rfl U38<|.loadB1Z m466 (i := 20) rfl rfl rfl U35 rfl<|.lenZ rfl U35<|.gtrZ rfl rfl<|.pickF rfl rfl<|.move rfl .nil) fun Y U =>?_
 refine bc U 65 ?_ ?_
 ·
  intro hb491 U; try simp only [QQ,Qax] at hb491
  refine gz hK2 U (.sk<|.sk<|.sk<|.sk<|.pickT rfl rfl<|.nil) fun Y U =>?_
  refine wct U ?_
  replace U := U.oz [1,2]
  refine regS U (.assign rfl .nil) fun Y U =>?_
  refine rt1 U ?_
  exact ⟨false,rfl,(fun h => by cases h),m466.below⟩
 intro hb491 U; try simp only [QQ,Qax] at hb491
 refine gz hK2 U (.faZ 9 rfl U38<|.loadB1Z m466 (i := 20) rfl rfl rfl U36 rfl<|.lenZ rfl U36<|.gtrZ rfl rfl<|.pickF rfl rfl<|.nil) fun Y U =>?_
 refine bc U 70 ?_ ?_
 ·
  intro hb504 U; try simp only [QQ,Qax] at hb504
  refine wct U ?_
  replace U := U.oz [1,2]
  refine regS U (.assign rfl .nil) fun Y U =>?_
  refine rt1 U ?_
  exact ⟨false,rfl,(fun h => by cases h),m466.below⟩
 intro hb504 U; try simp only [QQ,Qax] at hb504
 have hw16a := hw259 (by simp_all)
 have hw16b := hw312 (by simp_all)
 have hw16c := hw359 (by simp_all)
 have hw16d := hw400 (by simp_all)
 have hw16e := hw435 (by simp_all)
 have hw16f := hw464 (by simp_all)
 refine wcf U ?_
 refine zss (hK1 _ _ ?_)
 refine wsk fun K3 hK3 =>?_
 replace U := U.oz [1,2]
 refine regS U (.assign rfl .nil) fun Y U =>?_
 refine wp_block ?_
 refine wp_loop_ghost (fun g a w => ∃ (k B : Nat),k ≤ place.length ∧ (∀ i,i < k → 0 ≤ place.getD i 0 ∧ place.getD i 0 ≤ 7) ∧ g = place.length - k ∧ Has 125 [(1,.pointer (some ⟨B,0,none⟩)),(3,.int .i64 k)] a ∧ MemOk (cn w0) w0 [(9,.box B 38 [.int .i64 kd,.int .i64 vo,.int .i64 bl,.int .i64 sz,.int .i64 pe,.slice pp place.length cp,.int .i64 to,.int .i64 at0,.int .i64 ix,.slice pi items.length ci])] w) (place.length) ?_ ?_
 · exact ⟨0,_,Nat.zero_le _,(fun i hi => absurd hi (Nat.not_lt_zero i)),rfl,U.only [1,3],m466.ren [(9,20)] (by decide)⟩
 clear U m466
 rintro g Y w509 ⟨k,B,hkl,hpa,hg,U,m509⟩
 refine wsk fun K4 hK4 =>?_
 refine regS U (.move rfl<|.fa 5 rfl U38<|.lb m509 9 U35 rfl rfl rfl<|.len rfl U35<|.lss rfl rfl .nil) fun Y U =>?_
 refine bc U 75 ?_ ?_
 ·
  intro hb515 U; try simp only [QQ,Qax] at hb515
  have hk : k < place.length := by omega
  refine wct U ?_
  refine zss (hK4 _ _ ?_)
  refine wsk fun K5 hK5 =>?_
  refine wp_block ?_
  refine zsr fun K6 hK6 =>?_
  refine goCh U (.fa 5 rfl U38<|.lb m509 9 U35 rfl rfl rfl<|.move rfl .nil) fun Y U =>?_
  obtain ⟨gx523,ox523,hp523,hl523,hrg523⟩ := h0.extN (k) hk
  revert U
  cases hp523
  intro U
  refine goCh U (.c rfl (fun _ h_ => y_idx h_ rfl rfl U35 fct17 (k) rfl hk)<|.loadAt1 (hrg523 m509 rfl) (q := 0) rfl rfl rfl U3 rfl<|.lss rfl rfl<|.move rfl .nil) fun Y U =>?_
  refine bc U 84 ?_ ?_
  ·
   intro hb528 U; try simp only [QQ,Qax] at hb528
   refine gz hK6 U (.sk<|.sk<|.sk<|.sk<|.sk<|.sk<|.pickT rfl rfl<|.nil) fun Y U =>?_
   refine wct U ?_
   replace U := U.oz [1,3]
   refine regS U (.assign rfl .nil) fun Y U =>?_
   refine rt1 U ?_
   exact ⟨false,rfl,(fun h => by cases h),m509.below⟩
  intro hb528 U; try simp only [QQ,Qax] at hb528
  refine goCh U (.faZ 5 rfl U38<|.loadB1Z m509 (i := 9) rfl rfl rfl U35 rfl<|.moveZ rfl .nil) fun Y U =>?_
  obtain ⟨gx541,ox541,hp541,hl541,hrg541⟩ := h0.extN (k) hk
  revert U
  cases hp541
  intro U
  refine gz hK6 U (.g rfl rfl rfl rfl (fun _ h_ => y_idx h_ rfl rfl U35 fct17 (k) rfl hk)<|.loadAt1Z (hrg541 m509 rfl) (q := 0) rfl rfl rfl U3 rfl<|.geqZ rfl rfl<|.pickF rfl rfl<|.nil) fun Y U =>?_
  refine bc U 91 ?_ ?_
  ·
   intro hb546 U; try simp only [QQ,Qax] at hb546
   refine wct U ?_
   replace U := U.oz [1,3]
   refine regS U (.assign rfl .nil) fun Y U =>?_
   refine rt1 U ?_
   exact ⟨false,rfl,(fun h => by cases h),m509.below⟩
  intro hb546 U; try simp only [QQ,Qax] at hb546
  refine wcf U ?_
  refine zss (hK5 _ _ ?_)
  replace U := U.oz [1,3]
  refine wp_region_lit ?_
  refine goCh U (.move rfl<|.inc (k + 1)<|.assign rfl .nil) fun Y U =>?_
  refine wpList_nil ?_
  show ∃ n',n' < _ ∧ _
  exact ⟨place.length - (k + 1),by omega,k + 1,_,by omega,at_snoc hpa (by omega),rfl,U.only [1,3],m509.only [9]⟩
 intro hb515 U; try simp only [QQ,Qax] at hb515
 have hkp : k = place.length := by omega
 refine wcf U ?_
 refine wp_exit ?_
 refine hK3 _ _ ?_
 refine wsk fun K7 hK7 =>?_
 refine regS U (.assign rfl .nil) fun Y U =>?_
 refine wp_block ?_
 refine wp_loop_ghost (fun g a w => ∃ (k B : Nat),k ≤ items.length ∧ g = items.length - k ∧ (∀ z ∈ place,0 ≤ z ∧ z ≤ 7) ∧ (∀ e ∈ items.take k,(0 ≤ e.1 ∧ e.1 ≤ 255) ∧ e.2.length ≤ 32) ∧ Has 125 [(1,.pointer (some ⟨B,0,none⟩)),(4,.int .i64 k)] a ∧ MemOk (cn w0) w0 [(9,.box B 38 [.int .i64 kd,.int .i64 vo,.int .i64 bl,.int .i64 sz,.int .i64 pe,.slice pp place.length cp,.int .i64 to,.int .i64 at0,.int .i64 ix,.slice pi items.length ci])] w) (items.length) ?_ ?_
 · exact ⟨0,_,Nat.zero_le _,rfl,(at_all (hkp ▸ hpa)),(fun e he => by cases he),U.only [1,4],m509.ren [(9,9)] (by decide)⟩
 clear U m509
 rintro g Y w554 ⟨k,B,hkl,hg,hpz,hall,U,m554⟩
 refine wsk fun K8 hK8 =>?_
 refine regS U (.move rfl<|.fa 9 rfl U38<|.lb m554 9 U36 rfl rfl rfl<|.len rfl U36<|.lss rfl rfl .nil) fun Y U =>?_
 refine bc U 96 ?_ ?_
 ·
  intro hb560 U; try simp only [QQ,Qax] at hb560
  have hk : k < items.length := by omega
  obtain ⟨⟨xb,xd⟩,hes⟩ : ∃ e,items[k]? = some e := ⟨_,List.getElem?_eq_getElem hk⟩
  refine wct U ?_
  refine zss (hK8 _ _ ?_)
  refine wsk fun K9 hK9 =>?_
  refine wp_block ?_
  refine zsr fun K10 hK10 =>?_
  refine goCh U (.fa 9 rfl U38<|.lb m554 9 U36 rfl rfl rfl<|.move rfl .nil) fun Y U =>?_
  obtain ⟨gx568,ox568,vx568,hp568,hl568,hR568,hrg568⟩ := h1.extA (k) (r := [.v (.int .i64 xb),.ns .u8 xd]) (itD_get hes)
  revert U
  cases hp568
  rcases hR568 with _ | ⟨hd568_0,_ | ⟨hd568_1,_ | _⟩⟩
  obtain rfl := hd568_0.v_out
  clear hd568_0
  obtain ⟨p569,c569,hv569,hw569⟩ := hd568_1.ns_shape; subst hv569
  intro U
  refine goCh U (.c rfl (fun _ h_ => y_idx h_ rfl rfl U36 fct3 (k) rfl hk)<|.fieldAddrQ 0 rfl U59 rfl (s := 0) (by kernel_rfl) rfl<|.loadAt1 (hrg568 m554 rfl) (q := 0) rfl rfl rfl U3 rfl<|.lss rfl rfl<|.move rfl .nil) fun Y U =>?_
  refine bc U 106 ?_ ?_
  ·
   intro hb575 U; try simp only [QQ,Qax] at hb575
   refine gz hK10 U (.sk<|.sk<|.sk<|.sk<|.sk<|.sk<|.sk<|.pickT rfl rfl<|.move rfl<|.sk<|.sk<|.sk<|.sk<|.sk<|.sk<|.sk<|.sk<|.pickT rfl rfl<|.nil) fun Y U =>?_
   refine wct U ?_
   replace U := U.oz [1,4]
   refine regS U (.assign rfl .nil) fun Y U =>?_
   refine rt1 U ?_
   exact ⟨false,rfl,(fun h => by cases h),m554.below⟩
  intro hb575 U; try simp only [QQ,Qax] at hb575
  refine goCh U (.faZ 9 rfl U38<|.loadB1Z m554 (i := 9) rfl rfl rfl U36 rfl<|.moveZ rfl .nil) fun Y U =>?_
  obtain ⟨gx599,ox599,vx599,hp599,hl599,hR599,hrg599⟩ := h1.extA (k) (r := [.v (.int .i64 xb),.ns .u8 xd]) (itD_get hes)
  revert U
  cases hp599
  rcases hR599 with _ | ⟨hd599_0,_ | ⟨hd599_1,_ | _⟩⟩
  obtain rfl := hd599_0.v_out
  clear hd599_0
  obtain ⟨p600,c600,hv600,hw600⟩ := hd599_1.ns_shape; subst hv600
  intro U
  refine goCh U (.g rfl rfl rfl rfl (fun _ h_ => y_idx h_ rfl rfl U36 fct3 (k) rfl hk)<|.fieldAddrQZ 0 rfl U59 rfl (s := 0) (by kernel_rfl) rfl<|.loadAt1Z (hrg599 m554 rfl) (q := 0) rfl rfl rfl U3 rfl<|.geqZ rfl rfl<|.pickF rfl rfl<|.move rfl .nil) fun Y U =>?_
  refine bc U 115 ?_ ?_
  ·
   intro hb607 U; try simp only [QQ,Qax] at hb607
   refine gz hK10 U (.sk<|.sk<|.sk<|.sk<|.sk<|.sk<|.sk<|.sk<|.pickT rfl rfl<|.nil) fun Y U =>?_
   refine wct U ?_
   replace U := U.oz [1,4]
   refine regS U (.assign rfl .nil) fun Y U =>?_
   refine rt1 U ?_
   exact ⟨false,rfl,(fun h => by cases h),m554.below⟩
  intro hb607 U; try simp only [QQ,Qax] at hb607
  refine goCh U (.faZ 9 rfl U38<|.loadB1Z m554 (i := 9) rfl rfl rfl U36 rfl<|.moveZ rfl .nil) fun Y U =>?_
  obtain ⟨gx622,ox622,vx622,hp622,hl622,hR622,hrg622⟩ := h1.extA (k) (r := [.v (.int .i64 xb),.ns .u8 xd]) (itD_get hes)
  revert U
  cases hp622
  rcases hR622 with _ | ⟨hd622_0,_ | ⟨hd622_1,_ | _⟩⟩
  obtain rfl := hd622_0.v_out
  clear hd622_0
  obtain ⟨p623,c623,hv623,hw623⟩ := hd622_1.ns_shape; subst hv623
  intro U
  refine gz hK10 U (.g rfl rfl rfl rfl (fun _ h_ => y_idx h_ rfl rfl U36 fct3 (k) rfl hk)<|.fieldAddrQZ 1 rfl U59 rfl (s := 0) (by kernel_rfl) rfl<|.loadAt1Z (hrg622 m554 rfl) (q := 1) rfl rfl rfl U22 rfl<|.lenZ rfl U22<|.gtrZ rfl rfl<|.pickF rfl rfl<|.nil) fun Y U =>?_
  refine bc U 124 ?_ ?_
  ·
   intro hb630 U; try simp only [QQ,Qax] at hb630
   refine wct U ?_
   replace U := U.oz [1,4]
   refine regS U (.assign rfl .nil) fun Y U =>?_
   refine rt1 U ?_
   exact ⟨false,rfl,(fun h => by cases h),m554.below⟩
  intro hb630 U; try simp only [QQ,Qax] at hb630
  refine wcf U ?_
  refine zss (hK9 _ _ ?_)
  replace U := U.oz [1,4]
  refine wp_region_lit ?_
  refine goCh U (.move rfl<|.inc (k + 1)<|.assign rfl .nil) fun Y U =>?_
  refine wpList_nil ?_
  show ∃ n',n' < _ ∧ _
  exact ⟨items.length - (k + 1),by omega,k + 1,_,by omega,rfl,hpz,snoc_all hall hes (by dsimp only; omega),U.only [1,4],m554.only [9]⟩
 intro hb560 U; try simp only [QQ,Qax] at hb560
 have hk9 : k = items.length := by omega
 refine wcf U ?_
 refine wp_exit ?_
 refine hK7 _ _ ?_
 refine regS U (.assign rfl .nil) fun Y U =>?_
 refine rt1 U ?_
 exact ⟨true,rfl,(fun _ => ⟨by dsimp only; omega,by dsimp only; omega,⟨hw16a,hw16b,hw16c,hw16d,hw16f,hw16e⟩,by dsimp only; omega,hpz,by dsimp only; omega,fun e he => hall e (by rwa [hk9,List.take_length])⟩),m554.below⟩
theorem rcmdRight_n (kd vo bl sz pe to at0 ix : Int) (place : List Int) (items : List (Int × List Int)) (pp pi : Option Addr) (cp ni ci : Nat) (w0 : World) (h0 : Rd (fun _ => True) w0 (.slice pp place.length cp) (.ns .i64 place)) (h1 : Rd (fun _ => True) w0 (.slice pi ni ci) (.l 2 (items.map itD))) (hp : place.length ≤ 1000000) (hl : items.length ≤ 1000000) (hN : ¬ CmdR ⟨kd,vo,bl,sz,pe,place,to,at0,ix,items⟩) :
   Calls Tryz.prog 27 #[.agg #[.int .i64 kd,.int .i64 vo,.int .i64 bl,.int .i64 sz,.int .i64 pe,.slice pp place.length cp,.int .i64 to,.int .i64 at0,.int .i64 ix,.slice pi ni ci]] w0 fun e w' => e = .returned (.bool false) ∧ Below w0.heap.size w0 w' :=
 (rcmdRight_r kd vo bl sz pe to at0 ix place items pp pi cp ni ci w0 h0 h1 hp hl).mono (fun _ _ ⟨b,he,hb,hB⟩ => ⟨by cases b with | false => exact he | true => exact absurd (hb rfl) hN,hB⟩)
theorem rputCmd_no (kd vo bl sz pe to at0 ix : Int) (place : List Int) (items : List (Int × List Int)) (pp pi : Option Addr) (cp ni ci : Nat) (w0 : World) (h0 : Rd (fun _ => True) w0 (.slice pp place.length cp) (.ns .i64 place)) (h1 : Rd (fun _ => True) w0 (.slice pi ni ci) (.l 2 (items.map itD))) (hp : place.length ≤ 1000000) (hl : items.length ≤ 1000000) (hN : ¬ CmdR ⟨kd,vo,bl,sz,pe,place,to,at0,ix,items⟩) :
   Calls Tryz.prog 12 #[.agg #[.int .i64 kd,.int .i64 vo,.int .i64 bl,.int .i64 sz,.int .i64 pe,.slice pp place.length cp,.int .i64 to,.int .i64 at0,.int .i64 ix,.slice pi ni ci]] w0 fun e w' => e = .returned (.tuple #[.slice none 0 0,.int .i64 23]) ∧ Below w0.heap.size w0 w' := by
 obtain rfl : ni = items.length := by obtain ⟨pq,c9,hv,_⟩ := h1.l_shape; injection hv with _ e2 _; rw [List.length_map] at e2; exact e2
 refine ent1 Tryz.func12 rfl Tryz.ntmps12 fun Y U =>?_
 have m0 := MemOk.start (fun _ => False) w0
 refine zsr fun K0 hK0 =>?_
 refine plz (e_box U m0 20 (cs := [_,_,_,_,_,_,_,_,_,_]) rfl rfl rfl fun g1 Y w2 U m2 _ _ =>?_)
 refine gz hK0 U (.assign rfl<|.assign rfl<|.nil) fun Y U =>?_
 refine wsk fun K1 hK1 =>?_
 refine zsr fun K2 hK2 =>?_
 refine goCh U (.loadBR m2 (i := 20) rfl rfl U38 rfl fct18 (by simp) (by dsimp only [List.drop,List.take] <;> rfl) .nil) fun Y U =>?_
 refine plz (ecb U Tryz.func27 rfl m2 (rcmdRight_n _ _ _ _ _ _ _ _ place items _ _ _ _ _ _ ((h0.now' m2 rfl).any) ((h1.now' m2 rfl).any) hp hl hN) fun Y w7 U m8 =>?_)
 refine gz hK2 U (.not rfl .nil) fun Y U =>?_
 refine wct U ?_
 refine regS U (.assign rfl<|.assign rfl .nil) fun Y U =>?_
 refine rt2 U ?_
 exact ⟨rfl,m8.below⟩
end
section
def CsB (cs : List Cm) : Prop := ∀ c ∈ cs,c.pl.length ≤ 9 ∧ c.its.length ≤ 8 ∧ ItsB c.its
theorem vols_id {n : Nat} {x : VolV} {id : Int} (h : VolS n x) (hid : 0 ≤ id ∧ id ≤ 2) : VolS n { x with vo := id } := by
 obtain ⟨⟨hN,hR⟩,h2⟩ := h
 obtain ⟨a1,a2,a3⟩ := hN
 exact ⟨⟨⟨by dsimp only; omega,by dsimp only; omega,a3⟩,hR⟩,h2⟩
set_option maxRecDepth 100000
set_option maxHeartbeats 4000000
end
section
def SrtV (R : List VolV) : Prop := (R.map (·.vo)).Pairwise (· < ·)
theorem SrtV.nodup {R : List VolV} (h : SrtV R) : (R.map (·.vo)).Nodup := h.imp (fun h => by omega)
theorem vo_inj {R : List VolV} (h : (R.map (·.vo)).Nodup) {x y : VolV} (hx : x ∈ R) (hy : y ∈ R) (he : x.vo = y.vo) : x = y := by
 obtain ⟨i,hi⟩ := List.getElem?_of_mem hx
 obtain ⟨j,hj⟩ := List.getElem?_of_mem hy
 have h1 : (R.map (·.vo))[i]? = some x.vo := by rw [List.getElem?_map,hi]; rfl
 have h2 : (R.map (·.vo))[j]? = some x.vo := by rw [List.getElem?_map,hj,he]; rfl
 have := nodup_at h h1 h2
 subst this
 rw [hi] at hj; injection hj
theorem all_of {L R : List VolV} (hp : L.Perm R) (hs : SrtV R) : allL L = R := by
 have hk : idsL L = R.map (·.vo) := by
   refine List.Perm.eq_of_pairwise (le := fun x y => x ≤ y) (fun a b _ _ h1 h2 => by omega) ?_ (hs.imp (fun h => by omega)) ?_
   · have := List.pairwise_mergeSort (le := fun x y : Int => decide (x ≤ y)) (fun a b c h1 h2 => by simp at *; omega) (fun a b => by simp; omega) (L.map (·.vo))
     exact this.imp (fun h => of_decide_eq_true h)
   exact (List.mergeSort_perm _ _).trans (hp.map _)
 rw [allL,hk,List.map_map]
 conv => rhs; rw [← List.map_id R]
 refine List.map_congr_left (fun y hy =>?_)
 show (L.find? (fun z => decide (z.vo = y.vo))).getD volZ = y
 cases hf : L.find? (fun z => decide (z.vo = y.vo)) with
 | none => exact absurd (show y.vo = y.vo from rfl) (by simpa using List.find?_eq_none.1 hf y (hp.mem_iff.2 hy))
 | some z =>
   have hz := List.mem_of_find?_eq_some hf
   have he : z.vo = y.vo := by simpa using List.find?_some hf
   exact vo_inj hs.nodup (hp.mem_iff.1 hz) hy he
theorem set_map {R : List VolV} (h : (R.map (·.vo)).Nodup) {j : Nat} {x y : VolV} (hj : R[j]? = some x) : R.set j y = R.map (fun z => if z.vo = x.vo then y else z) := by
 refine List.ext_getElem? (fun i =>?_)
 rw [List.getElem?_map,List.getElem?_set]
 by_cases hij : j = i
 · subst hij
   rw [if_pos rfl,hj]
   obtain ⟨hlt,_⟩ := List.getElem?_eq_some_iff.1 hj
   simp [hlt]
 rw [if_neg hij]
 cases hi : R[i]? with
 | none => rfl
 | some z =>
   show some z = some (if z.vo = x.vo then y else z)
   rw [if_neg]
   intro he
   have h1 : (R.map (·.vo))[i]? = some x.vo := by rw [List.getElem?_map,hi,← he]; rfl
   have h2 : (R.map (·.vo))[j]? = some x.vo := by rw [List.getElem?_map,hj]; rfl
   exact hij (nodup_at h h2 h1)
theorem ins_perm {R : List VolV} {v : VolV} : (R ++ [v]).Perm (insV R v) := by
 unfold insV
 have h : R.takeWhile (fun y => decide (y.vo < v.vo)) ++ R.dropWhile (fun y => decide (y.vo < v.vo)) = R := List.takeWhile_append_dropWhile
 conv => lhs; rw [← h]
 rw [List.append_assoc,List.append_assoc]
 exact List.Perm.append_left _ List.perm_append_comm
theorem ins_srt {v : VolV} : ∀ {R : List VolV},SrtV R → (¬ ∃ y ∈ R,y.vo = v.vo) → SrtV (insV R v)
 | [],_,_ => by simp [insV,SrtV]
 | y :: t,hs,hn => by
   unfold SrtV at hs
   rw [List.map_cons,List.pairwise_cons] at hs
   have hy : y.vo ≠ v.vo := fun e => hn ⟨y,List.mem_cons_self,e⟩
   by_cases hlt : y.vo < v.vo
   · have ih := ins_srt (v := v) (R := t) hs.2 (fun ⟨z,hz,e⟩ => hn ⟨z,List.mem_cons_of_mem _ hz,e⟩)
     have e : insV (y :: t) v = y :: insV t v := by simp [insV,List.takeWhile,List.dropWhile,hlt]
     rw [e]; unfold SrtV
     rw [List.map_cons,List.pairwise_cons]
     refine ⟨fun z hz =>?_,ih⟩
     obtain ⟨u,hu,rfl⟩ := List.mem_map.1 hz
     have := (ins_perm (R := t) (v := v)).mem_iff.2 hu
     rcases List.mem_append.1 this with h | h
     · exact hs.1 _ (List.mem_map_of_mem h)
     simp at h; subst h; exact hlt
   have e : insV (y :: t) v = v :: y :: t := by simp [insV,List.takeWhile,List.dropWhile,hlt]
   rw [e]; unfold SrtV
   rw [List.map_cons,List.pairwise_cons]
   refine ⟨fun z hz =>?_,by rw [List.map_cons,List.pairwise_cons]; exact hs⟩
   rw [List.map_cons] at hz
   rcases List.mem_cons.1 hz with rfl | hz
   · omega
   have := hs.1 z hz; omega
theorem app_perm {L R : List VolV} (c : Cm) (hp : L.Perm R) (hs : SrtV R) : (mApp L c).1.Perm (rApp R c).1 ∧ SrtV (rApp R c).1 := by
 have hnL : (L.map (·.vo)).Nodup := (hp.map (·.vo)).nodup_iff.2 hs.nodup
 have hex : (∃ y ∈ L,y.vo = c.vo) ↔ ∃ y ∈ R,y.vo = c.vo := ⟨fun ⟨y,h,e⟩ => ⟨y,hp.mem_iff.1 h,e⟩,fun ⟨y,h,e⟩ => ⟨y,hp.mem_iff.2 h,e⟩⟩
 by_cases hk : c.kd = 1
 · by_cases he : ∃ y ∈ R,y.vo = c.vo
   · rw [rApp_ex hk he,mApp,if_pos hk,if_pos (hex.2 he)]; exact ⟨hp,hs⟩
   by_cases hN : NewOk c.vo c.bl c.sz c.pe c.to c.pl
   · rw [mApp,rApp,if_pos hk,if_pos hk,if_neg (fun h => he (hex.1 h)),if_neg he,if_pos hN,if_pos hN]
     exact ⟨(hp.append_right _).trans ins_perm,ins_srt hs he⟩
   rw [rApp_bad hk he hN,mApp,if_pos hk,if_neg (fun h => he (hex.1 h)),if_neg hN]; exact ⟨hp,hs⟩
 by_cases he : ∃ y ∈ R,y.vo = c.vo
 · obtain ⟨x,hxR,hxv⟩ := he
   obtain ⟨j,hj⟩ := List.getElem?_of_mem hxR
   obtain ⟨i,hi⟩ := List.getElem?_of_mem (hp.mem_iff.2 hxR)
   obtain ⟨y,e9,hd⟩ : ∃ y e9,doV x c = (y,e9) := ⟨_,_,rfl⟩
   obtain ⟨rl,rf,rn,hr⟩ : ∃ rl rf rn,repV y e9 = (rl,rf,rn) := ⟨_,_,_,rfl⟩
   have h1 := rApp_do hk hs.nodup hj hxv hd hr
   have h2 : (mApp L c).1 = L.set i y := by
     have h3 : (mApp L c).1 = (rApp L c).1 := by rw [mApp,rApp,if_neg hk,if_neg hk]; cases List.findIdx? (fun y => decide (y.vo = c.vo)) L <;> rfl
     rw [h3,rApp_do hk hnL hi hxv hd hr]
   have hv : y.vo = x.vo := doV_vo hd
   rw [h1,h2]
   show (L.set i y).Perm (R.set j y) ∧ SrtV (R.set j y)
   rw [set_map hnL hi,set_map hs.nodup hj]
   refine ⟨hp.map _,?_⟩
   unfold SrtV
   rw [List.map_map,show ((fun z : VolV => z.vo) ∘ fun z => if z.vo = x.vo then y else z) = fun z => z.vo from funext (fun z => by
     show (if z.vo = x.vo then y else z).vo = z.vo
     split
     · rename_i h; rw [hv,h]
     rfl)]
   exact hs
 have hnL' : ¬ ∃ y ∈ L,y.vo = c.vo := fun h => he (hex.1 h)
 have h3 : (mApp L c).1 = (rApp L c).1 := by rw [mApp,rApp,if_neg hk,if_neg hk]; cases List.findIdx? (fun y => decide (y.vo = c.vo)) L <;> rfl
 rw [h3,rApp_no hk he,rApp_no hk hnL']; exact ⟨hp,hs⟩
open Classical in
noncomputable def rrL (cs : List Cm) : List VolV := cs.foldl (fun L c => if CmdR c then (rApp L c).1 else L) []
theorem rApp_s {n : Nat} {R : List VolV} {c : Cm} (hs : SrtV R) (hV : ∀ y ∈ R,VolS n y) (hb : ∀ e ∈ c.its,BytesL e.2) : (∀ y ∈ (rApp R c).1,VolS (n + 1) y) ∧ (rApp R c).1.length ≤ R.length + 1 ∧ SrtV (rApp R c).1 := by
 obtain ⟨h1,h2⟩ := app_perm c (List.Perm.refl R) hs
 obtain ⟨L',e9,rl,rf,rn,h⟩ : ∃ L' e9 rl rf rn,mApp R c = (L',e9,rl,rf,rn) := ⟨_,_,_,_,_,rfl⟩
 obtain ⟨h3,h4⟩ := mApp_s h hV hb
 rw [h] at h1
 exact ⟨fun y hy => h3 y (h1.mem_iff.2 hy),by rw [← h1.length_eq]; exact h4,h2⟩
end
section
def VolX (x : VolV) : Prop := VolR x.vo x.bl x.sz x.pe x.to x.ne x.fl x.hi x.place x.pins x.ws
def VQ (x : VolV) : Prop := VP x ∧ VolX x ∧ WBy x.ws
theorem vol_sq {x : VolV} (h : VolX x) : ∀ (k : Nat) (w : PWr),x.ws[k]? = some w → w.1 = (k : Int) + 1 := fun k w hw => by
 have hk := (List.getElem?_eq_some_iff.1 hw).1
 have h9 := (h.2.2.2.2.2.2.2.2 k hk).1
 rw [List.getD,hw] at h9; exact h9
theorem VolX.vp {x : VolV} (h : VolX x) (hp : x.pins.length ≤ 60000) (hw : x.ws.length ≤ 60000) : VP x := by
 obtain ⟨⟨a1,a2,a3,a4,a5,a6,a7,a8,a9,a10,a11⟩,h2,h3,h4,h5,h6,h7,h8,h9⟩ := h
 have hpl : x.place.length ≤ 256 := by
   have e := a9.2
   have hpos : (0 : Int) < x.pe := by omega
   have h1 : (x.bl + x.pe - 1) / x.pe ≤ x.bl := by
     refine Int.ediv_le_of_le_mul hpos ?_
     have : 0 ≤ (x.bl - 1) * (x.pe - 1) := Int.mul_nonneg (by omega) (by omega)
     have e2 : (x.bl - 1) * (x.pe - 1) = x.bl * x.pe - x.bl - x.pe + 1 := by rw [Int.sub_mul,Int.mul_sub]; omega
     have e3 : x.pe * x.bl = x.bl * x.pe := Int.mul_comm _ _
     omega
   omega
 refine ⟨by omega,⟨hpl,fun z hz => by have := a9.1 z hz; omega⟩,by omega,⟨hp,fun z hz =>?_⟩,hw,fun e he =>?_⟩
 · have := (pinspre_iff.1 h8).2 z hz; omega
 obtain ⟨j,hj,rfl⟩ := List.getElem_of_mem he
 have h10 := (h9 j hj).2
 rw [List.getD,List.getElem?_eq_getElem hj] at h10
 simp only [Option.getD_some] at h10
 obtain ⟨g1,g2,g3⟩ := h10
 refine ⟨g2,fun y hy =>?_⟩
 obtain ⟨i,hi,rfl⟩ := List.getElem_of_mem hy
 have h11 := g3 i hi
 rw [List.getD,List.getElem?_eq_getElem hi] at h11
 simp only [Option.getD_some] at h11
 have := h11; omega
theorem VolS.q {n : Nat} {x : VolV} (h : VolS n x) (hn : n ≤ 60000) : VQ x := ⟨VolX.vp h.1 (by have := h.2.2.1; omega) (by have := h.2.2.2.1; omega),h.1,h.2.2.2.2⟩
theorem wsE_by : ∀ {ws : List PWr},(∀ e ∈ ws,e.2.length ≤ 8 ∧ ∀ y ∈ e.2,(0 ≤ y.1 ∧ y.1 ≤ 255) ∧ y.2.length ≤ 32) → WBy ws → BytesL (wsE ws)
 | [],_,_ => fun x hx => by cases hx
 | e :: l,h,hb => by
   have h1 := wsE_by (ws := l) (fun x hx => h x (List.mem_cons_of_mem _ hx)) (fun x hx => hb x (List.mem_cons_of_mem _ hx))
   have h0 := h e List.mem_cons_self
   rw [show wsE (e :: l) = wE e ++ wsE l from List.flatMap_cons]
   refine bytes_app2 ?_ h1
   refine bytes_app2 ?_ ?_
   · have := encs_bytes (l := [(e.2.length : Int)]) (fun x hx => by simp at hx; omega)
     simpa [encs] using this
   exact items_bytes (fun y hy => ⟨by have := (h0.2 y hy).1; omega,by have := (h0.2 y hy).2; omega,hb e List.mem_cons_self y hy⟩)
theorem volE_by {x : VolV} (h : VQ x) : BytesL (volE x) := by
 obtain ⟨hP,hX,hW⟩ := h
 refine bytes_app2 ?_ (wsE_by hP.it hW)
 have h4 := hP.h4; have h3 := hP.h3; have h5 := hidI_bd x.hi
 intro z hz
 simp only [headE,headL,List.flatten_cons,List.flatten_nil,List.append_nil,List.mem_append] at hz
 rcases hz with hz | ⟨hz | hz⟩ | hz | ⟨hz | hz⟩ | hz
 · exact encs_bytes (l := [x.vo,x.bl,x.sz,x.pe]) (fun y hy => by simp at hy; omega) z hz
 · exact encs_bytes (l := [(x.place.length : Int)]) (fun y hy => by simp at hy; have := hP.pl.1; omega) z hz
 · exact encs_bytes (l := x.place) (fun y hy => by have := hP.pl.2 y hy; omega) z hz
 · exact encs_bytes (l := [x.to,x.ne,hidI x.hi,x.fl]) (fun y hy => by simp at hy; omega) z hz
 · exact encs_bytes (l := [(x.pins.length : Int)]) (fun y hy => by simp at hy; have := hP.pn.1; omega) z hz
 · exact encs_bytes (l := x.pins) (fun y hy => by have := hP.pn.2 y hy; omega) z hz
 exact encs_bytes (l := [(x.ws.length : Int)]) (fun y hy => by simp at hy; have := hP.ws; omega) z hz
theorem snap_by {R : List VolV} (h : ∀ y ∈ R,VQ y) (hl : R.length ≤ 8) : BytesL (snapE R) := by
 refine bytes_app2 (encs_bytes (l := [(R.length : Int)]) (fun y hy => by simp at hy; omega)) (fun z hz =>?_)
 obtain ⟨y,hy,hzy⟩ := List.mem_flatMap.1 hz
 exact volE_by (h y hy) z hzy
theorem snap_cons {R : List VolV} : snapE R = enc (R.length : Int) ++ R.flatMap volE := by simp [snapE,encs]
theorem vols_drop {R : List VolV} {k : Nat} {y : VolV} (h : R[k]? = some y) : (R.drop k).flatMap volE = volE y ++ (R.drop (k + 1)).flatMap volE := by
 obtain ⟨hk,e⟩ := List.getElem?_eq_some_iff.1 h
 rw [List.drop_eq_getElem_cons hk,e,List.flatMap_cons]
theorem srt_new {R : List VolV} (hS : SrtV R) {k : Nat} {y : VolV} (h : R[k]? = some y) : ∀ z ∈ R.take k,z.vo ≠ y.vo := fun z hz => by
 obtain ⟨j,hj⟩ := List.getElem?_of_mem hz
 have hjk : j < k := by have := (List.getElem?_eq_some_iff.1 hj).1; rw [List.length_take] at this; omega
 rw [List.getElem?_take,if_pos hjk] at hj
 obtain ⟨hk,e1⟩ := List.getElem?_eq_some_iff.1 h
 obtain ⟨hj9,e2⟩ := List.getElem?_eq_some_iff.1 hj
 have h9 := List.pairwise_iff_getElem.1 hS j k (by rw [List.length_map]; exact hj9) (by rw [List.length_map]; exact hk) hjk
 rw [List.getElem_map,List.getElem_map,e1,e2] at h9
 omega
theorem mpuK_add {L : List VolV} {y : VolV} : mpuK (L.map keyV) (.int .i64 y.vo) none = (L ++ [y]).map keyV := by simp [mpuK,keyV]
theorem mpuR_add {L : List VolV} {y : VolV} : mpuR (L.map volD) [.v (.int .i64 y.vo),.v (.int .i64 y.bl),.v (.int .i64 y.sz),.v (.int .i64 y.pe),.ns .i64 y.place,.v (.int .i64 y.to),.v (.int .i64 y.ne),.v (.bool y.hi),.v (.int .i64 y.fl),.ns .i64 y.pins,.l 2 (y.ws.map wrD)] none = (L ++ [y]).map volD := by simp [mpuR,volD]
set_option maxRecDepth 100000
set_option maxHeartbeats 4000000
theorem take_v (X : Cx) (B : Nat) (b : List Int) (x : VolV) (T : List Int) (p : Option Addr) (c : Nat) (w0 : World) (hP : VP x) (hSq : ∀ (k : Nat) (w : PWr),x.ws[k]? = some w → w.1 = (k : Int) + 1) (hb : b.length ≤ 1000000) (hbb : BytesL b) (hbe : b = volE x ++ T) (m0 : MemOk X w0 [(1,.box B 148 [.slice p (b).length c,.int .i64 0]),(2,.dat (.slice p (b).length c) (.ns .u8 (b)))] w0) :
   Calls Tryz.prog 61 #[.pointer (some ⟨B,0,none⟩)] w0 fun e w' => ∃ (p' p1 p2 p3 : Option Addr) (c' d1 d2 d3 : Nat),e = .returned (.agg #[.int .i64 x.vo,.int .i64 x.bl,.int .i64 x.sz,.int .i64 x.pe,.slice p1 x.place.length d1,.int .i64 x.to,.int .i64 x.ne,.bool x.hi,.int .i64 x.fl,.slice p2 x.pins.length d2,.slice p3 (x.ws.map wrD).length d3]) ∧ MemOk X w0 [(1,.box B 148 [.slice p' (T).length c',.int .i64 0]),(2,.dat (.slice p' (T).length c') (.ns .u8 (T))),(3,.dat (.slice p1 x.place.length d1) (.ns .i64 x.place)),(4,.dat (.slice p2 x.pins.length d2) (.ns .i64 x.pins)),(5,.dat (.slice p3 (x.ws.map wrD).length d3) (.l 2 (x.ws.map wrD)))] w' := by
 have e0 : b = enc x.vo ++ (enc x.bl ++ (enc x.sz ++ (enc x.pe ++ (enc (x.place.length : Int) ++ (encs x.place ++ (enc x.to ++ (enc x.ne ++ (enc (hidI x.hi) ++ (enc x.fl ++ (enc (x.pins.length : Int) ++ (encs x.pins ++ (enc (x.ws.length : Int) ++ (wsE x.ws ++ T))))))))))))) := by rw [hbe]; simp [volE,headE,headL,encs]
 exact take_o X B b _ _ _ _ _ _ _ _ _ _ T x p c w0 hP hSq hb hbb e0 rfl rfl rfl rfl rfl rfl rfl rfl rfl rfl m0
theorem vright_y (y : VolV) (hX : VolX y) (hP : VP y) (pp pn pw : Option Addr) (cp cn9 nw cw : Nat) (w0 : World) (h0 : Rd (fun _ => True) w0 (.slice pp y.place.length cp) (.ns .i64 y.place)) (h1 : Rd (fun _ => True) w0 (.slice pn y.pins.length cn9) (.ns .i64 y.pins)) (h2 : Rd (fun _ => True) w0 (.slice pw nw cw) (.l 2 (y.ws.map wrD))) :
   Calls Tryz.prog 63 #[.agg #[.int .i64 y.vo,.int .i64 y.bl,.int .i64 y.sz,.int .i64 y.pe,.slice pp y.place.length cp,.int .i64 y.to,.int .i64 y.ne,.bool y.hi,.int .i64 y.fl,.slice pn y.pins.length cn9,.slice pw nw cw]] w0 fun e w' => e = .returned (.bool true) ∧ Below w0.heap.size w0 w' :=
 (vright_nn y.vo y.bl y.sz y.pe y.to y.ne y.fl y.hi y.place y.pins y.ws pp pn pw cp cn9 cw nw w0 h0 h1 h2 (by have := hP.pl.1; omega) (by have := hP.pn.1; omega) (by have := hP.ws; omega) (fun e he => by have := (hP.it e he).1; omega)).mono fun e w' ⟨b,he,hb,hw⟩ => ⟨by rw [he,hb.2 hX],hw⟩
theorem load_o (X : Cx) (B G : Nat) (L0 R : List VolV) (hS : SrtV R) (hQ : ∀ y ∈ R,VQ y) (hl : R.length ≤ 8) (hb : (snapE R).length ≤ 1000000) (p : Option Addr) (c : Nat) (w0 : World) (m0 : MemOk X w0 [(1,.box B 87 [.map (some G)]),(2,.mp G 11 ((L0).map keyV) ((L0).map volD)),(3,.dat (.slice p (snapE R).length c) (.ns .u8 (snapE R)))] w0) :
   Calls Tryz.prog 23 #[.pointer (some ⟨B,0,none⟩),.slice p (snapE R).length c] w0 fun e w' => ∃ G2,e = .returned (.bool true) ∧ MemOk X w0 [(1,.box B 87 [.map (some G2)]),(2,.mp G2 11 ((R).map keyV) ((R).map volD)),(3,.dat (.slice p (snapE R).length c) (.ns .u8 (snapE R)))] w' := by
 refine ent2 Tryz.func23 rfl Tryz.ntmps23 fun Y U =>?_
 have hbb : BytesL (snapE R) := snap_by hQ hl
 have hb0 : (R.flatMap volE).length ≤ 1000000 := len_r snap_cons hb
 have hbb0 : BytesL (R.flatMap volE) := bytes_r (a := enc (R.length : Int)) (by rw [← snap_cons]; exact hbb)
 refine regS U (.assign rfl .nil) fun Y U =>?_
 refine zsr fun K0 hK0 =>?_
 refine plz (ecl U Tryz.func9 rfl (mnew_x _ _ (m0.into [] (by decide) rfl)) ?_)
 rintro e w2 ⟨B5,G5,rfl,hm2⟩
 have mx2 := m0.back hm2 [(51,1),(52,2)] (by decide); clear hm2 m0
 have m2 := mx2.oz [51,52,1,2,3]
 refine ⟨_,rfl,?_⟩; intro Y U
 refine goCh U (.move rfl .nil) fun Y U =>?_
 refine plz (ecl U Tryz.func59 rfl (pnew_f _ (snapE R) _ _ _ hb (m2.into [(1,3)] (by decide) rfl)) ?_)
 rintro e w5 ⟨B6,p5,c5,rfl,hm5⟩
 have mx5 := m2.back hm5 [(53,1),(54,2),(3,3)] (by decide); clear hm5 m2
 have m5 := mx5.oz [53,54,3,1,2,51,52]
 refine ⟨_,rfl,?_⟩; intro Y U
 refine gz hK0 U (.assign rfl<|.assign rfl<|.nil) fun Y U =>?_
 refine zsr fun K1 hK1 =>?_
 refine goCh U (.move rfl .nil) fun Y U =>?_
 refine plz (ecl U Tryz.func60 rfl (pnum_ok _ _ _ 8 _ _ _ (R.length : Int) (R.flatMap volE) hb hbb snap_cons (by omega) (by omega) (m5.into [(1,53),(2,54)] (by decide) rfl)) ?_)
 rintro e w11 ⟨p11,c11,rfl,hm11⟩
 have mx11 := m5.back hm11 [(53,1),(54,2)] (by decide); clear hm11 m5
 have m11 := mx11.oz [53,54,1,2,3,51,52]
 refine ⟨_,rfl,?_⟩; intro Y U
 refine gz hK1 U (.conv rfl U108 U3 (r := (R.length : Int)) (IntWalk.i64_in _ (by omega))<|.assign rfl<|.nil) fun Y U =>?_
 refine wsk fun K2 hK2 =>?_
 replace U := U.oz [0,1,4,5,6,7]
 refine regS U (.move rfl<|.move rfl .nil) fun Y U =>?_
 refine wp_block ?_
 refine wp_loop_ghost (fun g a w => ∃ (k : Nat) (q1 : Option Addr) (d1 : Nat),k ≤ R.length ∧ g = R.length - k ∧ ((R.drop k).flatMap volE).length ≤ 1000000 ∧ BytesL ((R.drop k).flatMap volE) ∧ Has 48 [(0,.pointer (some ⟨B,0,none⟩)),(1,.slice p (snapE R).length c),(5,.pointer (some ⟨B5,0,none⟩)),(6,.pointer (some ⟨B6,0,none⟩)),(15,.int .i64 (R.length : Int)),(16,.int .i64 k)] a ∧ MemOk X w0 [(1,.box B 87 [.map (some G)]),(2,.mp G 11 ((L0).map keyV) ((L0).map volD)),(3,.dat (.slice p (snapE R).length c) (.ns .u8 (snapE R))),(51,.box B5 87 [.map (some G5)]),(52,.mp G5 11 ((R.take k).map keyV) ((R.take k).map volD)),(53,.box B6 148 [.slice q1 (((R.drop k).flatMap volE)).length d1,.int .i64 0]),(54,.dat (.slice q1 (((R.drop k).flatMap volE)).length d1) (.ns .u8 (((R.drop k).flatMap volE))))] w) (R.length) ?_ ?_
 · exact ⟨0,_,_,Nat.zero_le _,rfl,hb0,hbb0,U.only [0,1,5,6,15,16],m11.ren [(1,1),(2,2),(3,3),(51,51),(52,52),(53,53),(54,54)] (by decide)⟩
 clear U m11
 rintro g Y w18 ⟨k,q1,d1,hkl,hg,hb1,hbb1,U,m18⟩
 refine regS U (.lss rfl rfl .nil) fun Y U =>?_
 refine wsk fun K3 hK3 =>?_
 refine bc U 17 ?_ ?_
 ·
  intro hb20 U; try simp only [QQ,Qax] at hb20
  have hk : k < R.length := by omega
  obtain ⟨y,hes⟩ : ∃ e,R[k]? = some e := ⟨_,List.getElem?_eq_getElem hk⟩
  have hyR := List.mem_of_getElem? hes
  have hno : ∀ z ∈ R.take k,z.vo ≠ y.vo := srt_new hS hes
  have hb2 : ((R.drop (k + 1)).flatMap volE).length ≤ 1000000 := len_r (vols_drop hes) hb1
  have hbb2 : BytesL ((R.drop (k + 1)).flatMap volE) := bytes_r (by rw [← vols_drop hes]; exact hbb1)
  refine wct U ?_
  refine zss (hK3 _ _ ?_)
  refine wsk fun K4 hK4 =>?_
  refine wp_block ?_
  refine zsr fun K5 hK5 =>?_
  refine goCh U (.move rfl .nil) fun Y U =>?_
  refine plz (ecl U Tryz.func61 rfl (take_v _ _ _ y ((R.drop (k + 1)).flatMap volE) _ _ _ (hQ y hyR).1 (vol_sq (hQ y hyR).2.1) hb1 hbb1 (vols_drop hes) (m18.into [(1,53),(2,54)] (by decide) rfl)) ?_)
  rintro e w23 ⟨p23,pa23,pb23,pc23,c23,da23,db23,dc23,rfl,hm23⟩
  have mx23 := m18.back hm23 [(53,1),(54,2),(100,3),(101,4),(102,5)] (by decide); clear hm23 m18
  have m23 := mx23.oz [53,54,100,101,102,1,2,3,51,52]
  refine ⟨_,rfl,?_⟩; intro Y U
  refine plz (e_alloc U m23 103 fct14 rfl fun g25 Y w26 U m26 _ _ =>?_)
  refine plz (stw U m26 103 fct13 fun w27 m27 _ =>?_)
  refine znl (hK5 _ _ ?_)
  refine wsk fun K6 hK6 =>?_
  refine zsr fun K7 hK7 =>?_
  refine goCh U (.move rfl .nil) fun Y U =>?_
  refine plz (ecl U Tryz.func62 rfl (perr_x _ _ _ _ _ _ _ (m27.into [(1,53),(2,54)] (by decide) rfl)) ?_)
  rintro e w30 ⟨rfl,hm30⟩
  have mx30 := m27.back hm30 [(53,1),(54,2)] (by decide); clear hm30 m27
  have m30 := mx30.oz [53,54,1,2,3,51,52,100,101,102,103]
  refine ⟨_,rfl,?_⟩; intro Y U
  refine goCh U (.neq rfl rfl<|.move rfl .nil) fun Y U =>?_
  refine bc U 23 ?_ ?_
  · intro hb _; exact absurd hb (by simp)
  clear U; intro _ U
  refine goCh U (.loadBRZ m30 (i := 103) rfl rfl U51 rfl fct13 (by simp) (by dsimp only [List.drop,List.take] <;> rfl) .nil) fun Y U =>?_
  refine stz U (ecb U Tryz.func63 rfl m30 (vright_y y (hQ y hyR).2.1 (hQ y hyR).1 _ _ _ _ _ _ _ _ ((m30.rd (i := 100) rfl).any) ((m30.rd (i := 101) rfl).any) ((m30.rd (i := 102) rfl).any)) fun Y w36 U m37 =>?_)
  refine gz hK7 U (.notZ rfl<|.pickF rfl rfl<|.nil) fun Y U =>?_
  refine wcf U ?_
  refine zss (hK6 _ _ ?_)
  replace U := U.oz [0,1,5,6,15,16,8]
  have m42 := m37.oz [1,2,3,51,52,53,54,100,101,102,103]
  refine region_p 7 (B := [(1,_),(2,_),(3,_),(51,_),(52,_),(53,_),(54,_),(100,_),(101,_),(102,_),(103,_)]) (m42.to ⟨il,il,il,il,il,il,il,il,il,il,il,trivial⟩) m42 (by kernel_rfl) (fun w43 hP43 m43 =>?_); clear m42
  refine goR hP43 [0,1,2,3,4,5,6] [3,5,6] 7 0 127 U (m43.to ⟨il,il,il,il,il,il,il,il,il,il,il,trivial⟩) (.move rfl<|.nilCheck rfl<|.fa 0 rfl U87<|.lb hh 51 U85 rfl rfl rfl<|.fa 0 rfl U51<|.lb hh 103 U3 rfl rfl rfl<|.loadBR hh (i := 103) rfl rfl U51 rfl fct13 (by simp) (by dsimp only [List.drop,List.take] <;> rfl) .nil) fun Y U =>?_
  refine se 7 ?_
  refine e_mapUpdate (Q := _) U m43 52 rfl rfl rfl rfl U85 (KeyT.int (q := .i64) U3) keyI ⟨_,rfl⟩ rfl rfl (.cons (.v _) (.cons (.v _) (.cons (.v _) (.cons (.v _) (.cons (m43.rd (i := 100) rfl) (.cons (.v _) (.cons (.v _) (.cons (.v _) (.cons (.v _) (.cons (m43.rd (i := 101) rfl) (.cons (m43.rd (i := 102) rfl) .nil))))))))))) none (keyV_ne hno) fun w51 m51 _ =>?_
  refine wpAnyE_done (by kernel_rfl) ?_ _
  refine hK4 _ _ ?_
  replace U := U.oz [0,1,5,6,15,16]
  refine wp_region_lit ?_
  refine goCh U (.inc (k + 1)<|.move rfl .nil) fun Y U =>?_
  refine wpList_nil ?_
  show ∃ n',n' < _ ∧ _
  rw [mpuK_add,mpuR_add,← take_snoc hes] at m51
  exact ⟨R.length - (k + 1),by omega,k + 1,_,_,by omega,rfl,hb2,hbb2,U.only [0,1,5,6,15,16],m51.ren [(1,1),(2,2),(3,3),(51,51),(52,52),(53,53),(54,54)] (by decide)⟩
 intro hb20 U; try simp only [QQ,Qax] at hb20
 revert U
 obtain rfl : k = R.length := by omega
 intro U
 rw [List.take_length] at m18
 refine wcf U ?_
 refine wp_exit ?_
 refine hK2 _ _ ?_
 refine wsk fun K8 hK8 =>?_
 refine zsr fun K9 hK9 =>?_
 refine goCh U (.move rfl .nil) fun Y U =>?_
 refine plz (ecl U Tryz.func22 rfl (snap_x _ _ _ R _ (fun y hy => (hQ y hy).1) hl (m18.into [(1,51),(2,52)] (by decide) rfl)) ?_)
 rintro e w57 ⟨p57,c57,rfl,hm57⟩
 have mx57 := m18.back hm57 [(51,1),(52,2),(100,3)] (by decide); clear hm57 m18
 have m57 := mx57.oz [51,52,100,1,2,3,53,54]
 refine ⟨_,rfl,?_⟩; intro Y U
 refine goCh U (.move rfl .nil) fun Y U =>?_
 refine plz (ecb U Tryz.func64 rfl m57 (mbeq_z (congrArg snapE (all_of (List.Perm.refl R) hS)) _ _ _ _ _ ((m57.rd (i := 100) rfl).any) ((m57.rd (i := 3) rfl).any) (snap_by (fun y hy => hQ y (by rw [← all_of (List.Perm.refl R) hS]; exact hy)) (by rw [all_of (List.Perm.refl R) hS]; exact hl))) fun Y w60 U m61 =>?_)
 refine gz hK9 U (.not rfl .nil) fun Y U =>?_
 refine wcf U ?_
 refine zss (hK8 _ _ ?_)
 replace U := U.oz [0,1,5,6,15,16]
 refine zsr fun K10 hK10 =>?_
 refine goCh U (.move rfl<|.move rfl<|.nilCheck rfl<|.fa 0 rfl U87<|.lb m61 51 U85 rfl rfl rfl<|.nilCheck rfl<|.fa 0 rfl U87 .nil) fun Y U =>?_
 refine plz (st1 U m61 1 fct32 fun w79 m79 _ =>?_)
 refine znl (hK10 _ _ ?_)
 replace U := U.oz [0,1,5,6,15,16]
 refine regS U (.assign rfl .nil) fun Y U =>?_
 refine rt1 U ?_
 exact ⟨G5,rfl,m79.ren [(1,1),(2,52),(3,3)] (by decide)⟩
end
end Go.Proofs.YtkehgingagggaaaGreat.K
