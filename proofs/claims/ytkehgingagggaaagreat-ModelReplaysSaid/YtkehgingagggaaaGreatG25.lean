/- General laws of walks. -/
import Derived.Test.YtkehgingagggaaaGreatG24
import Derived.Test.YtkehgingagggaaaGreatG19
namespace Go.Proofs.YtkehgingagggaaaGreat.K
open Go.ChangeShapes Go.WideShapes Go.ChangeAt Go.RowKit
set_option linter.unusedVariables false
set_option linter.unusedSimpArgs false
section
theorem at_snoc {l : List Int} {k : Nat} (h : ∀ i,i < k → 0 ≤ l.getD i 0 ∧ l.getD i 0 ≤ 7) (hk : 0 ≤ l.getD k 0 ∧ l.getD k 0 ≤ 7) : ∀ i,i < k + 1 → 0 ≤ l.getD i 0 ∧ l.getD i 0 ≤ 7 := fun i hi => by
 rcases Nat.lt_or_ge i k with h1 | h1
 · exact h i h1
 obtain rfl : i = k := by omega
 exact hk
theorem at_all {l : List Int} (h : ∀ i,i < l.length → 0 ≤ l.getD i 0 ∧ l.getD i 0 ≤ 7) : ∀ z ∈ l,0 ≤ z ∧ z ≤ 7 := fun z hz => by
 obtain ⟨j,hj,rfl⟩ := List.getElem_of_mem hz
 have := h j hj
 rwa [List.getD,List.getElem?_eq_getElem hj] at this
set_option maxRecDepth 100000
set_option maxHeartbeats 4000000
theorem within16_r (n : Int) (w0 : World) : Calls Tryz.prog 72 #[.int .i64 n] w0 fun e w' => ∃ b : Bool,e = .returned (.bool b) ∧ (b = true → 0 ≤ n ∧ n ≤ 1099511627776) ∧ Below w0.heap.size w0 w' := by
 refine ent1 Tryz.func72 rfl Tryz.ntmps72 fun Y U =>?_
 have m0 := MemOk.start (fun _ => False) w0
 refine regS U (.assign rfl .nil) fun Y U =>?_
 refine zsr fun K0 hK0 =>?_
 refine goCh U (.move rfl<|.geq rfl rfl<|.move rfl .nil) fun Y U =>?_
 refine bc U 5 ?_ ?_
 ·
  intro hb8 U; try simp only [QQ,Qax] at hb8
  refine gz hK0 U (.moveZ rfl<|.leqZ rfl rfl<|.pickT rfl rfl<|.assign rfl<|.nil) fun Y U =>?_
  refine rt1 U ?_
  exact ⟨_,rfl,(by intro h9; first | (exact absurd h9 (by decide)) | (have h8 := of_decide_eq_true h9; omega) | (simp at h9; omega)),m0.below⟩
 intro hb8 U; try simp only [QQ,Qax] at hb8
 refine gz hK0 U (.sk<|.sk<|.pickF rfl rfl<|.assign rfl<|.nil) fun Y U =>?_
 refine rt1 U ?_
 exact ⟨_,rfl,(by intro h9; first | (exact absurd h9 (by decide)) | (have h8 := of_decide_eq_true h9; omega) | (simp at h9; omega)),m0.below⟩
theorem rcmdRight_r (kd vo bl sz pe to at0 ix : Int) (place : List Int) (items : List (Int × List Int)) (pp pi : Option Addr) (cp ni ci : Nat) (w0 : World) (h0 : Rd (fun _ => True) w0 (.slice pp place.length cp) (.ns .i64 place)) (h1 : Rd (fun _ => True) w0 (.slice pi ni ci) (.l 2 (items.map itD))) (hp : place.length ≤ 1000000) (hl : items.length ≤ 1000000) :
   Calls Tryz.prog 27 #[.agg #[.int .i64 kd,.int .i64 vo,.int .i64 bl,.int .i64 sz,.int .i64 pe,.slice pp place.length cp,.int .i64 to,.int .i64 at0,.int .i64 ix,.slice pi ni ci]] w0 fun e w' => ∃ b : Bool,e = .returned (.bool b) ∧ (b = true → CmdR ⟨kd,vo,bl,sz,pe,place,to,at0,ix,items⟩) ∧ Below w0.heap.size w0 w' := by
 obtain rfl : ni = items.length := by obtain ⟨pq,c9,hv,_⟩ := h1.l_shape; injection hv with _ e2 _; rw [List.length_map] at e2; exact e2
 refine ent1 Tryz.func27 rfl Tryz.ntmps27 fun Y U =>?_
 have m0 := MemOk.start (fun _ => False) w0
 refine zsr fun K0 hK0 =>?_
 refine plz (e_box U m0 20 (cs := [_,_,_,_,_,_,_,_,_,_]) rfl rfl rfl fun g1 Y w2 U m2 _ _ =>?_)
 refine gz hK0 U (.assign rfl .nil) fun Y U =>?_
 refine wsk fun K1 hK1 =>?_
 refine zsr fun K2 hK2 =>?_
 refine goCh U (.fa 0 rfl U38<|.lb m2 20 U3 rfl rfl rfl<|.lss rfl rfl<|.move rfl .nil) fun Y U =>?_
 refine bc U 8 ?_ ?_
 ·
  intro hb12 U; try simp only [QQ,Qax] at hb12
  refine gz hK2 U (.sk<|.sk<|.sk<|.pickT rfl rfl<|.move rfl<|.sk<|.sk<|.sk<|.pickT rfl rfl<|.move rfl<|.sk<|.sk<|.sk<|.pickT rfl rfl<|.move rfl<|.sk<|.sk<|.sk<|.sk<|.pickT rfl rfl<|.move rfl<|.sk<|.sk<|.sk<|.sk<|.pickT rfl rfl<|.move rfl<|.sk<|.sk<|.sk<|.sk<|.pickT rfl rfl<|.move rfl<|.sk<|.sk<|.sk<|.sk<|.pickT rfl rfl<|.move rfl<|.sk<|.sk<|.sk<|.sk<|.pickT rfl rfl<|.move rfl<|.sk<|.sk<|.sk<|.sk<|.pickT rfl rfl<|.move rfl<|.sk<|.sk<|.sk<|.sk<|.pickT rfl rfl<|.move rfl<|.sk<|.sk<|.sk<|.sk<|.pickT rfl rfl<|.nil) fun Y U =>?_
  refine wct U ?_
  replace U := U.oz [1,2]
  refine regS U (.assign rfl .nil) fun Y U =>?_
  refine rt1 U ?_
  exact ⟨false,rfl,(fun h => by cases h),m2.below⟩
 intro hb12 U; try simp only [QQ,Qax] at hb12
 refine goCh U (.faZ 0 rfl U38<|.loadB1Z m2 (i := 20) rfl rfl rfl U3 rfl<|.gtrZ rfl rfl<|.pickF rfl rfl<|.move rfl .nil) fun Y U =>?_
 refine bc U 13 ?_ ?_
 ·
  intro hb82 U; try simp only [QQ,Qax] at hb82
  refine gz hK2 U (.sk<|.sk<|.sk<|.pickT rfl rfl<|.move rfl<|.sk<|.sk<|.sk<|.pickT rfl rfl<|.move rfl<|.sk<|.sk<|.sk<|.sk<|.pickT rfl rfl<|.move rfl<|.sk<|.sk<|.sk<|.sk<|.pickT rfl rfl<|.move rfl<|.sk<|.sk<|.sk<|.sk<|.pickT rfl rfl<|.move rfl<|.sk<|.sk<|.sk<|.sk<|.pickT rfl rfl<|.move rfl<|.sk<|.sk<|.sk<|.sk<|.pickT rfl rfl<|.move rfl<|.sk<|.sk<|.sk<|.sk<|.pickT rfl rfl<|.move rfl<|.sk<|.sk<|.sk<|.sk<|.pickT rfl rfl<|.move rfl<|.sk<|.sk<|.sk<|.sk<|.pickT rfl rfl<|.nil) fun Y U =>?_
  refine wct U ?_
  replace U := U.oz [1,2]
  refine regS U (.assign rfl .nil) fun Y U =>?_
  refine rt1 U ?_
  exact ⟨false,rfl,(fun h => by cases h),m2.below⟩
 intro hb82 U; try simp only [QQ,Qax] at hb82
 refine goCh U (.faZ 1 rfl U38<|.loadB1Z m2 (i := 20) rfl rfl rfl U3 rfl<|.lssZ rfl rfl<|.pickF rfl rfl<|.move rfl .nil) fun Y U =>?_
 refine bc U 18 ?_ ?_
 ·
  intro hb147 U; try simp only [QQ,Qax] at hb147
  refine gz hK2 U (.sk<|.sk<|.sk<|.pickT rfl rfl<|.move rfl<|.sk<|.sk<|.sk<|.sk<|.pickT rfl rfl<|.move rfl<|.sk<|.sk<|.sk<|.sk<|.pickT rfl rfl<|.move rfl<|.sk<|.sk<|.sk<|.sk<|.pickT rfl rfl<|.move rfl<|.sk<|.sk<|.sk<|.sk<|.pickT rfl rfl<|.move rfl<|.sk<|.sk<|.sk<|.sk<|.pickT rfl rfl<|.move rfl<|.sk<|.sk<|.sk<|.sk<|.pickT rfl rfl<|.move rfl<|.sk<|.sk<|.sk<|.sk<|.pickT rfl rfl<|.move rfl<|.sk<|.sk<|.sk<|.sk<|.pickT rfl rfl<|.nil) fun Y U =>?_
  refine wct U ?_
  replace U := U.oz [1,2]
  refine regS U (.assign rfl .nil) fun Y U =>?_
  refine rt1 U ?_
  exact ⟨false,rfl,(fun h => by cases h),m2.below⟩
 intro hb147 U; try simp only [QQ,Qax] at hb147
 refine goCh U (.faZ 1 rfl U38<|.loadB1Z m2 (i := 20) rfl rfl rfl U3 rfl<|.geqZ rfl rfl<|.pickF rfl rfl<|.move rfl .nil) fun Y U =>?_
 refine bc U 23 ?_ ?_
 ·
  intro hb207 U; try simp only [QQ,Qax] at hb207
  refine gz hK2 U (.sk<|.sk<|.sk<|.sk<|.pickT rfl rfl<|.move rfl<|.sk<|.sk<|.sk<|.sk<|.pickT rfl rfl<|.move rfl<|.sk<|.sk<|.sk<|.sk<|.pickT rfl rfl<|.move rfl<|.sk<|.sk<|.sk<|.sk<|.pickT rfl rfl<|.move rfl<|.sk<|.sk<|.sk<|.sk<|.pickT rfl rfl<|.move rfl<|.sk<|.sk<|.sk<|.sk<|.pickT rfl rfl<|.move rfl<|.sk<|.sk<|.sk<|.sk<|.pickT rfl rfl<|.move rfl<|.sk<|.sk<|.sk<|.sk<|.pickT rfl rfl<|.nil) fun Y U =>?_
  refine wct U ?_
  replace U := U.oz [1,2]
  refine regS U (.assign rfl .nil) fun Y U =>?_
  refine rt1 U ?_
  exact ⟨false,rfl,(fun h => by cases h),m2.below⟩
 intro hb207 U; try simp only [QQ,Qax] at hb207
 refine goCh U (.faZ 2 rfl U38<|.loadB1Z m2 (i := 20) rfl rfl rfl U3 rfl .nil) fun Y U =>?_
 refine stz U (ecl U Tryz.func72 rfl (within16_r _ _) ?_)
 rintro e w260 ⟨wb259,rfl,hw259,hb260⟩
 have m261 := m2.later hb260
 refine ⟨_,rfl,?_⟩; intro Y U
 refine goCh U (.notZ rfl<|.pickF rfl rfl<|.move rfl .nil) fun Y U =>?_
 refine bc U 29 ?_ ?_
 ·
  intro hb266 U; try simp only [QQ,Qax] at hb266
  refine gz hK2 U (.sk<|.sk<|.sk<|.sk<|.pickT rfl rfl<|.move rfl<|.sk<|.sk<|.sk<|.sk<|.pickT rfl rfl<|.move rfl<|.sk<|.sk<|.sk<|.sk<|.pickT rfl rfl<|.move rfl<|.sk<|.sk<|.sk<|.sk<|.pickT rfl rfl<|.move rfl<|.sk<|.sk<|.sk<|.sk<|.pickT rfl rfl<|.move rfl<|.sk<|.sk<|.sk<|.sk<|.pickT rfl rfl<|.move rfl<|.sk<|.sk<|.sk<|.sk<|.pickT rfl rfl<|.nil) fun Y U =>?_
  refine wct U ?_
  replace U := U.oz [1,2]
  refine regS U (.assign rfl .nil) fun Y U =>?_
  refine rt1 U ?_
  exact ⟨false,rfl,(fun h => by cases h),m261.below⟩
 intro hb266 U; try simp only [QQ,Qax] at hb266
 refine goCh U (.faZ 3 rfl U38<|.loadB1Z m261 (i := 20) rfl rfl rfl U3 rfl .nil) fun Y U =>?_
 refine stz U (ecl U Tryz.func72 rfl (within16_r _ _) ?_)
 rintro e w313 ⟨wb312,rfl,hw312,hb313⟩
 have m314 := m261.later hb313
 refine ⟨_,rfl,?_⟩; intro Y U
 refine goCh U (.notZ rfl<|.pickF rfl rfl<|.move rfl .nil) fun Y U =>?_
 refine bc U 35 ?_ ?_
 ·
  intro hb319 U; try simp only [QQ,Qax] at hb319
  refine gz hK2 U (.sk<|.sk<|.sk<|.sk<|.pickT rfl rfl<|.move rfl<|.sk<|.sk<|.sk<|.sk<|.pickT rfl rfl<|.move rfl<|.sk<|.sk<|.sk<|.sk<|.pickT rfl rfl<|.move rfl<|.sk<|.sk<|.sk<|.sk<|.pickT rfl rfl<|.move rfl<|.sk<|.sk<|.sk<|.sk<|.pickT rfl rfl<|.move rfl<|.sk<|.sk<|.sk<|.sk<|.pickT rfl rfl<|.nil) fun Y U =>?_
  refine wct U ?_
  replace U := U.oz [1,2]
  refine regS U (.assign rfl .nil) fun Y U =>?_
  refine rt1 U ?_
  exact ⟨false,rfl,(fun h => by cases h),m314.below⟩
 intro hb319 U; try simp only [QQ,Qax] at hb319
 refine goCh U (.faZ 4 rfl U38<|.loadB1Z m314 (i := 20) rfl rfl rfl U3 rfl .nil) fun Y U =>?_
 refine stz U (ecl U Tryz.func72 rfl (within16_r _ _) ?_)
 rintro e w360 ⟨wb359,rfl,hw359,hb360⟩
 have m361 := m314.later hb360
 refine ⟨_,rfl,?_⟩; intro Y U
 refine goCh U (.notZ rfl<|.pickF rfl rfl<|.move rfl .nil) fun Y U =>?_
 refine bc U 41 ?_ ?_
 ·
  intro hb366 U; try simp only [QQ,Qax] at hb366
  refine gz hK2 U (.sk<|.sk<|.sk<|.sk<|.pickT rfl rfl<|.move rfl<|.sk<|.sk<|.sk<|.sk<|.pickT rfl rfl<|.move rfl<|.sk<|.sk<|.sk<|.sk<|.pickT rfl rfl<|.move rfl<|.sk<|.sk<|.sk<|.sk<|.pickT rfl rfl<|.move rfl<|.sk<|.sk<|.sk<|.sk<|.pickT rfl rfl<|.nil) fun Y U =>?_
  refine wct U ?_
  replace U := U.oz [1,2]
  refine regS U (.assign rfl .nil) fun Y U =>?_
  refine rt1 U ?_
  exact ⟨false,rfl,(fun h => by cases h),m361.below⟩
 intro hb366 U; try simp only [QQ,Qax] at hb366
 refine goCh U (.faZ 6 rfl U38<|.loadB1Z m361 (i := 20) rfl rfl rfl U3 rfl .nil) fun Y U =>?_
 refine stz U (ecl U Tryz.func72 rfl (within16_r _ _) ?_)
 rintro e w401 ⟨wb400,rfl,hw400,hb401⟩
 have m402 := m361.later hb401
 refine ⟨_,rfl,?_⟩; intro Y U
 refine goCh U (.notZ rfl<|.pickF rfl rfl<|.move rfl .nil) fun Y U =>?_
 refine bc U 47 ?_ ?_
 ·
  intro hb407 U; try simp only [QQ,Qax] at hb407
  refine gz hK2 U (.sk<|.sk<|.sk<|.sk<|.pickT rfl rfl<|.move rfl<|.sk<|.sk<|.sk<|.sk<|.pickT rfl rfl<|.move rfl<|.sk<|.sk<|.sk<|.sk<|.pickT rfl rfl<|.move rfl<|.sk<|.sk<|.sk<|.sk<|.pickT rfl rfl<|.nil) fun Y U =>?_
  refine wct U ?_
  replace U := U.oz [1,2]
  refine regS U (.assign rfl .nil) fun Y U =>?_
  refine rt1 U ?_
  exact ⟨false,rfl,(fun h => by cases h),m402.below⟩
 intro hb407 U; try simp only [QQ,Qax] at hb407
 refine goCh U (.faZ 8 rfl U38<|.loadB1Z m402 (i := 20) rfl rfl rfl U3 rfl .nil) fun Y U =>?_
 refine stz U (ecl U Tryz.func72 rfl (within16_r _ _) ?_)
 rintro e w436 ⟨wb435,rfl,hw435,hb436⟩
 have m437 := m402.later hb436
 refine ⟨_,rfl,?_⟩; intro Y U
 refine goCh U (.notZ rfl<|.pickF rfl rfl<|.move rfl .nil) fun Y U =>?_
 refine bc U 53 ?_ ?_
 ·
  intro hb442 U; try simp only [QQ,Qax] at hb442
  refine gz hK2 U (.sk<|.sk<|.sk<|.sk<|.pickT rfl rfl<|.move rfl<|.sk<|.sk<|.sk<|.sk<|.pickT rfl rfl<|.move rfl<|.sk<|.sk<|.sk<|.sk<|.pickT rfl rfl<|.nil) fun Y U =>?_
  refine wct U ?_
  replace U := U.oz [1,2]
  refine regS U (.assign rfl .nil) fun Y U =>?_
  refine rt1 U ?_
  exact ⟨false,rfl,(fun h => by cases h),m437.below⟩
 intro hb442 U; try simp only [QQ,Qax] at hb442
 refine goCh U (.faZ 7 rfl U38<|.loadB1Z m437 (i := 20) rfl rfl rfl U2 rfl .nil) fun Y U =>?_
 refine stz U (ecl U Tryz.func72 rfl (within16_r _ _) ?_)
 rintro e w465 ⟨wb464,rfl,hw464,hb465⟩
 have m466 := m437.later hb465
 refine ⟨_,rfl,?_⟩; intro Y U
 refine goCh U (.notZ rfl<|.pickF rfl rfl<|.move rfl .nil) fun Y U =>?_
 refine bc U 59 ?_ ?_
 ·
  intro hb471 U; try simp only [QQ,Qax] at hb471
  refine gz hK2 U (.sk<|.sk<|.sk<|.sk<|.pickT rfl rfl<|.move rfl<|.sk<|.sk<|.sk<|.sk<|.pickT rfl rfl<|.nil) fun Y U =>?_
  refine wct U ?_
  replace U := U.oz [1,2]
  refine regS U (.assign rfl .nil) fun Y U =>?_
  refine rt1 U ?_
  exact ⟨false,rfl,(fun h => by cases h),m466.below⟩
 intro hb471 U; try simp only [QQ,Qax] at hb471
 refine goCh U (.faZ 5 rfl U38<|.loadB1Z m466 (i := 20) rfl rfl rfl U35 rfl<|.lenZ rfl U35<|.gtrZ rfl rfl<|.pickF rfl rfl<|.move rfl .nil) fun Y U =>?_
 refine bc U 65 ?_ ?_
 ·
  intro hb491 U; try simp only [QQ,Qax] at hb491
  refine gz hK2 U (.sk<|.sk<|.sk<|.sk<|.pickT rfl rfl<|.nil) fun Y U =>?_
  refine wct U ?_
  replace U := U.oz [1,2]
  refine regS U (.assign rfl .nil) fun Y U =>?_
  refine rt1 U ?_
  exact ⟨false,rfl,(fun h => by cases h),m466.below⟩
 intro hb491 U; try simp only [QQ,Qax] at hb491
 refine gz hK2 U (.faZ 9 rfl U38<|.loadB1Z m466 (i := 20) rfl rfl rfl U36 rfl<|.lenZ rfl U36<|.gtrZ rfl rfl<|.pickF rfl rfl<|.nil) fun Y U =>?_
 refine bc U 70 ?_ ?_
 ·
  intro hb504 U; try simp only [QQ,Qax] at hb504
  refine wct U ?_
  replace U := U.oz [1,2]
  refine regS U (.assign rfl .nil) fun Y U =>?_
  refine rt1 U ?_
  exact ⟨false,rfl,(fun h => by cases h),m466.below⟩
 intro hb504 U; try simp only [QQ,Qax] at hb504
 have hw16a := hw259 (by simp_all)
 have hw16b := hw312 (by simp_all)
 have hw16c := hw359 (by simp_all)
 have hw16d := hw400 (by simp_all)
 have hw16e := hw435 (by simp_all)
 have hw16f := hw464 (by simp_all)
 refine wcf U ?_
 refine zss (hK1 _ _ ?_)
 refine wsk fun K3 hK3 =>?_
 replace U := U.oz [1,2]
 refine regS U (.assign rfl .nil) fun Y U =>?_
 refine wp_block ?_
 refine wp_loop_ghost (fun g a w => ∃ (k B : Nat),k ≤ place.length ∧ (∀ i,i < k → 0 ≤ place.getD i 0 ∧ place.getD i 0 ≤ 7) ∧ g = place.length - k ∧ Has 125 [(1,.pointer (some ⟨B,0,none⟩)),(3,.int .i64 k)] a ∧ MemOk (cn w0) w0 [(9,.box B 38 [.int .i64 kd,.int .i64 vo,.int .i64 bl,.int .i64 sz,.int .i64 pe,.slice pp place.length cp,.int .i64 to,.int .i64 at0,.int .i64 ix,.slice pi items.length ci])] w) (place.length) ?_ ?_
 · exact ⟨0,_,Nat.zero_le _,(fun i hi => absurd hi (Nat.not_lt_zero i)),rfl,U.only [1,3],m466.ren [(9,20)] (by decide)⟩
 clear U m466
 rintro g Y w509 ⟨k,B,hkl,hpa,hg,U,m509⟩
 refine wsk fun K4 hK4 =>?_
 refine regS U (.move rfl<|.fa 5 rfl U38<|.lb m509 9 U35 rfl rfl rfl<|.len rfl U35<|.lss rfl rfl .nil) fun Y U =>?_
 refine bc U 75 ?_ ?_
 ·
  intro hb515 U; try simp only [QQ,Qax] at hb515
  have hk : k < place.length := by omega
  refine wct U ?_
  refine zss (hK4 _ _ ?_)
  refine wsk fun K5 hK5 =>?_
  refine wp_block ?_
  refine zsr fun K6 hK6 =>?_
  refine goCh U (.fa 5 rfl U38<|.lb m509 9 U35 rfl rfl rfl<|.move rfl .nil) fun Y U =>?_
  obtain ⟨gx523,ox523,hp523,hl523,hrg523⟩ := h0.extN (k) hk
  revert U
  cases hp523
  intro U
  refine goCh U (.c rfl (fun _ h_ => y_idx h_ rfl rfl U35 fct15 (k) rfl hk)<|.loadAt1 (hrg523 m509 rfl) (q := 0) rfl rfl rfl U3 rfl<|.lss rfl rfl<|.move rfl .nil) fun Y U =>?_
  refine bc U 84 ?_ ?_
  ·
   intro hb528 U; try simp only [QQ,Qax] at hb528
   refine gz hK6 U (.sk<|.sk<|.sk<|.sk<|.sk<|.sk<|.pickT rfl rfl<|.nil) fun Y U =>?_
   refine wct U ?_
   replace U := U.oz [1,3]
   refine regS U (.assign rfl .nil) fun Y U =>?_
   refine rt1 U ?_
   exact ⟨false,rfl,(fun h => by cases h),m509.below⟩
  intro hb528 U; try simp only [QQ,Qax] at hb528
  refine goCh U (.faZ 5 rfl U38<|.loadB1Z m509 (i := 9) rfl rfl rfl U35 rfl<|.moveZ rfl .nil) fun Y U =>?_
  obtain ⟨gx541,ox541,hp541,hl541,hrg541⟩ := h0.extN (k) hk
  revert U
  cases hp541
  intro U
  refine gz hK6 U (.g rfl rfl rfl rfl (fun _ h_ => y_idx h_ rfl rfl U35 fct15 (k) rfl hk)<|.loadAt1Z (hrg541 m509 rfl) (q := 0) rfl rfl rfl U3 rfl<|.geqZ rfl rfl<|.pickF rfl rfl<|.nil) fun Y U =>?_
  refine bc U 91 ?_ ?_
  ·
   intro hb546 U; try simp only [QQ,Qax] at hb546
   refine wct U ?_
   replace U := U.oz [1,3]
   refine regS U (.assign rfl .nil) fun Y U =>?_
   refine rt1 U ?_
   exact ⟨false,rfl,(fun h => by cases h),m509.below⟩
  intro hb546 U; try simp only [QQ,Qax] at hb546
  refine wcf U ?_
  refine zss (hK5 _ _ ?_)
  replace U := U.oz [1,3]
  refine wp_region_lit ?_
  refine goCh U (.move rfl<|.inc (k + 1)<|.assign rfl .nil) fun Y U =>?_
  refine wpList_nil ?_
  show ∃ n',n' < _ ∧ _
  exact ⟨place.length - (k + 1),by omega,k + 1,_,by omega,at_snoc hpa (by omega),rfl,U.only [1,3],m509.only [9]⟩
 intro hb515 U; try simp only [QQ,Qax] at hb515
 have hkp : k = place.length := by omega
 refine wcf U ?_
 refine wp_exit ?_
 refine hK3 _ _ ?_
 refine wsk fun K7 hK7 =>?_
 refine regS U (.assign rfl .nil) fun Y U =>?_
 refine wp_block ?_
 refine wp_loop_ghost (fun g a w => ∃ (k B : Nat),k ≤ items.length ∧ g = items.length - k ∧ (∀ z ∈ place,0 ≤ z ∧ z ≤ 7) ∧ (∀ e ∈ items.take k,(0 ≤ e.1 ∧ e.1 ≤ 255) ∧ e.2.length ≤ 32) ∧ Has 125 [(1,.pointer (some ⟨B,0,none⟩)),(4,.int .i64 k)] a ∧ MemOk (cn w0) w0 [(9,.box B 38 [.int .i64 kd,.int .i64 vo,.int .i64 bl,.int .i64 sz,.int .i64 pe,.slice pp place.length cp,.int .i64 to,.int .i64 at0,.int .i64 ix,.slice pi items.length ci])] w) (items.length) ?_ ?_
 · exact ⟨0,_,Nat.zero_le _,rfl,(at_all (hkp ▸ hpa)),(fun e he => by cases he),U.only [1,4],m509.ren [(9,9)] (by decide)⟩
 clear U m509
 rintro g Y w554 ⟨k,B,hkl,hg,hpz,hall,U,m554⟩
 refine wsk fun K8 hK8 =>?_
 refine regS U (.move rfl<|.fa 9 rfl U38<|.lb m554 9 U36 rfl rfl rfl<|.len rfl U36<|.lss rfl rfl .nil) fun Y U =>?_
 refine bc U 96 ?_ ?_
 ·
  intro hb560 U; try simp only [QQ,Qax] at hb560
  have hk : k < items.length := by omega
  obtain ⟨⟨xb,xd⟩,hes⟩ : ∃ e,items[k]? = some e := ⟨_,List.getElem?_eq_getElem hk⟩
  refine wct U ?_
  refine zss (hK8 _ _ ?_)
  refine wsk fun K9 hK9 =>?_
  refine wp_block ?_
  refine zsr fun K10 hK10 =>?_
  refine goCh U (.fa 9 rfl U38<|.lb m554 9 U36 rfl rfl rfl<|.move rfl .nil) fun Y U =>?_
  obtain ⟨gx568,ox568,vx568,hp568,hl568,hR568,hrg568⟩ := h1.extA (k) (r := [.v (.int .i64 xb),.ns .u8 xd]) (itD_get hes)
  revert U
  cases hp568
  rcases hR568 with _ | ⟨hd568_0,_ | ⟨hd568_1,_ | _⟩⟩
  obtain rfl := hd568_0.v_out
  clear hd568_0
  obtain ⟨p569,c569,hv569,hw569⟩ := hd568_1.ns_shape; subst hv569
  intro U
  refine goCh U (.c rfl (fun _ h_ => y_idx h_ rfl rfl U36 fct3 (k) rfl hk)<|.fieldAddrQ 0 rfl U59 rfl (s := 0) (by kernel_rfl) rfl<|.loadAt1 (hrg568 m554 rfl) (q := 0) rfl rfl rfl U3 rfl<|.lss rfl rfl<|.move rfl .nil) fun Y U =>?_
  refine bc U 106 ?_ ?_
  ·
   intro hb575 U; try simp only [QQ,Qax] at hb575
   refine gz hK10 U (.sk<|.sk<|.sk<|.sk<|.sk<|.sk<|.sk<|.pickT rfl rfl<|.move rfl<|.sk<|.sk<|.sk<|.sk<|.sk<|.sk<|.sk<|.sk<|.pickT rfl rfl<|.nil) fun Y U =>?_
   refine wct U ?_
   replace U := U.oz [1,4]
   refine regS U (.assign rfl .nil) fun Y U =>?_
   refine rt1 U ?_
   exact ⟨false,rfl,(fun h => by cases h),m554.below⟩
  intro hb575 U; try simp only [QQ,Qax] at hb575
  refine goCh U (.faZ 9 rfl U38<|.loadB1Z m554 (i := 9) rfl rfl rfl U36 rfl<|.moveZ rfl .nil) fun Y U =>?_
  obtain ⟨gx599,ox599,vx599,hp599,hl599,hR599,hrg599⟩ := h1.extA (k) (r := [.v (.int .i64 xb),.ns .u8 xd]) (itD_get hes)
  revert U
  cases hp599
  rcases hR599 with _ | ⟨hd599_0,_ | ⟨hd599_1,_ | _⟩⟩
  obtain rfl := hd599_0.v_out
  clear hd599_0
  obtain ⟨p600,c600,hv600,hw600⟩ := hd599_1.ns_shape; subst hv600
  intro U
  refine goCh U (.g rfl rfl rfl rfl (fun _ h_ => y_idx h_ rfl rfl U36 fct3 (k) rfl hk)<|.fieldAddrQZ 0 rfl U59 rfl (s := 0) (by kernel_rfl) rfl<|.loadAt1Z (hrg599 m554 rfl) (q := 0) rfl rfl rfl U3 rfl<|.geqZ rfl rfl<|.pickF rfl rfl<|.move rfl .nil) fun Y U =>?_
  refine bc U 115 ?_ ?_
  ·
   intro hb607 U; try simp only [QQ,Qax] at hb607
   refine gz hK10 U (.sk<|.sk<|.sk<|.sk<|.sk<|.sk<|.sk<|.sk<|.pickT rfl rfl<|.nil) fun Y U =>?_
   refine wct U ?_
   replace U := U.oz [1,4]
   refine regS U (.assign rfl .nil) fun Y U =>?_
   refine rt1 U ?_
   exact ⟨false,rfl,(fun h => by cases h),m554.below⟩
  intro hb607 U; try simp only [QQ,Qax] at hb607
  refine goCh U (.faZ 9 rfl U38<|.loadB1Z m554 (i := 9) rfl rfl rfl U36 rfl<|.moveZ rfl .nil) fun Y U =>?_
  obtain ⟨gx622,ox622,vx622,hp622,hl622,hR622,hrg622⟩ := h1.extA (k) (r := [.v (.int .i64 xb),.ns .u8 xd]) (itD_get hes)
  revert U
  cases hp622
  rcases hR622 with _ | ⟨hd622_0,_ | ⟨hd622_1,_ | _⟩⟩
  obtain rfl := hd622_0.v_out
  clear hd622_0
  obtain ⟨p623,c623,hv623,hw623⟩ := hd622_1.ns_shape; subst hv623
  intro U
  refine gz hK10 U (.g rfl rfl rfl rfl (fun _ h_ => y_idx h_ rfl rfl U36 fct3 (k) rfl hk)<|.fieldAddrQZ 1 rfl U59 rfl (s := 0) (by kernel_rfl) rfl<|.loadAt1Z (hrg622 m554 rfl) (q := 1) rfl rfl rfl U22 rfl<|.lenZ rfl U22<|.gtrZ rfl rfl<|.pickF rfl rfl<|.nil) fun Y U =>?_
  refine bc U 124 ?_ ?_
  ·
   intro hb630 U; try simp only [QQ,Qax] at hb630
   refine wct U ?_
   replace U := U.oz [1,4]
   refine regS U (.assign rfl .nil) fun Y U =>?_
   refine rt1 U ?_
   exact ⟨false,rfl,(fun h => by cases h),m554.below⟩
  intro hb630 U; try simp only [QQ,Qax] at hb630
  refine wcf U ?_
  refine zss (hK9 _ _ ?_)
  replace U := U.oz [1,4]
  refine wp_region_lit ?_
  refine goCh U (.move rfl<|.inc (k + 1)<|.assign rfl .nil) fun Y U =>?_
  refine wpList_nil ?_
  show ∃ n',n' < _ ∧ _
  exact ⟨items.length - (k + 1),by omega,k + 1,_,by omega,rfl,hpz,snoc_all hall hes (by dsimp only; omega),U.only [1,4],m554.only [9]⟩
 intro hb560 U; try simp only [QQ,Qax] at hb560
 have hk9 : k = items.length := by omega
 refine wcf U ?_
 refine wp_exit ?_
 refine hK7 _ _ ?_
 refine regS U (.assign rfl .nil) fun Y U =>?_
 refine rt1 U ?_
 exact ⟨true,rfl,(fun _ => ⟨by dsimp only; omega,by dsimp only; omega,⟨hw16a,hw16b,hw16c,hw16d,hw16f,hw16e⟩,by dsimp only; omega,hpz,by dsimp only; omega,fun e he => hall e (by rwa [hk9,List.take_length])⟩),m554.below⟩
theorem rcmdRight_n (kd vo bl sz pe to at0 ix : Int) (place : List Int) (items : List (Int × List Int)) (pp pi : Option Addr) (cp ni ci : Nat) (w0 : World) (h0 : Rd (fun _ => True) w0 (.slice pp place.length cp) (.ns .i64 place)) (h1 : Rd (fun _ => True) w0 (.slice pi ni ci) (.l 2 (items.map itD))) (hp : place.length ≤ 1000000) (hl : items.length ≤ 1000000) (hN : ¬ CmdR ⟨kd,vo,bl,sz,pe,place,to,at0,ix,items⟩) :
   Calls Tryz.prog 27 #[.agg #[.int .i64 kd,.int .i64 vo,.int .i64 bl,.int .i64 sz,.int .i64 pe,.slice pp place.length cp,.int .i64 to,.int .i64 at0,.int .i64 ix,.slice pi ni ci]] w0 fun e w' => e = .returned (.bool false) ∧ Below w0.heap.size w0 w' :=
 (rcmdRight_r kd vo bl sz pe to at0 ix place items pp pi cp ni ci w0 h0 h1 hp hl).mono (fun _ _ ⟨b,he,hb,hB⟩ => ⟨by cases b with | false => exact he | true => exact absurd (hb rfl) hN,hB⟩)
theorem rputCmd_no (kd vo bl sz pe to at0 ix : Int) (place : List Int) (items : List (Int × List Int)) (pp pi : Option Addr) (cp ni ci : Nat) (w0 : World) (h0 : Rd (fun _ => True) w0 (.slice pp place.length cp) (.ns .i64 place)) (h1 : Rd (fun _ => True) w0 (.slice pi ni ci) (.l 2 (items.map itD))) (hp : place.length ≤ 1000000) (hl : items.length ≤ 1000000) (hN : ¬ CmdR ⟨kd,vo,bl,sz,pe,place,to,at0,ix,items⟩) :
   Calls Tryz.prog 12 #[.agg #[.int .i64 kd,.int .i64 vo,.int .i64 bl,.int .i64 sz,.int .i64 pe,.slice pp place.length cp,.int .i64 to,.int .i64 at0,.int .i64 ix,.slice pi ni ci]] w0 fun e w' => e = .returned (.tuple #[.slice none 0 0,.int .i64 23]) ∧ Below w0.heap.size w0 w' := by
 obtain rfl : ni = items.length := by obtain ⟨pq,c9,hv,_⟩ := h1.l_shape; injection hv with _ e2 _; rw [List.length_map] at e2; exact e2
 refine ent1 Tryz.func12 rfl Tryz.ntmps12 fun Y U =>?_
 have m0 := MemOk.start (fun _ => False) w0
 refine zsr fun K0 hK0 =>?_
 refine plz (e_box U m0 20 (cs := [_,_,_,_,_,_,_,_,_,_]) rfl rfl rfl fun g1 Y w2 U m2 _ _ =>?_)
 refine gz hK0 U (.assign rfl<|.assign rfl<|.nil) fun Y U =>?_
 refine wsk fun K1 hK1 =>?_
 refine zsr fun K2 hK2 =>?_
 refine goCh U (.loadBR m2 (i := 20) rfl rfl U38 rfl fct19 (by simp) (by dsimp only [List.drop,List.take] <;> rfl) .nil) fun Y U =>?_
 refine plz (ecb U Tryz.func27 rfl m2 (rcmdRight_n _ _ _ _ _ _ _ _ place items _ _ _ _ _ _ ((h0.now' m2 rfl).any) ((h1.now' m2 rfl).any) hp hl hN) fun Y w7 U m8 =>?_)
 refine gz hK2 U (.not rfl .nil) fun Y U =>?_
 refine wct U ?_
 refine regS U (.assign rfl<|.assign rfl .nil) fun Y U =>?_
 refine rt2 U ?_
 exact ⟨rfl,m8.below⟩
end
section
def CsB (cs : List Cm) : Prop := ∀ c ∈ cs,c.pl.length ≤ 9 ∧ c.its.length ≤ 8 ∧ ItsB c.its
theorem vols_id {n : Nat} {x : VolV} {id : Int} (h : VolS n x) (hid : 0 ≤ id ∧ id ≤ 2) : VolS n { x with vo := id } := by
 obtain ⟨⟨hN,hR⟩,h2⟩ := h
 obtain ⟨a1,a2,a3⟩ := hN
 exact ⟨⟨⟨by dsimp only; omega,by dsimp only; omega,a3⟩,hR⟩,h2⟩
set_option maxRecDepth 100000
set_option maxHeartbeats 4000000
end
section
def SrtV (R : List VolV) : Prop := (R.map (·.vo)).Pairwise (· < ·)
theorem SrtV.nodup {R : List VolV} (h : SrtV R) : (R.map (·.vo)).Nodup := h.imp (fun h => by omega)
theorem vo_inj {R : List VolV} (h : (R.map (·.vo)).Nodup) {x y : VolV} (hx : x ∈ R) (hy : y ∈ R) (he : x.vo = y.vo) : x = y := by
 obtain ⟨i,hi⟩ := List.getElem?_of_mem hx
 obtain ⟨j,hj⟩ := List.getElem?_of_mem hy
 have h1 : (R.map (·.vo))[i]? = some x.vo := by rw [List.getElem?_map,hi]; rfl
 have h2 : (R.map (·.vo))[j]? = some x.vo := by rw [List.getElem?_map,hj,he]; rfl
 have := nodup_at h h1 h2
 subst this
 rw [hi] at hj; injection hj
theorem all_of {L R : List VolV} (hp : L.Perm R) (hs : SrtV R) : allL L = R := by
 have hk : idsL L = R.map (·.vo) := by
   refine List.Perm.eq_of_pairwise (le := fun x y => x ≤ y) (fun a b _ _ h1 h2 => by omega) ?_ (hs.imp (fun h => by omega)) ?_
   · have := List.pairwise_mergeSort (le := fun x y : Int => decide (x ≤ y)) (fun a b c h1 h2 => by simp at *; omega) (fun a b => by simp; omega) (L.map (·.vo))
     exact this.imp (fun h => of_decide_eq_true h)
   exact (List.mergeSort_perm _ _).trans (hp.map _)
 rw [allL,hk,List.map_map]
 conv => rhs; rw [← List.map_id R]
 refine List.map_congr_left (fun y hy =>?_)
 show (L.find? (fun z => decide (z.vo = y.vo))).getD volZ = y
 cases hf : L.find? (fun z => decide (z.vo = y.vo)) with
 | none => exact absurd (show y.vo = y.vo from rfl) (by simpa using List.find?_eq_none.1 hf y (hp.mem_iff.2 hy))
 | some z =>
   have hz := List.mem_of_find?_eq_some hf
   have he : z.vo = y.vo := by simpa using List.find?_some hf
   exact vo_inj hs.nodup (hp.mem_iff.1 hz) hy he
theorem set_map {R : List VolV} (h : (R.map (·.vo)).Nodup) {j : Nat} {x y : VolV} (hj : R[j]? = some x) : R.set j y = R.map (fun z => if z.vo = x.vo then y else z) := by
 refine List.ext_getElem? (fun i =>?_)
 rw [List.getElem?_map,List.getElem?_set]
 by_cases hij : j = i
 · subst hij
   rw [if_pos rfl,hj]
   obtain ⟨hlt,_⟩ := List.getElem?_eq_some_iff.1 hj
   simp [hlt]
 rw [if_neg hij]
 cases hi : R[i]? with
 | none => rfl
 | some z =>
   show some z = some (if z.vo = x.vo then y else z)
   rw [if_neg]
   intro he
   have h1 : (R.map (·.vo))[i]? = some x.vo := by rw [List.getElem?_map,hi,← he]; rfl
   have h2 : (R.map (·.vo))[j]? = some x.vo := by rw [List.getElem?_map,hj]; rfl
   exact hij (nodup_at h h2 h1)
theorem ins_perm {R : List VolV} {v : VolV} : (R ++ [v]).Perm (insV R v) := by
 unfold insV
 have h : R.takeWhile (fun y => decide (y.vo < v.vo)) ++ R.dropWhile (fun y => decide (y.vo < v.vo)) = R := List.takeWhile_append_dropWhile
 conv => lhs; rw [← h]
 rw [List.append_assoc,List.append_assoc]
 exact List.Perm.append_left _ List.perm_append_comm
theorem ins_srt {v : VolV} : ∀ {R : List VolV},SrtV R → (¬ ∃ y ∈ R,y.vo = v.vo) → SrtV (insV R v)
 | [],_,_ => by simp [insV,SrtV]
 | y :: t,hs,hn => by
   unfold SrtV at hs
   rw [List.map_cons,List.pairwise_cons] at hs
   have hy : y.vo ≠ v.vo := fun e => hn ⟨y,List.mem_cons_self,e⟩
   by_cases hlt : y.vo < v.vo
   · have ih := ins_srt (v := v) (R := t) hs.2 (fun ⟨z,hz,e⟩ => hn ⟨z,List.mem_cons_of_mem _ hz,e⟩)
     have e : insV (y :: t) v = y :: insV t v := by simp [insV,List.takeWhile,List.dropWhile,hlt]
     rw [e]; unfold SrtV
     rw [List.map_cons,List.pairwise_cons]
     refine ⟨fun z hz =>?_,ih⟩
     obtain ⟨u,hu,rfl⟩ := List.mem_map.1 hz
     have := (ins_perm (R := t) (v := v)).mem_iff.2 hu
     rcases List.mem_append.1 this with h | h
     · exact hs.1 _ (List.mem_map_of_mem h)
     simp at h; subst h; exact hlt
   have e : insV (y :: t) v = v :: y :: t := by simp [insV,List.takeWhile,List.dropWhile,hlt]
   rw [e]; unfold SrtV
   rw [List.map_cons,List.pairwise_cons]
   refine ⟨fun z hz =>?_,by rw [List.map_cons,List.pairwise_cons]; exact hs⟩
   rw [List.map_cons] at hz
   rcases List.mem_cons.1 hz with rfl | hz
   · omega
   have := hs.1 z hz; omega
theorem app_perm {L R : List VolV} (c : Cm) (hp : L.Perm R) (hs : SrtV R) : (mApp L c).1.Perm (rApp R c).1 ∧ SrtV (rApp R c).1 := by
 have hnL : (L.map (·.vo)).Nodup := (hp.map (·.vo)).nodup_iff.2 hs.nodup
 have hex : (∃ y ∈ L,y.vo = c.vo) ↔ ∃ y ∈ R,y.vo = c.vo := ⟨fun ⟨y,h,e⟩ => ⟨y,hp.mem_iff.1 h,e⟩,fun ⟨y,h,e⟩ => ⟨y,hp.mem_iff.2 h,e⟩⟩
 by_cases hk : c.kd = 1
 · by_cases he : ∃ y ∈ R,y.vo = c.vo
   · rw [rApp_ex hk he,mApp,if_pos hk,if_pos (hex.2 he)]; exact ⟨hp,hs⟩
   by_cases hN : NewOk c.vo c.bl c.sz c.pe c.to c.pl
   · rw [mApp,rApp,if_pos hk,if_pos hk,if_neg (fun h => he (hex.1 h)),if_neg he,if_pos hN,if_pos hN]
     exact ⟨(hp.append_right _).trans ins_perm,ins_srt hs he⟩
   rw [rApp_bad hk he hN,mApp,if_pos hk,if_neg (fun h => he (hex.1 h)),if_neg hN]; exact ⟨hp,hs⟩
 by_cases he : ∃ y ∈ R,y.vo = c.vo
 · obtain ⟨x,hxR,hxv⟩ := he
   obtain ⟨j,hj⟩ := List.getElem?_of_mem hxR
   obtain ⟨i,hi⟩ := List.getElem?_of_mem (hp.mem_iff.2 hxR)
   obtain ⟨y,e9,hd⟩ : ∃ y e9,doV x c = (y,e9) := ⟨_,_,rfl⟩
   obtain ⟨rl,rf,rn,hr⟩ : ∃ rl rf rn,repV y e9 = (rl,rf,rn) := ⟨_,_,_,rfl⟩
   have h1 := rApp_do hk hs.nodup hj hxv hd hr
   have h2 : (mApp L c).1 = L.set i y := by
     have h3 : (mApp L c).1 = (rApp L c).1 := by rw [mApp,rApp,if_neg hk,if_neg hk]; cases List.findIdx? (fun y => decide (y.vo = c.vo)) L <;> rfl
     rw [h3,rApp_do hk hnL hi hxv hd hr]
   have hv : y.vo = x.vo := doV_vo hd
   rw [h1,h2]
   show (L.set i y).Perm (R.set j y) ∧ SrtV (R.set j y)
   rw [set_map hnL hi,set_map hs.nodup hj]
   refine ⟨hp.map _,?_⟩
   unfold SrtV
   rw [List.map_map,show ((fun z : VolV => z.vo) ∘ fun z => if z.vo = x.vo then y else z) = fun z => z.vo from funext (fun z => by
     show (if z.vo = x.vo then y else z).vo = z.vo
     split
     · rename_i h; rw [hv,h]
     rfl)]
   exact hs
 have hnL' : ¬ ∃ y ∈ L,y.vo = c.vo := fun h => he (hex.1 h)
 have h3 : (mApp L c).1 = (rApp L c).1 := by rw [mApp,rApp,if_neg hk,if_neg hk]; cases List.findIdx? (fun y => decide (y.vo = c.vo)) L <;> rfl
 rw [h3,rApp_no hk he,rApp_no hk hnL']; exact ⟨hp,hs⟩
open Classical in
noncomputable def rrL (cs : List Cm) : List VolV := cs.foldl (fun L c => if CmdR c then (rApp L c).1 else L) []
open Classical in
theorem rrL_yes {cs : List Cm} {k : Nat} {x : Cm} (h : cs[k]? = some x) (hR : CmdR x) : rrL (cs.take (k + 1)) = (rApp (rrL (cs.take k)) x).1 := by
 rw [rrL,List.take_add_one,h,List.foldl_append]
 show (if CmdR x then _ else _) = _
 rw [if_pos hR]; rfl
open Classical in
theorem rrL_no {cs : List Cm} {k : Nat} {x : Cm} (h : cs[k]? = some x) (hR : ¬ CmdR x) : rrL (cs.take (k + 1)) = rrL (cs.take k) := by
 rw [rrL,List.take_add_one,h,List.foldl_append]
 show (if CmdR x then _ else _) = _
 rw [if_neg hR]; rfl
open Classical in
theorem rep_perm (cs : List Cm) : (repL cs).Perm (rrL cs) ∧ SrtV (rrL cs) := by
 suffices h : ∀ (cs : List Cm) (L R : List VolV),L.Perm R → SrtV R → (cs.foldl (fun L c => if CmdR c then (mApp L c).1 else L) L).Perm (cs.foldl (fun L c => if CmdR c then (rApp L c).1 else L) R) ∧ SrtV (cs.foldl (fun L c => if CmdR c then (rApp L c).1 else L) R) from h cs [] [] (List.Perm.refl _) List.Pairwise.nil
 intro cs
 induction cs with
 | nil => exact fun L R hp hs => ⟨hp,hs⟩
 | cons c t ih =>
   intro L R hp hs
   rw [List.foldl_cons,List.foldl_cons]
   by_cases hR : CmdR c
   · rw [if_pos hR,if_pos hR]
     obtain ⟨h1,h2⟩ := app_perm c hp hs
     exact ih _ _ h1 h2
   rw [if_neg hR,if_neg hR]; exact ih _ _ hp hs
theorem rep_all (cs : List Cm) : allL (repL cs) = rrL cs := all_of (rep_perm cs).1 (rep_perm cs).2
theorem rApp_s {n : Nat} {R : List VolV} {c : Cm} (hs : SrtV R) (hV : ∀ y ∈ R,VolS n y) (hb : ∀ e ∈ c.its,BytesL e.2) : (∀ y ∈ (rApp R c).1,VolS (n + 1) y) ∧ (rApp R c).1.length ≤ R.length + 1 ∧ SrtV (rApp R c).1 := by
 obtain ⟨h1,h2⟩ := app_perm c (List.Perm.refl R) hs
 obtain ⟨L',e9,rl,rf,rn,h⟩ : ∃ L' e9 rl rf rn,mApp R c = (L',e9,rl,rf,rn) := ⟨_,_,_,_,_,rfl⟩
 obtain ⟨h3,h4⟩ := mApp_s h hV hb
 rw [h] at h1
 exact ⟨fun y hy => h3 y (h1.mem_iff.2 hy),by rw [← h1.length_eq]; exact h4,h2⟩
end
section
theorem fl38kn6 : flatS Tryz.prog 38 [.int .i64 0,.int .i64 0,.int .i64 0,.int .i64 0,.int .i64 0,.slice none 0 0,.int .i64 0,.int .i64 0,.int .i64 0,.slice none 0 0] = true := by kernel_rfl
theorem fl44kn6 : flatS Tryz.prog 44 [.int .i64 0,.int .i64 0,.int .i64 0,.int .i64 0,.slice none 0 0] = true := by kernel_rfl
theorem fl51kn6 : flatS Tryz.prog 51 [.int .i64 0,.int .i64 0,.int .i64 0,.int .i64 0,.slice none 0 0,.int .i64 0,.int .i64 0,.bool false,.int .i64 0,.slice none 0 0,.slice none 0 0] = true := by kernel_rfl
theorem fl59kn6 : flatS Tryz.prog 59 [.int .i64 0,.slice none 0 0] = true := by kernel_rfl
theorem ps76kn6 : placesS Tryz.prog 76 = some [(0,1),(1,10),(11,1),(12,1),(13,5)] := by kernel_rfl
def V1k (pe : Int) (pl : List Int) : VolV := ⟨0,3,1,pe,pl,0,0,false,0,[],[(1,[(0,[120])])]⟩
def C2k : Cm := (⟨2,0,0,0,0,[],0,0,0,[(0,[120])]⟩ : Cm)
def T1k : Tl := ⟨1,C2k,0,1,0,1,0,0,[]⟩
def T2k : Tl := ⟨1,C2k,0,1,0,2,0,0,[]⟩
theorem ordK1 (pe : Int) (pl : List Int) : ordB [T1k] (V1k pe pl) = true := rfl
theorem ordK2 (pe : Int) (pl : List Int) : ordB [T2k] (V1k pe pl) = false := rfl
theorem ordK3 (pe : Int) (pl : List Int) : ordB [] (V1k pe pl) = false := rfl
theorem tk1 : ∀ t ∈ [T1k],t.c.its.length ≤ 1000000 ∧ ∀ e ∈ t.c.its,BytesL e.2 := by simp [T1k,C2k,BytesL]
theorem tk2 : ∀ t ∈ [T2k],t.c.its.length ≤ 1000000 ∧ ∀ e ∈ t.c.its,BytesL e.2 := by simp [T2k,C2k,BytesL]
theorem tk0 : ∀ t ∈ ([] : List Tl),t.c.its.length ≤ 1000000 ∧ ∀ e ∈ t.c.its,BytesL e.2 := fun t h => by cases h
theorem vkB (pe : Int) (pl : List Int) : ∀ e ∈ (V1k pe pl).ws,e.2.length ≤ 1000000 ∧ ∀ z ∈ e.2,BytesL z.2 := by simp [V1k,BytesL]
theorem vkL (pe : Int) (pl : List Int) : (V1k pe pl).ws.length ≤ 1000000 := by simp [V1k]
theorem create_k (w0 : World) :
   Calls Tryz.prog 42 #[.int .u8 0,.int .u8 2,.int .u8 0,.int .u8 1,.int .i64 0] w0 fun e w' => ∃ (pe : Int) (pl : List Int) (p : Option Addr) (c : Nat),e = .returned (.agg #[.int .i64 1,.int .i64 0,.int .i64 3,.int .i64 1,.int .i64 pe,.slice p pl.length c,.int .i64 0,.int .i64 0,.int .i64 0,.slice none 0 0]) ∧ NewOk 0 3 1 pe 0 pl ∧ Rd (New w0) w' (.slice p pl.length c) (.ns .i64 pl) ∧ Below w0.heap.size w0 w' := by
 refine (create_e 0 2 0 1 0 w0 (by omega) (by omega) (by omega) (by omega)).mono ?_
 rintro e w' ⟨bl,sz,pe,pl,p,c,rfl,hb,hs,h1,h2,h3,h4,h5,h6⟩
 obtain rfl : bl = 3 := hb.trans (by decide)
 obtain rfl : sz = 1 := hs.trans (by decide)
 exact ⟨pe,pl,p,c,rfl,⟨by omega,by omega,by omega,by omega,by omega,by omega,h1,h2,h3,by omega,by omega⟩,h5,h6⟩
theorem rep_k (pe : Int) (pl : List Int) (hN : NewOk 0 3 1 pe 0 pl) : allL (repL [⟨1,0,3,1,pe,pl,0,0,0,[]⟩,C2k]) = [V1k pe pl] := by
 obtain ⟨a1,a2,a3,a4,a5,a6,a7,a8,a9,a10,a11⟩ := hN
 have hN : NewOk 0 3 1 pe 0 pl := ⟨a1,a2,a3,a4,a5,a6,a7,a8,a9,a10,a11⟩
 have hS := newV_s (n := 0) hN
 have hR1 : CmdR ⟨1,0,3,1,pe,pl,0,0,0,[]⟩ := ⟨by simp,by simp,by simp; omega,hS.sm.1,fun z hz => by have := a9.1 z hz; simp only at *; omega,by simp,fun e he => by cases he⟩
 have hR2 : CmdR C2k := ⟨by decide,by decide,by decide,by decide,by decide,by decide,by decide⟩
 have h1 : mApp [] ⟨1,0,3,1,pe,pl,0,0,0,[]⟩ = ([newV 0 3 1 pe 0 pl],0,0,0,0) := by
   rw [mApp,if_pos rfl,if_neg (by rintro ⟨y,hy,_⟩; cases hy),if_pos hN]; rfl
 have hd : doR 3 1 0 0 0 false [] [] 2 0 0 [(0,[120])] = (0,false,0,[] ++ [(((List.length ([] : List PWr) : Nat) : Int) + 1,[(0,[120])])],0) := doR_put_yes rfl ⟨by decide,by decide,fun j hj => by
   obtain rfl : j = 0 := by simp at hj; omega
   exact ⟨by decide,by decide,by decide,by rintro ⟨e,he,_⟩; cases he⟩⟩
 have h2 : (mApp [newV 0 3 1 pe 0 pl] C2k).1 = [V1k pe pl] := by
   have hd2 : doV (newV 0 3 1 pe 0 pl) C2k = (V1k pe pl,0) := by
     unfold doV
     rw [if_neg (by decide),if_neg (by decide)]
     simp only [newV,C2k,show decide ((0 : Int) < 0) = false from rfl,hd]; rfl
   rw [mApp,if_neg (by decide)]
   simp only [show List.findIdx? (fun y => decide (y.vo = C2k.vo)) [newV 0 3 1 pe 0 pl] = some 0 from rfl,show List.getD [newV 0 3 1 pe 0 pl] 0 volZ = newV 0 3 1 pe 0 pl from rfl,hd2]; rfl
 have hr : repL [⟨1,0,3,1,pe,pl,0,0,0,[]⟩,C2k] = [V1k pe pl] := by
   have e1 := rep_yes (cs := [⟨1,0,3,1,pe,pl,0,0,0,[]⟩,C2k]) (k := 0) rfl hR1
   have e2 := rep_yes (cs := [⟨1,0,3,1,pe,pl,0,0,0,[]⟩,C2k]) (k := 1) rfl hR2
   have e3 : repL (List.take 1 [⟨1,0,3,1,pe,pl,0,0,0,[]⟩,C2k]) = [newV 0 3 1 pe 0 pl] := by
     rw [e1]; exact congrArg (·.1) h1
   have e4 : repL [⟨1,0,3,1,pe,pl,0,0,0,[]⟩,C2k] = _ := e2
   rw [e4,e3,h2]
 rw [hr]
 have hi : idsL [V1k pe pl] = [0] := by simp [idsL,V1k]
 rw [allL,hi]; rfl
theorem replay_k (pe : Int) (pl9 : List Int) (hN : NewOk 0 3 1 pe 0 pl9) (pl : Option Addr) (nl cl : Nat) (w0 : World) (h1 : Rd (fun _ => True) w0 (.slice pl nl cl) (.l 10 ([⟨1,0,3,1,pe,pl9,0,0,0,[]⟩,C2k].map cmD))) :
   Calls Tryz.prog 33 #[.slice pl nl cl] w0 fun e w' => ∃ (p : Option Addr) (c : Nat),e = .returned (.slice p 1 c) ∧ Rd (New w0) w' (.slice p 1 c) (.l 11 [[.v (.int .i64 0),.v (.int .i64 3),.v (.int .i64 1),.v (.int .i64 pe),.ns .i64 pl9,.v (.int .i64 0),.v (.int .i64 0),.v (.bool false),.v (.int .i64 0),.ns .i64 [],.l 2 ([((1 : Int),[((0 : Int),[(120 : Int)])])].map wrD)]]) ∧ Below w0.heap.size w0 w' := by
 refine (replay_x _ pl nl cl w0 h1 (by simp [C2k,BytesL]) (by simp)).mono ?_
 rintro e w' ⟨p,c,rfl,hr,hb⟩
 rw [rep_k pe pl9 hN] at hr ⊢
 exact ⟨p,c,rfl,hr,hb⟩
theorem ordT (l : List Tl) (v : VolV) (b : Bool) (h : ordB l v = b) (pl : Option Addr) (nl cl : Nat) (y1 y2 y3 : Option Addr) (z1 x1 z2 x2 nv x3 : Nat) (w0 : World) (h1 : Rd (fun _ => True) w0 (.slice pl nl cl) (.l 18 (l.map tlD))) (h3 : Rd (fun _ => True) w0 (.slice y3 nv x3) (.l 2 (v.ws.map wrD))) (hlb : ∀ t ∈ l,t.c.its.length ≤ 1000000 ∧ ∀ e ∈ t.c.its,BytesL e.2) (hvb : ∀ e ∈ v.ws,e.2.length ≤ 1000000 ∧ ∀ z ∈ e.2,BytesL z.2) (hl9 : l.length ≤ 1000) (hv9 : v.ws.length ≤ 1000000) :
   Calls Tryz.prog 38 #[.slice pl nl cl,.agg #[.int .i64 v.vo,.int .i64 v.bl,.int .i64 v.sz,.int .i64 v.pe,.slice y1 z1 x1,.int .i64 v.to,.int .i64 v.ne,.bool v.hi,.int .i64 v.fl,.slice y2 z2 x2,.slice y3 nv x3]] w0 fun e w' => e = .returned (.bool b) ∧ Below w0.heap.size w0 w' := h ▸ ordered_x l v pl nl cl y1 y2 y3 z1 x1 z2 x2 nv x3 w0 h1 h3 hlb hvb hl9 hv9
theorem v1kB {pe : Int} {pl : List Int} (hN : NewOk 0 3 1 pe 0 pl) : VolB (V1k pe pl) := by
 have hS := (newV_s (n := 0) hN).sm.1
 exact ⟨by have : pl.length ≤ 256 := hS; show pl.length ≤ 1000000; omega,by simp [V1k],by simp [V1k],by simp [V1k,BytesL]⟩
theorem sameT (x : VolV) (p1 p2 p3 q1 q2 q3 : Option Addr) (c1 c2 c3 d1 d2 d3 nx ny : Nat) (w0 : World) (hx : VolB x) (h1 : Rd (fun _ => True) w0 (.slice p1 x.place.length c1) (.ns .i64 x.place)) (h2 : Rd (fun _ => True) w0 (.slice p2 x.pins.length c2) (.ns .i64 x.pins)) (h3 : Rd (fun _ => True) w0 (.slice p3 nx c3) (.l 2 (x.ws.map wrD))) (h4 : Rd (fun _ => True) w0 (.slice q1 x.place.length d1) (.ns .i64 x.place)) (h5 : Rd (fun _ => True) w0 (.slice q2 x.pins.length d2) (.ns .i64 x.pins)) (h6 : Rd (fun _ => True) w0 (.slice q3 ny d3) (.l 2 (x.ws.map wrD))) :
   Calls Tryz.prog 35 #[.agg #[.int .i64 x.vo,.int .i64 x.bl,.int .i64 x.sz,.int .i64 x.pe,.slice p1 x.place.length c1,.int .i64 x.to,.int .i64 x.ne,.bool x.hi,.int .i64 x.fl,.slice p2 x.pins.length c2,.slice p3 nx c3],.agg #[.int .i64 x.vo,.int .i64 x.bl,.int .i64 x.sz,.int .i64 x.pe,.slice q1 x.place.length d1,.int .i64 x.to,.int .i64 x.ne,.bool x.hi,.int .i64 x.fl,.slice q2 x.pins.length d2,.slice q3 ny d3]] w0 fun e w' => e = .returned (.bool true) ∧ Below w0.heap.size w0 w' :=
 (msmP x x p1 p2 p3 q1 q2 q3 c1 c2 c3 d1 d2 d3 nx ny w0 hx hx h1 h2 h3 h4 h5 h6).mono fun e w' h => ⟨by rw [h.1,decide_eq_true (samP_iff.2 ⟨⟨rfl,rfl,rfl,rfl,rfl,rfl⟩,rfl,rfl,rfl,rfl,rfl⟩)],h.2⟩
theorem preT (x : VolV) (p1 p2 p3 q1 q2 q3 : Option Addr) (c1 c2 c3 d1 d2 d3 nx ny : Nat) (w0 : World) (hx : VolB x) (h1 : Rd (fun _ => True) w0 (.slice p1 x.place.length c1) (.ns .i64 x.place)) (h3 : Rd (fun _ => True) w0 (.slice p3 nx c3) (.l 2 (x.ws.map wrD))) (h4 : Rd (fun _ => True) w0 (.slice q1 x.place.length d1) (.ns .i64 x.place)) (h6 : Rd (fun _ => True) w0 (.slice q3 ny d3) (.l 2 (x.ws.map wrD))) :
   Calls Tryz.prog 36 #[.agg #[.int .i64 x.vo,.int .i64 x.bl,.int .i64 x.sz,.int .i64 x.pe,.slice p1 x.place.length c1,.int .i64 x.to,.int .i64 x.ne,.bool x.hi,.int .i64 x.fl,.slice p2 x.pins.length c2,.slice p3 nx c3],.agg #[.int .i64 x.vo,.int .i64 x.bl,.int .i64 x.sz,.int .i64 x.pe,.slice q1 x.place.length d1,.int .i64 x.to,.int .i64 x.ne,.bool x.hi,.int .i64 x.fl,.slice q2 x.pins.length d2,.slice q3 ny d3]] w0 fun e w' => e = .returned (.bool true) ∧ Below w0.heap.size w0 w' :=
 (mpre x x p1 p2 p3 q1 q2 q3 c1 c2 c3 d1 d2 d3 nx ny w0 hx hx h1 h3 h4 h6).mono fun e w' h => ⟨by rw [h.1,decide_eq_true (show preE x x from ⟨⟨rfl,rfl,rfl,rfl,rfl,rfl⟩,Nat.le_refl _,(List.take_length).symm⟩)],h.2⟩
theorem preF (pe : Int) (pl9 : List Int) (p1 p2 p3 : Option Addr) (c1 c2 c3 nx : Nat) (w0 : World) (hx : VolB (V1k pe pl9)) (h1 : Rd (fun _ => True) w0 (.slice p1 (V1k pe pl9).place.length c1) (.ns .i64 (V1k pe pl9).place)) (h3 : Rd (fun _ => True) w0 (.slice p3 nx c3) (.l 2 ((V1k pe pl9).ws.map wrD))) :
   Calls Tryz.prog 36 #[.agg #[.int .i64 (V1k pe pl9).vo,.int .i64 (V1k pe pl9).bl,.int .i64 (V1k pe pl9).sz,.int .i64 (V1k pe pl9).pe,.slice p1 (V1k pe pl9).place.length c1,.int .i64 (V1k pe pl9).to,.int .i64 (V1k pe pl9).ne,.bool (V1k pe pl9).hi,.int .i64 (V1k pe pl9).fl,.slice p2 (V1k pe pl9).pins.length c2,.slice p3 nx c3],.agg #[.int .i64 0,.int .i64 0,.int .i64 0,.int .i64 0,.slice none 0 0,.int .i64 0,.int .i64 0,.bool false,.int .i64 0,.slice none 0 0,.slice none 0 0]] w0 fun e w' => e = .returned (.bool false) ∧ Below w0.heap.size w0 w' :=
 (mpre (V1k pe pl9) volZ p1 p2 p3 none none none c1 c2 c3 0 0 0 nx 0 w0 hx ⟨by simp [volZ],by simp [volZ],by simp [volZ],by simp [volZ]⟩ h1 h3 (Rd.nilN _ _ .i64 none) (Rd.l0 none 0 2)).mono fun e w' h => ⟨by rw [h.1,decide_eq_false (show ¬ preE (V1k pe pl9) volZ from fun h9 => by have := h9.1.2.1; simp [V1k,volZ] at this)],h.2⟩
set_option maxRecDepth 100000
set_option maxHeartbeats 4000000
theorem cutF {p q : Prop} (h : p → q) (hp : p) : q := h hp
theorem known26 (w0 : World) : Calls Tryz.prog 31 #[] w0 fun e w' => e = .returned (.bool true) ∧ Below w0.heap.size w0 w' := by
 refine ent0 Tryz.func31 rfl Tryz.ntmps31 fun Y U =>?_
 have m0 := MemOk.start (fun _ => False) w0
 refine regS U (.assign rfl .nil) fun Y U =>?_
 refine zsr fun K0 hK0 =>?_
 refine plz (ecl U Tryz.func42 rfl (create_k _) ?_)
 rintro e w2 ⟨pe,pl9,p2,c2,rfl,hN,ho2,hb2⟩
 have m3 := m0.callF 20 rfl hb2 ho2
 refine ⟨_,rfl,?_⟩; intro Y U
 refine plz (e_litN U m3 21 (k := .u8) rfl rfl U22 fct0 rfl rfl rfl rfl fun g5 Y w6 U m6 =>?_)
 refine plz (e_cvN U m6 21 rfl rfl U22 U5 rfl fun Y w7 U m7 =>?_)
 refine goCh U (.build rfl fct4 fl59kn6 rfl (by dsimp only [setL,List.set] <;> rfl) .nil) fun Y U =>?_
 refine plz (e_litR U m7 22 (mm := 2) rfl (.cons rfl rfl (.cons (.v _) (.cons (m7.rd (i := 21) rfl) .nil)) .nil) U36 fct5 rfl rfl rfl rfl rfl fun g9 Y w10 U m10 =>?_)
 refine goCh U (.build rfl fct24 fl38kn6 rfl (by dsimp only [setL,List.set] <;> rfl) .nil) fun Y U =>?_
 have m13 := m10.freezeR 22 rfl
 refine plz (e_litR U m13 23 (mm := 10) rfl (.cons rfl rfl (.cons (.v _) (.cons (.v _) (.cons (.v _) (.cons (.v _) (.cons (.v _) (.cons (m13.rd (i := 20) rfl) (.cons (.v _) (.cons (.v _) (.cons (.v _) (.cons (.l0 _ _ 2) .nil))))))))))<|.cons rfl rfl (.cons (.v _) (.cons (.v _) (.cons (.v _) (.cons (.v _) (.cons (.v _) (.cons (Rd.nilN _ _ .i64 _) (.cons (.v _) (.cons (.v _) (.cons (.v _) (.cons (m13.rd (i := 22) rfl) .nil)))))))))) .nil) U24 fct36 rfl rfl rfl rfl rfl fun g12 Y w14 U m14 =>?_)
 refine gz hK0 U (.assign rfl .nil) fun Y U =>?_
 replace U := U.oz [0,1]
 refine zsr fun K1 hK1 =>?_
 refine goCh U (.move rfl .nil) fun Y U =>?_
 have m19 := m14.freezeR 23 rfl
 refine plz (ecl U Tryz.func33 rfl (replay_k pe pl9 hN _ _ _ _ ((m19.rd (i := 23) rfl).any)) ?_)
 rintro e w20 ⟨p20,c20,rfl,ho20,hb20⟩
 have m21 := m19.callF 24 rfl hb20 ho20
 refine ⟨_,rfl,?_⟩; intro Y U
 refine gz hK1 U (.assign rfl .nil) fun Y U =>?_
 refine wsk fun K2 hK2 =>?_
 refine regS U (.move rfl<|.len rfl U30<|.neq rfl rfl .nil) fun Y U =>?_
 refine bc U 16 ?_ ?_
 · intro hb _; exact absurd hb (by simp)
 clear U; intro _ U
 refine wcf U ?_
 refine zss (hK2 _ _ ?_)
 refine wsk fun K3 hK3 =>?_
 refine cutF (fun (hC3 : ∀ (a : Act) (w : World),(∃ (B : Nat) (pa qa sa : Option Addr) (ca da fa : Nat),Has 73 [(2,.slice sa 1 fa),(3,.pointer (some ⟨B,0,none⟩))] a ∧ MemOk (cn w0) w0 [(30,.box B 76 [.int .i64 1,.int .i64 2,.int .i64 0,.int .i64 0,.int .i64 0,.int .i64 0,.slice pa 0 ca,.int .i64 0,.int .i64 0,.int .i64 0,.slice qa 1 da,.int .i64 0,.int .i64 1,.int .i64 0,.int .i64 1,.int .i64 0,.int .i64 0,.slice none 0 0]),(31,.dat (.slice pa 0 ca) (.ns .i64 [])),(32,.dat (.slice qa 1 da) (.l 2 [[.v (.int .i64 0),.ns .u8 [120]]])),(34,.dat (.slice sa 1 fa) (.l 11 [[.v (.int .i64 0),.v (.int .i64 3),.v (.int .i64 1),.v (.int .i64 pe),.ns .i64 pl9,.v (.int .i64 0),.v (.int .i64 0),.v (.bool false),.v (.int .i64 0),.ns .i64 [],.l 2 ([((1 : Int),[((0 : Int),[(120 : Int)])])].map wrD)]]))] w) → K3 a w) =>?_) ?_
 ·
  refine wp_region_lit ?_
  refine goCh U (.move rfl .nil) fun Y U =>?_
  obtain ⟨b139,o139,vs139,hp139,hR139,ho139,m139⟩ := m21.openR (i := 23) rfl (1) (r := [.v (.int .i64 2),.v (.int .i64 0),.v (.int .i64 0),.v (.int .i64 0),.v (.int .i64 0),.ns .i64 [],.v (.int .i64 0),.v (.int .i64 0),.v (.int .i64 0),.l 2 [[.v (.int .i64 0),.ns .u8 [120]]]]) rfl 25 rfl
  revert U
  cases hp139; clear m21 ho139
  rcases hR139 with _ | ⟨hd139_0,_ | ⟨hd139_1,_ | ⟨hd139_2,_ | ⟨hd139_3,_ | ⟨hd139_4,_ | ⟨hd139_5,_ | ⟨hd139_6,_ | ⟨hd139_7,_ | ⟨hd139_8,_ | ⟨hd139_9,_ | _⟩⟩⟩⟩⟩⟩⟩⟩⟩⟩
  obtain rfl := hd139_0.v_out
  clear hd139_0
  obtain rfl := hd139_1.v_out
  clear hd139_1
  obtain rfl := hd139_2.v_out
  clear hd139_2
  obtain rfl := hd139_3.v_out
  clear hd139_3
  obtain rfl := hd139_4.v_out
  clear hd139_4
  obtain ⟨p140,c140,hv140,hc140⟩ := hd139_5.ns_shape; subst hv140
  intro U
  have m140 := m139.dat 26 rfl (hd139_5.cast (fun _ h => (free_add rfl h))); clear m139 hd139_5
  revert U
  obtain rfl := hd139_6.v_out
  clear hd139_6
  obtain rfl := hd139_7.v_out
  clear hd139_7
  obtain rfl := hd139_8.v_out
  clear hd139_8
  obtain ⟨p141,c141,hv141,hc141⟩ := hd139_9.l_shape; subst hv141
  intro U
  have m141 := m140.dat 27 rfl (hd139_9.cast (fun _ h => (free_add rfl (free_add rfl h)))); clear m140 hd139_9
  refine goCh U (.c rfl (fun _ h_ => y_idx h_ rfl rfl U24 fct19 (1) rfl (by decide))<|.loadCR m141 (i := 25) rfl rfl U38 rfl fct19<|.build rfl fct29 fl44kn6 rfl (by dsimp only [setL,List.set] <;> rfl)<|.buildG rfl fct38 ps76kn6 rfl .nil) fun Y U =>?_
  refine plz (e_alloc U m141 28 fct38 rfl fun g146 Y w147 U m147 _ _ =>?_)
  refine plz (stw U m147 28 fct16 fun w148 m148 _ =>?_)
  refine wpList_nil ?_
  show K3 _ _
  exact hC3 _ _ ⟨_,_,_,_,_,_,_,U.only [2,3],m148.ren [(30,28),(31,26),(32,27),(34,24)] (by decide)⟩
 clear U m21
 rintro Y w28 ⟨B,pa,qa,sa,ca,da,fa,U,m28⟩
 refine hK3 _ _ ?_
 refine zsr fun K4 hK4 =>?_
 refine goCh U (.loadBR m28 (i := 30) rfl rfl U76 rfl fct16 (by simp) (by dsimp only [List.drop,List.take] <;> rfl) .nil) fun Y U =>?_
 refine plz (e_alloc U m28 100 fct38 rfl fun g31 Y w32 U m32 _ _ =>?_)
 refine plz (stw U m32 100 fct16 fun w33 m33 _ =>?_)
 refine znl (hK4 _ _ ?_)
 refine zsr fun K5 hK5 =>?_
 refine goCh U (.fieldAddr (off := 13) rfl U76 rfl (s := 4) (by kernel_rfl) rfl<|.fa 14 rfl U44 .nil) fun Y U =>?_
 refine plz (st1 U m33 100 fct18 fun w38 m38 _ =>?_)
 refine znl (hK5 _ _ ?_)
 refine wsk fun K6 hK6 =>?_
 obtain ⟨b39,o39,vs39,hp39,hR39,ho39,m39⟩ := m38.openR (i := 34) rfl (0) (r := [.v (.int .i64 0),.v (.int .i64 3),.v (.int .i64 1),.v (.int .i64 pe),.ns .i64 pl9,.v (.int .i64 0),.v (.int .i64 0),.v (.bool false),.v (.int .i64 0),.ns .i64 [],.l 2 ([((1 : Int),[((0 : Int),[(120 : Int)])])].map wrD)]) rfl 101 rfl
 revert U
 cases hp39; clear m38 ho39
 rcases hR39 with _ | ⟨hd39_0,_ | ⟨hd39_1,_ | ⟨hd39_2,_ | ⟨hd39_3,_ | ⟨hd39_4,_ | ⟨hd39_5,_ | ⟨hd39_6,_ | ⟨hd39_7,_ | ⟨hd39_8,_ | ⟨hd39_9,_ | ⟨hd39_10,_ | _⟩⟩⟩⟩⟩⟩⟩⟩⟩⟩⟩
 obtain rfl := hd39_0.v_out
 clear hd39_0
 obtain rfl := hd39_1.v_out
 clear hd39_1
 obtain rfl := hd39_2.v_out
 clear hd39_2
 obtain rfl := hd39_3.v_out
 clear hd39_3
 obtain ⟨p40,c40,hv40,hc40⟩ := hd39_4.ns_shape; subst hv40
 intro U
 have m40 := m39.dat 102 rfl (hd39_4.cast (fun _ h => (free_add rfl h))); clear m39 hd39_4
 revert U
 obtain rfl := hd39_5.v_out
 clear hd39_5
 obtain rfl := hd39_6.v_out
 clear hd39_6
 obtain rfl := hd39_7.v_out
 clear hd39_7
 obtain rfl := hd39_8.v_out
 clear hd39_8
 obtain ⟨p41,c41,hv41,hc41⟩ := hd39_9.ns_shape; subst hv41
 intro U
 have m41 := m40.dat 103 rfl (hd39_9.cast (fun _ h => (free_add rfl (free_add rfl h)))); clear m40 hd39_9
 revert U
 obtain ⟨p42,c42,hv42,hc42⟩ := hd39_10.l_shape; subst hv42
 intro U
 have m42 := m41.dat 104 rfl (hd39_10.cast (fun _ h => (free_add rfl (free_add rfl (free_add rfl h))))); clear m41 hd39_10
 obtain ⟨b43,o43,vs43,hp43,hR43,ho43,m43⟩ := m42.openR (i := 34) rfl (0) (r := [.v (.int .i64 0),.v (.int .i64 3),.v (.int .i64 1),.v (.int .i64 pe),.ns .i64 pl9,.v (.int .i64 0),.v (.int .i64 0),.v (.bool false),.v (.int .i64 0),.ns .i64 [],.l 2 ([((1 : Int),[((0 : Int),[(120 : Int)])])].map wrD)]) rfl 105 rfl
 revert U
 cases hp43; clear m42 ho43
 rcases hR43 with _ | ⟨hd43_0,_ | ⟨hd43_1,_ | ⟨hd43_2,_ | ⟨hd43_3,_ | ⟨hd43_4,_ | ⟨hd43_5,_ | ⟨hd43_6,_ | ⟨hd43_7,_ | ⟨hd43_8,_ | ⟨hd43_9,_ | ⟨hd43_10,_ | _⟩⟩⟩⟩⟩⟩⟩⟩⟩⟩⟩
 obtain rfl := hd43_0.v_out
 clear hd43_0
 obtain rfl := hd43_1.v_out
 clear hd43_1
 obtain rfl := hd43_2.v_out
 clear hd43_2
 obtain rfl := hd43_3.v_out
 clear hd43_3
 obtain ⟨p44,c44,hv44,hc44⟩ := hd43_4.ns_shape; subst hv44
 intro U
 have m44 := m43.dat 106 rfl (hd43_4.cast (fun _ h => (free_add rfl h))); clear m43 hd43_4
 revert U
 obtain rfl := hd43_5.v_out
 clear hd43_5
 obtain rfl := hd43_6.v_out
 clear hd43_6
 obtain rfl := hd43_7.v_out
 clear hd43_7
 obtain rfl := hd43_8.v_out
 clear hd43_8
 obtain ⟨p45,c45,hv45,hc45⟩ := hd43_9.ns_shape; subst hv45
 intro U
 have m45 := m44.dat 107 rfl (hd43_9.cast (fun _ h => (free_add rfl (free_add rfl h)))); clear m44 hd43_9
 revert U
 obtain ⟨p46,c46,hv46,hc46⟩ := hd43_10.l_shape; subst hv46
 intro U
 have m46 := m45.dat 108 rfl (hd43_10.cast (fun _ h => (free_add rfl (free_add rfl (free_add rfl h))))); clear m45 hd43_10
 obtain ⟨b47,o47,vs47,hp47,hR47,ho47,m47⟩ := m46.openR (i := 34) rfl (0) (r := [.v (.int .i64 0),.v (.int .i64 3),.v (.int .i64 1),.v (.int .i64 pe),.ns .i64 pl9,.v (.int .i64 0),.v (.int .i64 0),.v (.bool false),.v (.int .i64 0),.ns .i64 [],.l 2 ([((1 : Int),[((0 : Int),[(120 : Int)])])].map wrD)]) rfl 109 rfl
 revert U
 cases hp47; clear m46 ho47
 rcases hR47 with _ | ⟨hd47_0,_ | ⟨hd47_1,_ | ⟨hd47_2,_ | ⟨hd47_3,_ | ⟨hd47_4,_ | ⟨hd47_5,_ | ⟨hd47_6,_ | ⟨hd47_7,_ | ⟨hd47_8,_ | ⟨hd47_9,_ | ⟨hd47_10,_ | _⟩⟩⟩⟩⟩⟩⟩⟩⟩⟩⟩
 obtain rfl := hd47_0.v_out
 clear hd47_0
 obtain rfl := hd47_1.v_out
 clear hd47_1
 obtain rfl := hd47_2.v_out
 clear hd47_2
 obtain rfl := hd47_3.v_out
 clear hd47_3
 obtain ⟨p48,c48,hv48,hc48⟩ := hd47_4.ns_shape; subst hv48
 intro U
 have m48 := m47.dat 110 rfl (hd47_4.cast (fun _ h => (free_add rfl h))); clear m47 hd47_4
 revert U
 obtain rfl := hd47_5.v_out
 clear hd47_5
 obtain rfl := hd47_6.v_out
 clear hd47_6
 obtain rfl := hd47_7.v_out
 clear hd47_7
 obtain rfl := hd47_8.v_out
 clear hd47_8
 obtain ⟨p49,c49,hv49,hc49⟩ := hd47_9.ns_shape; subst hv49
 intro U
 have m49 := m48.dat 111 rfl (hd47_9.cast (fun _ h => (free_add rfl (free_add rfl h)))); clear m48 hd47_9
 revert U
 obtain ⟨p50,c50,hv50,hc50⟩ := hd47_10.l_shape; subst hv50
 intro U
 have m50 := m49.dat 112 rfl (hd47_10.cast (fun _ h => (free_add rfl (free_add rfl (free_add rfl h))))); clear m49 hd47_10
 obtain ⟨b51,o51,vs51,hp51,hR51,ho51,m51⟩ := m50.openR (i := 34) rfl (0) (r := [.v (.int .i64 0),.v (.int .i64 3),.v (.int .i64 1),.v (.int .i64 pe),.ns .i64 pl9,.v (.int .i64 0),.v (.int .i64 0),.v (.bool false),.v (.int .i64 0),.ns .i64 [],.l 2 ([((1 : Int),[((0 : Int),[(120 : Int)])])].map wrD)]) rfl 113 rfl
 revert U
 cases hp51; clear m50 ho51
 rcases hR51 with _ | ⟨hd51_0,_ | ⟨hd51_1,_ | ⟨hd51_2,_ | ⟨hd51_3,_ | ⟨hd51_4,_ | ⟨hd51_5,_ | ⟨hd51_6,_ | ⟨hd51_7,_ | ⟨hd51_8,_ | ⟨hd51_9,_ | ⟨hd51_10,_ | _⟩⟩⟩⟩⟩⟩⟩⟩⟩⟩⟩
 obtain rfl := hd51_0.v_out
 clear hd51_0
 obtain rfl := hd51_1.v_out
 clear hd51_1
 obtain rfl := hd51_2.v_out
 clear hd51_2
 obtain rfl := hd51_3.v_out
 clear hd51_3
 obtain ⟨p52,c52,hv52,hc52⟩ := hd51_4.ns_shape; subst hv52
 intro U
 have m52 := m51.dat 114 rfl (hd51_4.cast (fun _ h => (free_add rfl h))); clear m51 hd51_4
 revert U
 obtain rfl := hd51_5.v_out
 clear hd51_5
 obtain rfl := hd51_6.v_out
 clear hd51_6
 obtain rfl := hd51_7.v_out
 clear hd51_7
 obtain rfl := hd51_8.v_out
 clear hd51_8
 obtain ⟨p53,c53,hv53,hc53⟩ := hd51_9.ns_shape; subst hv53
 intro U
 have m53 := m52.dat 115 rfl (hd51_9.cast (fun _ h => (free_add rfl (free_add rfl h)))); clear m52 hd51_9
 revert U
 obtain ⟨p54,c54,hv54,hc54⟩ := hd51_10.l_shape; subst hv54
 intro U
 have m54 := m53.dat 116 rfl (hd51_10.cast (fun _ h => (free_add rfl (free_add rfl (free_add rfl h))))); clear m53 hd51_10
 obtain ⟨b55,o55,vs55,hp55,hR55,ho55,m55⟩ := m54.openR (i := 34) rfl (0) (r := [.v (.int .i64 0),.v (.int .i64 3),.v (.int .i64 1),.v (.int .i64 pe),.ns .i64 pl9,.v (.int .i64 0),.v (.int .i64 0),.v (.bool false),.v (.int .i64 0),.ns .i64 [],.l 2 ([((1 : Int),[((0 : Int),[(120 : Int)])])].map wrD)]) rfl 117 rfl
 revert U
 cases hp55; clear m54 ho55
 rcases hR55 with _ | ⟨hd55_0,_ | ⟨hd55_1,_ | ⟨hd55_2,_ | ⟨hd55_3,_ | ⟨hd55_4,_ | ⟨hd55_5,_ | ⟨hd55_6,_ | ⟨hd55_7,_ | ⟨hd55_8,_ | ⟨hd55_9,_ | ⟨hd55_10,_ | _⟩⟩⟩⟩⟩⟩⟩⟩⟩⟩⟩
 obtain rfl := hd55_0.v_out
 clear hd55_0
 obtain rfl := hd55_1.v_out
 clear hd55_1
 obtain rfl := hd55_2.v_out
 clear hd55_2
 obtain rfl := hd55_3.v_out
 clear hd55_3
 obtain ⟨p56,c56,hv56,hc56⟩ := hd55_4.ns_shape; subst hv56
 intro U
 have m56 := m55.dat 118 rfl (hd55_4.cast (fun _ h => (free_add rfl h))); clear m55 hd55_4
 revert U
 obtain rfl := hd55_5.v_out
 clear hd55_5
 obtain rfl := hd55_6.v_out
 clear hd55_6
 obtain rfl := hd55_7.v_out
 clear hd55_7
 obtain rfl := hd55_8.v_out
 clear hd55_8
 obtain ⟨p57,c57,hv57,hc57⟩ := hd55_9.ns_shape; subst hv57
 intro U
 have m57 := m56.dat 119 rfl (hd55_9.cast (fun _ h => (free_add rfl (free_add rfl h)))); clear m56 hd55_9
 revert U
 obtain ⟨p58,c58,hv58,hc58⟩ := hd55_10.l_shape; subst hv58
 intro U
 have m58 := m57.dat 120 rfl (hd55_10.cast (fun _ h => (free_add rfl (free_add rfl (free_add rfl h))))); clear m57 hd55_10
 obtain ⟨b59,o59,vs59,hp59,hR59,ho59,m59⟩ := m58.openR (i := 34) rfl (0) (r := [.v (.int .i64 0),.v (.int .i64 3),.v (.int .i64 1),.v (.int .i64 pe),.ns .i64 pl9,.v (.int .i64 0),.v (.int .i64 0),.v (.bool false),.v (.int .i64 0),.ns .i64 [],.l 2 ([((1 : Int),[((0 : Int),[(120 : Int)])])].map wrD)]) rfl 121 rfl
 revert U
 cases hp59; clear m58 ho59
 rcases hR59 with _ | ⟨hd59_0,_ | ⟨hd59_1,_ | ⟨hd59_2,_ | ⟨hd59_3,_ | ⟨hd59_4,_ | ⟨hd59_5,_ | ⟨hd59_6,_ | ⟨hd59_7,_ | ⟨hd59_8,_ | ⟨hd59_9,_ | ⟨hd59_10,_ | _⟩⟩⟩⟩⟩⟩⟩⟩⟩⟩⟩
 obtain rfl := hd59_0.v_out
 clear hd59_0
 obtain rfl := hd59_1.v_out
 clear hd59_1
 obtain rfl := hd59_2.v_out
 clear hd59_2
 obtain rfl := hd59_3.v_out
 clear hd59_3
 obtain ⟨p60,c60,hv60,hc60⟩ := hd59_4.ns_shape; subst hv60
 intro U
 have m60 := m59.dat 122 rfl (hd59_4.cast (fun _ h => (free_add rfl h))); clear m59 hd59_4
 revert U
 obtain rfl := hd59_5.v_out
 clear hd59_5
 obtain rfl := hd59_6.v_out
 clear hd59_6
 obtain rfl := hd59_7.v_out
 clear hd59_7
 obtain rfl := hd59_8.v_out
 clear hd59_8
 obtain ⟨p61,c61,hv61,hc61⟩ := hd59_9.ns_shape; subst hv61
 intro U
 have m61 := m60.dat 123 rfl (hd59_9.cast (fun _ h => (free_add rfl (free_add rfl h)))); clear m60 hd59_9
 revert U
 obtain ⟨p62,c62,hv62,hc62⟩ := hd59_10.l_shape; subst hv62
 intro U
 have m62 := m61.dat 124 rfl (hd59_10.cast (fun _ h => (free_add rfl (free_add rfl (free_add rfl h))))); clear m61 hd59_10
 obtain ⟨b63,o63,vs63,hp63,hR63,ho63,m63⟩ := m62.openR (i := 34) rfl (0) (r := [.v (.int .i64 0),.v (.int .i64 3),.v (.int .i64 1),.v (.int .i64 pe),.ns .i64 pl9,.v (.int .i64 0),.v (.int .i64 0),.v (.bool false),.v (.int .i64 0),.ns .i64 [],.l 2 ([((1 : Int),[((0 : Int),[(120 : Int)])])].map wrD)]) rfl 125 rfl
 revert U
 cases hp63; clear m62 ho63
 rcases hR63 with _ | ⟨hd63_0,_ | ⟨hd63_1,_ | ⟨hd63_2,_ | ⟨hd63_3,_ | ⟨hd63_4,_ | ⟨hd63_5,_ | ⟨hd63_6,_ | ⟨hd63_7,_ | ⟨hd63_8,_ | ⟨hd63_9,_ | ⟨hd63_10,_ | _⟩⟩⟩⟩⟩⟩⟩⟩⟩⟩⟩
 obtain rfl := hd63_0.v_out
 clear hd63_0
 obtain rfl := hd63_1.v_out
 clear hd63_1
 obtain rfl := hd63_2.v_out
 clear hd63_2
 obtain rfl := hd63_3.v_out
 clear hd63_3
 obtain ⟨p64,c64,hv64,hc64⟩ := hd63_4.ns_shape; subst hv64
 intro U
 have m64 := m63.dat 126 rfl (hd63_4.cast (fun _ h => (free_add rfl h))); clear m63 hd63_4
 revert U
 obtain rfl := hd63_5.v_out
 clear hd63_5
 obtain rfl := hd63_6.v_out
 clear hd63_6
 obtain rfl := hd63_7.v_out
 clear hd63_7
 obtain rfl := hd63_8.v_out
 clear hd63_8
 obtain ⟨p65,c65,hv65,hc65⟩ := hd63_9.ns_shape; subst hv65
 intro U
 have m65 := m64.dat 127 rfl (hd63_9.cast (fun _ h => (free_add rfl (free_add rfl h)))); clear m64 hd63_9
 revert U
 obtain ⟨p66,c66,hv66,hc66⟩ := hd63_10.l_shape; subst hv66
 intro U
 have m66 := m65.dat 128 rfl (hd63_10.cast (fun _ h => (free_add rfl (free_add rfl (free_add rfl h))))); clear m65 hd63_10
 obtain ⟨b67,o67,vs67,hp67,hR67,ho67,m67⟩ := m66.openR (i := 34) rfl (0) (r := [.v (.int .i64 0),.v (.int .i64 3),.v (.int .i64 1),.v (.int .i64 pe),.ns .i64 pl9,.v (.int .i64 0),.v (.int .i64 0),.v (.bool false),.v (.int .i64 0),.ns .i64 [],.l 2 ([((1 : Int),[((0 : Int),[(120 : Int)])])].map wrD)]) rfl 129 rfl
 revert U
 cases hp67; clear m66 ho67
 rcases hR67 with _ | ⟨hd67_0,_ | ⟨hd67_1,_ | ⟨hd67_2,_ | ⟨hd67_3,_ | ⟨hd67_4,_ | ⟨hd67_5,_ | ⟨hd67_6,_ | ⟨hd67_7,_ | ⟨hd67_8,_ | ⟨hd67_9,_ | ⟨hd67_10,_ | _⟩⟩⟩⟩⟩⟩⟩⟩⟩⟩⟩
 obtain rfl := hd67_0.v_out
 clear hd67_0
 obtain rfl := hd67_1.v_out
 clear hd67_1
 obtain rfl := hd67_2.v_out
 clear hd67_2
 obtain rfl := hd67_3.v_out
 clear hd67_3
 obtain ⟨p68,c68,hv68,hc68⟩ := hd67_4.ns_shape; subst hv68
 intro U
 have m68 := m67.dat 130 rfl (hd67_4.cast (fun _ h => (free_add rfl h))); clear m67 hd67_4
 revert U
 obtain rfl := hd67_5.v_out
 clear hd67_5
 obtain rfl := hd67_6.v_out
 clear hd67_6
 obtain rfl := hd67_7.v_out
 clear hd67_7
 obtain rfl := hd67_8.v_out
 clear hd67_8
 obtain ⟨p69,c69,hv69,hc69⟩ := hd67_9.ns_shape; subst hv69
 intro U
 have m69 := m68.dat 131 rfl (hd67_9.cast (fun _ h => (free_add rfl (free_add rfl h)))); clear m68 hd67_9
 revert U
 obtain ⟨p70,c70,hv70,hc70⟩ := hd67_10.l_shape; subst hv70
 intro U
 have m70 := m69.dat 132 rfl (hd67_10.cast (fun _ h => (free_add rfl (free_add rfl (free_add rfl h))))); clear m69 hd67_10
 have m71 := m70.oz [30,31,32,34,100,101,102,103,104,105,106,107,108,109,110,111,112,113,114,115,116,117,118,119,120,121,122,123,124,125,126,127,128,129,130,131,132]
 refine region_p 49 (B := [(30,_),(31,_),(32,_),(34,_),(100,_),(101,_),(102,_),(103,_),(104,_),(105,_),(106,_),(107,_),(108,_),(109,_),(110,_),(111,_),(112,_),(113,_),(114,_),(115,_),(116,_),(117,_),(118,_),(119,_),(120,_),(121,_),(122,_),(123,_),(124,_),(125,_),(126,_),(127,_),(128,_),(129,_),(130,_),(131,_),(132,_)]) (m71.to ⟨il,il,il,il,il,il,il,il,il,il,il,il,il,il,il,il,il,il,il,il,il,il,il,il,il,il,il,il,il,il,il,il,il,il,il,il,il,trivial⟩) m71 (by kernel_rfl) (fun w72 hP72 m72 =>?_); clear m71
 refine goR hP72 [0,2,3,4] [0,4] 4 0 29 U (m72.to ⟨il,il,il,il,il,il,il,il,il,il,il,il,il,il,il,il,il,il,il,il,il,il,il,il,il,il,il,il,il,il,il,il,il,il,il,il,il,trivial⟩) (.loadBR hh (i := 30) rfl rfl U76 rfl fct16 (by simp) (by dsimp only [List.drop,List.take] <;> rfl)<|.move rfl<|.p (fun _ _ h_ => y_idx h_ rfl rfl U30 fct13 (0) rfl (by decide))<|.loadCR hh (i := 101) rfl rfl U51 rfl fct13 .nil) fun Y U =>?_
 refine so 1 ?_
 refine e_litR U m72 133 (mm := 18) rfl (.cons rfl rfl (.cons (.v _) (.cons (.v _) (.cons (.v _) (.cons (.v _) (.cons (.v _) (.cons (.v _) (.cons (m72.rd (i := 31) rfl) (.cons (.v _) (.cons (.v _) (.cons (.v _) (.cons (m72.rd (i := 32) rfl) (.cons (.v _) (.cons (.v _) (.cons (.v _) (.cons (.v _) (.cons (.v _) (.cons (.v _) (.cons (Rd.nilN _ _ .u8 _) .nil)))))))))))))))))) .nil) U74 fct37 rfl rfl rfl rfl rfl fun g77 Y w78 U m78 =>?_
 refine ⟨m78.to ⟨il,il,il,il,il,il,il,il,il,il,il,il,il,il,il,il,il,il,il,il,il,il,il,il,il,il,il,il,il,il,il,il,il,il,il,il,il,trivial⟩,?_⟩
 have m79 := m78.freezeR 133 rfl
 refine so 5 ?_
 refine ecb U Tryz.func38 rfl m79 (ordT [T1k] (V1k pe pl9) _ (ordK1 pe pl9) _ _ _ _ _ _ _ _ _ _ _ _ _ ((m79.rd (i := 133) rfl).any) ((m79.rd (i := 104) rfl).any) tk1 (vkB pe pl9) (by decide) (vkL pe pl9)) fun Y w80 U m81 =>?_
 refine ⟨m81.to ⟨il,il,il,il,il,il,il,il,il,il,il,il,il,il,il,il,il,il,il,il,il,il,il,il,il,il,il,il,il,il,il,il,il,il,il,il,il,trivial⟩,?_⟩
 refine goR hP72 [6,7,9,10,11] [7,11] 5 63 3839 U (m81.to ⟨il,il,il,il,il,il,il,il,il,il,il,il,il,il,il,il,il,il,il,il,il,il,il,il,il,il,il,il,il,il,il,il,il,il,il,il,il,trivial⟩) (.move rfl<|.loadBR hh (i := 100) rfl rfl U76 rfl fct16 (by simp) (by dsimp only [List.drop,List.take] <;> rfl)<|.move rfl<|.p (fun _ _ h_ => y_idx h_ rfl rfl U30 fct13 (0) rfl (by decide))<|.loadCR hh (i := 105) rfl rfl U51 rfl fct13 .nil) fun Y U =>?_
 refine stepE_only 8 rfl (by kernel_rfl) (wantedG U rfl rfl rfl rfl) (fun K hK =>?_)
 refine e_litR U m81 134 (mm := 18) rfl (.cons rfl rfl (.cons (.v _) (.cons (.v _) (.cons (.v _) (.cons (.v _) (.cons (.v _) (.cons (.v _) (.cons (m81.rd (i := 31) rfl) (.cons (.v _) (.cons (.v _) (.cons (.v _) (.cons (m81.rd (i := 32) rfl) (.cons (.v _) (.cons (.v _) (.cons (.v _) (.cons (.v _) (.cons (.v _) (.cons (.v _) (.cons (Rd.nilN _ _ .u8 _) .nil)))))))))))))))))) .nil) U74 fct37 rfl rfl rfl rfl rfl ?_
 intro g88 Y w89 U m89
 refine hK _ _ (m89.to ⟨il,il,il,il,il,il,il,il,il,il,il,il,il,il,il,il,il,il,il,il,il,il,il,il,il,il,il,il,il,il,il,il,il,il,il,il,il,trivial⟩) ?_; clear hK K
 have m90 := m89.freezeR 134 rfl
 refine stepE_only 12 rfl (by kernel_rfl) (wantedG U rfl rfl rfl rfl) (fun K hK =>?_)
 refine e_call U Tryz.func38 rfl rfl rfl rfl (ordT [T2k] (V1k pe pl9) _ (ordK2 pe pl9) _ _ _ _ _ _ _ _ _ _ _ _ _ ((m90.rd (i := 134) rfl).any) ((m90.rd (i := 108) rfl).any) tk2 (vkB pe pl9) (by decide) (vkL pe pl9)) ?_
 rintro e w91 ⟨rfl,hb91⟩
 have m92 := m90.later hb91
 refine ⟨_,rfl,?_⟩; intro Y U
 refine hK _ _ (m92.to ⟨il,il,il,il,il,il,il,il,il,il,il,il,il,il,il,il,il,il,il,il,il,il,il,il,il,il,il,il,il,il,il,il,il,il,il,il,il,trivial⟩) ?_; clear hK K
 refine goR hP72 [13,14,15,16,17,18] [18] 6 8191 524287 U (m92.to ⟨il,il,il,il,il,il,il,il,il,il,il,il,il,il,il,il,il,il,il,il,il,il,il,il,il,il,il,il,il,il,il,il,il,il,il,il,il,trivial⟩) (.not rfl<|.pickT rfl rfl<|.move rfl<|.move rfl<|.p (fun _ _ h_ => y_idx h_ rfl rfl U30 fct13 (0) rfl (by decide))<|.loadCR hh (i := 109) rfl rfl U51 rfl fct13 .nil) fun Y U =>?_
 refine stepE_only 19 rfl (by kernel_rfl) (wantedG U rfl rfl rfl rfl) (fun K hK =>?_)
 refine e_call U Tryz.func38 rfl rfl rfl rfl (ordT [] (V1k pe pl9) _ (ordK3 pe pl9) _ _ _ _ _ _ _ _ _ _ _ _ _ (.l0 none 0 18) ((m92.rd (i := 112) rfl).any) tk0 (vkB pe pl9) (Nat.zero_le _) (vkL pe pl9)) ?_
 rintro e w100 ⟨rfl,hb100⟩
 have m101 := m92.later hb100
 refine ⟨_,rfl,?_⟩; intro Y U
 refine hK _ _ (m101.to ⟨il,il,il,il,il,il,il,il,il,il,il,il,il,il,il,il,il,il,il,il,il,il,il,il,il,il,il,il,il,il,il,il,il,il,il,il,il,trivial⟩) ?_; clear hK K
 refine goR hP72 [20,21,22,23,24,25,26,27,28] [25,28] 9 1048575 536870911 U (m101.to ⟨il,il,il,il,il,il,il,il,il,il,il,il,il,il,il,il,il,il,il,il,il,il,il,il,il,il,il,il,il,il,il,il,il,il,il,il,il,trivial⟩) (.not rfl<|.pickT rfl rfl<|.move rfl<|.move rfl<|.p (fun _ _ h_ => y_idx h_ rfl rfl U30 fct13 (0) rfl (by decide))<|.loadCR hh (i := 113) rfl rfl U51 rfl fct13<|.move rfl<|.p (fun _ _ h_ => y_idx h_ rfl rfl U30 fct13 (0) rfl (by decide))<|.loadCR hh (i := 117) rfl rfl U51 rfl fct13 .nil) fun Y U =>?_
 refine stepE_only 29 rfl (by kernel_rfl) (wantedG U rfl rfl rfl rfl) (fun K hK =>?_)
 refine e_call U Tryz.func35 rfl rfl rfl rfl (sameT (V1k pe pl9) _ _ _ _ _ _ _ _ _ _ _ _ _ _ _ (v1kB hN) ((m101.rd (i := 114) rfl).any) ((m101.rd (i := 115) rfl).any) ((m101.rd (i := 116) rfl).any) ((m101.rd (i := 118) rfl).any) ((m101.rd (i := 119) rfl).any) ((m101.rd (i := 120) rfl).any)) ?_
 rintro e w112 ⟨rfl,hb112⟩
 have m113 := m101.later hb112
 refine ⟨_,rfl,?_⟩; intro Y U
 refine hK _ _ (m113.to ⟨il,il,il,il,il,il,il,il,il,il,il,il,il,il,il,il,il,il,il,il,il,il,il,il,il,il,il,il,il,il,il,il,il,il,il,il,il,trivial⟩) ?_; clear hK K
 refine goR hP72 [30,31,32,33,34,35,36,37] [34,37] 8 1073741823 274877906943 U (m113.to ⟨il,il,il,il,il,il,il,il,il,il,il,il,il,il,il,il,il,il,il,il,il,il,il,il,il,il,il,il,il,il,il,il,il,il,il,il,il,trivial⟩) (.pickT rfl rfl<|.move rfl<|.move rfl<|.p (fun _ _ h_ => y_idx h_ rfl rfl U30 fct13 (0) rfl (by decide))<|.loadCR hh (i := 121) rfl rfl U51 rfl fct13<|.move rfl<|.p (fun _ _ h_ => y_idx h_ rfl rfl U30 fct13 (0) rfl (by decide))<|.loadCR hh (i := 125) rfl rfl U51 rfl fct13 .nil) fun Y U =>?_
 refine stepE_only 38 rfl (by kernel_rfl) (wantedG U rfl rfl rfl rfl) (fun K hK =>?_)
 refine e_call U Tryz.func36 rfl rfl rfl rfl (preT (V1k pe pl9) _ _ _ _ _ _ _ _ _ _ _ _ _ _ _ (v1kB hN) ((m113.rd (i := 122) rfl).any) ((m113.rd (i := 124) rfl).any) ((m113.rd (i := 126) rfl).any) ((m113.rd (i := 128) rfl).any)) ?_
 rintro e w123 ⟨rfl,hb123⟩
 have m124 := m113.later hb123
 refine ⟨_,rfl,?_⟩; intro Y U
 refine hK _ _ (m124.to ⟨il,il,il,il,il,il,il,il,il,il,il,il,il,il,il,il,il,il,il,il,il,il,il,il,il,il,il,il,il,il,il,il,il,il,il,il,il,trivial⟩) ?_; clear hK K
 refine goR hP72 [39,40,41,42,43,44] [43] 6 549755813887 35184372088831 U (m124.to ⟨il,il,il,il,il,il,il,il,il,il,il,il,il,il,il,il,il,il,il,il,il,il,il,il,il,il,il,il,il,il,il,il,il,il,il,il,il,trivial⟩) (.pickT rfl rfl<|.move rfl<|.move rfl<|.p (fun _ _ h_ => y_idx h_ rfl rfl U30 fct13 (0) rfl (by decide))<|.loadCR hh (i := 129) rfl rfl U51 rfl fct13<|.build rfl fct14 fl51kn6 rfl (by dsimp only [setL,List.set] <;> rfl) .nil) fun Y U =>?_
 refine stepE_only 45 rfl (by kernel_rfl) (wantedG U rfl rfl rfl rfl) (fun K hK =>?_)
 refine e_call U Tryz.func36 rfl rfl rfl rfl (preF pe pl9 _ _ _ _ _ _ _ _ (v1kB hN) ((m124.rd (i := 130) rfl).any) ((m124.rd (i := 132) rfl).any)) ?_
 rintro e w132 ⟨rfl,hb132⟩
 have m133 := m124.later hb132
 refine ⟨_,rfl,?_⟩; intro Y U
 refine hK _ _ (m133.to ⟨il,il,il,il,il,il,il,il,il,il,il,il,il,il,il,il,il,il,il,il,il,il,il,il,il,il,il,il,il,il,il,il,il,il,il,il,il,trivial⟩) ?_; clear hK K
 refine goA hP72 [46,47,48] 3 70368744177663 562949953421311 U (m133.to ⟨il,il,il,il,il,il,il,il,il,il,il,il,il,il,il,il,il,il,il,il,il,il,il,il,il,il,il,il,il,il,il,il,il,il,il,il,il,trivial⟩) (.not rfl<|.pickT rfl rfl<|.assign rfl .nil) fun Y U =>?_
 refine wpAnyE_done (by kernel_rfl) ?_ _
 refine hK6 _ _ ?_
 refine rt1 U ?_
 exact ⟨rfl,m133.below⟩
end
end Go.Proofs.YtkehgingagggaaaGreat.K
