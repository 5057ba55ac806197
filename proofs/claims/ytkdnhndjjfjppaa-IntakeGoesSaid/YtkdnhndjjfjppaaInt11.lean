/- IntakeGoes: a plan cut off and gone on with; the walk. -/
import Derived.Test.YtkdnhndjjfjppaaInt8
import Derived.Test.YtkdnhndjjfjppaaInt10
namespace Go.Proofs.Ytkdnhndjjfjppaa.K
open Go.ChangeShapes Go.WideShapes Go.ChangeAt Go.RowKit
set_option linter.unusedVariables false
set_option linter.unusedSimpArgs false
theorem fl45igo : flatS Try.prog 45 [.slice none 0 0] = true := by kernel_rfl
theorem cutF {p q : Prop} (h : p → q) (hp : p) : q := h hp
theorem PlanOk.ok {vo pe : Int} {pl : List Int} {bl sz : Int} {S : List (List Int)} {n T : Nat} (h : PlanOk vo pe pl bl sz S n T) : ∀ c ∈ planL vo pe pl bl sz (wholeI S S.length) n T, c.pl.length ≤ 1000000 ∧ c.its.length ≤ 1000000 ∧ ItsOk c.its := fun c hc => by
 obtain ⟨j, hj, rfl⟩ := List.getElem_of_mem hc
 have h1 := h.cmd (List.getElem?_eq_getElem hj)
 exact ⟨by have := h1.pl; omega, by have := h1.il; omega, fun e he => by have := (h1.ib e he).2; omega⟩
theorem PlanOk.pl9 {vo pe : Int} {pl : List Int} {bl sz : Int} {S : List (List Int)} {n T : Nat} (h : PlanOk vo pe pl bl sz S n T) : pl.length ≤ 256 := (h.cmd (j := 0) (c := planH vo pe pl bl sz T) rfl).pl
theorem PlanOk.last2 {vo pe : Int} {pl : List Int} {bl sz : Int} {S : List (List Int)} {n T : Nat} (h : PlanOk vo pe pl bl sz S n T) : ∃ x, x = planF vo pe pl bl sz (wholeI S S.length) n T ∧ macL vo pe pl bl sz (wholeI S S.length) n T (T + 2) = [x] ∧ x.vo = vo ∧ x.hi = false ∧ x.fl = T ∧ x.ws.length = T ∧ VolS (T + 1) x ∧ stL x.bl x.sz x.ws x.ws.length = S := by
 refine ⟨planF vo pe pl bl sz (wholeI S S.length) n T, rfl, by rw [macL, if_neg (by omega), if_neg (by omega)], rfl, rfl, rfl, wsP_len _ _ _, h.fin, ?_⟩
 show stL bl sz (wsP (wholeI S S.length) n T) (wsP (wholeI S S.length) n T).length = S
 rw [wsP_len]
 exact plan_state h.l h.tb.2.2
theorem planV_old {vo pe : Int} {pl : List Int} {bl sz : Int} {its its2 : List (Int × List Int)} {n T j : Nat} : DoY (planV vo pe pl bl sz its n T (j + 1)) (planV vo pe pl bl sz its n T (j + 1)) 6 0 j its2 0 := by
 refine ⟨rfl, rfl, rfl, rfl, rfl, rfl, rfl, ?_⟩
 show doR bl sz T ((j + 1 : Nat) : Int) 0 true [] (wsP its n (j + 1)) 6 0 j its2 = (((j + 1 : Nat) : Int), true, 0, wsP its n (j + 1), 0)
 rw [doR, if_neg (by decide), if_neg (by decide), if_pos rfl]
 unfold takeR
 rw [if_neg (by decide), if_pos (by omega)]
set_option maxRecDepth 100000
set_option maxHeartbeats 4000000
theorem rapply_twice (X : Cx) (B : Nat) {vo pe : Int} {pl : List Int} {bl sz : Int} {S : List (List Int)} {n T : Nat} (h : PlanOk vo pe pl bl sz S n T) (j : Nat) (c9 : RC) (hj : (planL vo pe pl bl sz (wholeI S S.length) n T)[j]? = some c9) (hk : c9.kd = 6) (p : Option Addr) (c : Nat) (pb : Option Addr) (cb : Nat) (w0 : World) (m0 : MemOk X w0 [(1, .box B 45 [.slice p ((macL vo pe pl bl sz (wholeI S S.length) n T (j + 1)).map volD).length c]), (2, .dat (.slice p ((macL vo pe pl bl sz (wholeI S S.length) n T (j + 1)).map volD).length c) (.l 11 ((macL vo pe pl bl sz (wholeI S S.length) n T (j + 1)).map volD))), (3, .dat (.slice pb (cmdE c9.kd c9.vo c9.bl c9.sz c9.pe c9.to c9.at0 c9.ix c9.pl c9.its).length cb) (.ns .u8 (cmdE c9.kd c9.vo c9.bl c9.sz c9.pe c9.to c9.at0 c9.ix c9.pl c9.its)))] w0) :
   Calls Try.prog 19 #[.pointer (some ⟨B, 0, none⟩), .slice pb (cmdE c9.kd c9.vo c9.bl c9.sz c9.pe c9.to c9.at0 c9.ix c9.pl c9.its).length cb] w0 fun e w' => ∃ (rl rf rn : Int) (p' : Option Addr) (c' : Nat), e = .returned (.agg #[.int .i64 0, .int .i64 rl, .int .i64 rf, .int .i64 rn, .slice none 0 0]) ∧ MemOk X w0 [(1, .box B 45 [.slice p' ((macL vo pe pl bl sz (wholeI S S.length) n T (j + 1)).map volD).length c']), (2, .dat (.slice p' ((macL vo pe pl bl sz (wholeI S S.length) n T (j + 1)).map volD).length c') (.l 11 ((macL vo pe pl bl sz (wholeI S S.length) n T (j + 1)).map volD)))] w' := by
 have hc := h.cmd hj
 have hTb := h.tb
 have hjl := (List.getElem?_eq_some_iff.1 hj).1
 rw [planL_len] at hjl
 rcases Nat.eq_zero_or_pos j with h0 | h0
 · subst h0
   obtain rfl : planH vo pe pl bl sz T = c9 := Option.some.inj hj
   exact absurd hk (show ¬ (1 : Int) = 6 by decide)
 obtain ⟨i, rfl⟩ : ∃ i, j = i + 1 := ⟨j - 1, by omega⟩
 rcases Nat.lt_or_ge i T with h1 | h1
 · rw [planL_imp h1] at hj
   obtain rfl := Option.some.inj hj
   have h3 : macL vo pe pl bl sz (wholeI S S.length) n T (i + 1 + 1) = [planV vo pe pl bl sz (wholeI S S.length) n T (i + 1)] := by rw [macL, if_neg (by omega), if_pos (by omega), Nat.add_sub_cancel]
   refine (rapply_do X B (i + 1) _ (planV vo pe pl bl sz (wholeI S S.length) n T (i + 1)) p c 6 vo 0 0 0 0 0 i [] (chunkI (wholeI S S.length) n i) pb cb w0 h3 rfl (h.volS (by omega)) (by omega) (by decide) (by decide) (by decide) hc m0).mono ?_
   rintro e w' ⟨y, e9, rl, rf, rn, p', c', rfl, hy, m⟩
   obtain ⟨rfl, rfl⟩ := hy.uni planV_old
   rw [h3]
   exact ⟨rl, rf, rn, p', c', rfl, m⟩
 obtain rfl : i = T := by omega
 rw [planL_end] at hj
 obtain rfl := Option.some.inj hj
 exact absurd hk (show ¬ (7 : Int) = 6 by decide)
theorem rvolume_b (X : Cx) (B : Nat) (x : VolV) (vo : Int) (b : Bool) (p : Option Addr) (c : Nat) (w0 : World) (hv : x.vo = vo) (hb : x.hi = b) (m0 : MemOk X w0 [(1, .box B 45 [.slice p ([x].map volD).length c]), (2, .dat (.slice p ([x].map volD).length c) (.l 11 ([x].map volD)))] w0) :
   Calls Try.prog 13 #[.pointer (some ⟨B, 0, none⟩), .int .i64 vo] w0 fun e w' => ∃ (p1 p2 p3 : Option Addr) (d1 d2 d3 : Nat), e = .returned (.tuple #[.agg #[.int .i64 x.vo, .int .i64 x.bl, .int .i64 x.sz, .int .i64 x.pe, .slice p1 x.place.length d1, .int .i64 x.to, .int .i64 x.ne, .bool b, .int .i64 x.fl, .slice p2 x.pins.length d2, .slice p3 (x.ws.map wrD).length d3], .bool true]) ∧ MemOk X w0 [(1, .box B 45 [.slice p ([x].map volD).length c]), (2, .dat (.slice p ([x].map volD).length c) (.l 11 ([x].map volD))), (3, .dat (.slice p1 x.place.length d1) (.ns .i64 x.place)), (4, .dat (.slice p2 x.pins.length d2) (.ns .i64 x.pins)), (5, .dat (.slice p3 (x.ws.map wrD).length d3) (.l 2 (x.ws.map wrD)))] w' := by
 subst hv; subst hb; exact rvolume_x X B x p c w0 m0
theorem rstate_b (X : Cx) (y : VolV) (n : Nat) (b : Bool) (hb : y.hi = b) (hS : VolS n y) (hn : n ≤ 1000) (pp pn pw : Option Addr) (cp cn9 cw : Nat) (fl tv : Int) (t : Nat) (htt : tv = t) (w0 : World) (hX : ∀ b, b ∉ X.bad) (ht0 : fl ≤ tv) (ht1 : t ≤ y.ws.length) (m0 : MemOk X w0 [(3, .dat (.slice pw (y.ws.map wrD).length cw) (.l 2 (y.ws.map wrD)))] w0) :
   Calls Try.prog 21 #[.agg #[.int .i64 y.vo, .int .i64 y.bl, .int .i64 y.sz, .int .i64 y.pe, .slice pp y.place.length cp, .int .i64 y.to, .int .i64 y.ne, .bool b, .int .i64 fl, .slice pn y.pins.length cn9, .slice pw (y.ws.map wrD).length cw], .int .i64 tv] w0 fun e w' => ∃ p c, e = .returned (.tuple #[.slice p ((stL y.bl y.sz y.ws t).map bD).length c, .int .i64 0]) ∧ MemOk X w0 [(3, .dat (.slice pw (y.ws.map wrD).length cw) (.l 2 (y.ws.map wrD))), (9, .dat (.slice p ((stL y.bl y.sz y.ws t).map bD).length c) (.l 1 ((stL y.bl y.sz y.ws t).map bD)))] w' := by
 subst hb; exact rstate_w X y n hS hn pp pn pw cp cn9 cw fl tv t htt w0 hX ht0 ht1 m0
theorem rest_n (cs : List RC) (J : Nat) (pc : Option Addr) (cc : Nat) (w0 : World) (h1 : Rd (fun _ => True) w0 (.slice pc cs.length cc) (.l 10 (cs.map cmdD))) (hl : cs.length ≤ 1000000) (hok : ∀ c ∈ cs, c.pl.length ≤ 1000000 ∧ c.its.length ≤ 1000000 ∧ ItsOk c.its) (hJ : J = 0) (vo9 bl9 sz9 pe9 to ne fl : Int) (pp pn pw : Option Addr) (np cp nn9 cn9 nw cw : Nat) (hi : Bool) :
   Calls Try.prog 14 #[.slice pc cs.length cc, .agg #[.int .i64 vo9, .int .i64 bl9, .int .i64 sz9, .int .i64 pe9, .slice pp np cp, .int .i64 to, .int .i64 ne, .bool hi, .int .i64 fl, .slice pn nn9 cn9, .slice pw nw cw], .bool false] w0 fun e w' => ∃ (p : Option Addr) (c : Nat), e = .returned (.slice p (cs.drop J).length c) ∧ Rd (New w0) w' (.slice p (cs.drop J).length c) (.l 10 ((cs.drop J).map cmdD)) ∧ Below w0.heap.size w0 w' := by
 subst hJ; exact rest_no cs pc cc w0 h1 hl hok vo9 bl9 sz9 pe9 to ne fl pp pn pw np cp nn9 cn9 nw cw hi
theorem rest_h (cs : List RC) (J : Nat) (pc : Option Addr) (cc : Nat) (w0 : World) (h1 : Rd (fun _ => True) w0 (.slice pc cs.length cc) (.l 10 (cs.map cmdD))) (hl : cs.length ≤ 1000000) (hok : ∀ c ∈ cs, c.pl.length ≤ 1000000 ∧ c.its.length ≤ 1000000 ∧ ItsOk c.its) (vo9 bl9 sz9 pe9 to ne fl : Int) (pp pn pw : Option Addr) (np cp nn9 cn9 nw cw : Nat) (hJ : 1 ≤ J) (hJ2 : J + 1 ≤ cs.length) (hne : ne = (J : Int) - 1) :
   Calls Try.prog 14 #[.slice pc cs.length cc, .agg #[.int .i64 vo9, .int .i64 bl9, .int .i64 sz9, .int .i64 pe9, .slice pp np cp, .int .i64 to, .int .i64 ne, .bool true, .int .i64 fl, .slice pn nn9 cn9, .slice pw nw cw], .bool true] w0 fun e w' => ∃ (p : Option Addr) (c : Nat), e = .returned (.slice p (cs.drop J).length c) ∧ Rd (New w0) w' (.slice p (cs.drop J).length c) (.l 10 ((cs.drop J).map cmdD)) ∧ Below w0.heap.size w0 w' := by
 have h9 := rest_hid cs pc cc w0 h1 hl hok vo9 bl9 sz9 pe9 to ne fl pp pn pw np cp nn9 cn9 nw cw (J - 1) (by omega) (by omega)
 rw [show 1 + (J - 1) = J by omega] at h9
 exact h9
theorem rest_p (cs : List RC) (J : Nat) (pc : Option Addr) (cc : Nat) (w0 : World) (h1 : Rd (fun _ => True) w0 (.slice pc cs.length cc) (.l 10 (cs.map cmdD))) (hl : cs.length ≤ 1000000) (hJ : J = cs.length) (vo9 bl9 sz9 pe9 to ne fl : Int) (pp pn pw : Option Addr) (np cp nn9 cn9 nw cw : Nat) :
   Calls Try.prog 14 #[.slice pc cs.length cc, .agg #[.int .i64 vo9, .int .i64 bl9, .int .i64 sz9, .int .i64 pe9, .slice pp np cp, .int .i64 to, .int .i64 ne, .bool false, .int .i64 fl, .slice pn nn9 cn9, .slice pw nw cw], .bool true] w0 fun e w' => ∃ (p : Option Addr) (c : Nat), e = .returned (.slice p (cs.drop J).length c) ∧ Rd (New w0) w' (.slice p (cs.drop J).length c) (.l 10 ((cs.drop J).map cmdD)) ∧ Below w0.heap.size w0 w' := by
 refine (rest_pub cs pc cc w0 h1 hl vo9 bl9 sz9 pe9 to ne fl pp pn pw np cp nn9 cn9 nw cw).mono ?_
 rintro e w' ⟨rfl, hb⟩
 have h9 : cs.drop J = [] := List.drop_eq_nil_of_le (by omega)
 rw [h9]
 exact ⟨none, 0, rfl, Rd.l0 none 0 10, hb⟩
theorem rrest_n (X : Cx) (cs : List RC) (J : Nat) (pc : Option Addr) (cc : Nat) (w0 : World) (hJ : J = 0) (vo9 bl9 sz9 pe9 to ne fl : Int) (pp pn pw : Option Addr) (np cp nn9 cn9 nw cw : Nat) (hi : Bool) (m0 : MemOk X w0 [(3, .dat (.slice pc cs.length cc) (.l 10 (cs.map cmdD)))] w0) :
   Calls Try.prog 15 #[.slice pc cs.length cc, .agg #[.int .i64 vo9, .int .i64 bl9, .int .i64 sz9, .int .i64 pe9, .slice pp np cp, .int .i64 to, .int .i64 ne, .bool hi, .int .i64 fl, .slice pn nn9 cn9, .slice pw nw cw], .bool false] w0 fun e w' => ∃ (p : Option Addr) (c : Nat), e = .returned (.slice p (cs.drop J).length c) ∧ MemOk X w0 [(3, .dat (.slice pc cs.length cc) (.l 10 (cs.map cmdD))), (9, .dat (.slice p (cs.drop J).length c) (.l 10 ((cs.drop J).map cmdD)))] w' := by
 subst hJ; exact rrest_no X cs pc cc w0 vo9 bl9 sz9 pe9 to ne fl pp pn pw np cp nn9 cn9 nw cw hi m0
theorem rrest_h (X : Cx) (cs : List RC) (J : Nat) (pc : Option Addr) (cc : Nat) (w0 : World) (hl : cs.length ≤ 1000000) (vo9 bl9 sz9 pe9 to ne fl : Int) (pp pn pw : Option Addr) (np cp nn9 cn9 nw cw : Nat) (hJ : 1 ≤ J) (hJ2 : J + 1 ≤ cs.length) (hne : ne = (J : Int) - 1) (m0 : MemOk X w0 [(3, .dat (.slice pc cs.length cc) (.l 10 (cs.map cmdD)))] w0) :
   Calls Try.prog 15 #[.slice pc cs.length cc, .agg #[.int .i64 vo9, .int .i64 bl9, .int .i64 sz9, .int .i64 pe9, .slice pp np cp, .int .i64 to, .int .i64 ne, .bool true, .int .i64 fl, .slice pn nn9 cn9, .slice pw nw cw], .bool true] w0 fun e w' => ∃ (p : Option Addr) (c : Nat), e = .returned (.slice p (cs.drop J).length c) ∧ MemOk X w0 [(3, .dat (.slice pc cs.length cc) (.l 10 (cs.map cmdD))), (9, .dat (.slice p (cs.drop J).length c) (.l 10 ((cs.drop J).map cmdD)))] w' := by
 have hcap : cs.length ≤ cc := by
   obtain ⟨pq, cq, hv, hcap⟩ := (m0.rd (i := 3) rfl).l_shape
   injection hv with _ _ e3; rw [List.length_map] at hcap; omega
 exact rrest_hid X cs pc cc w0 hl vo9 bl9 sz9 pe9 to ne fl pp pn pw np cp nn9 cn9 nw cw J hJ hJ2 hne hcap m0
theorem rrest_p (X : Cx) (cs : List RC) (J : Nat) (pc : Option Addr) (cc : Nat) (w0 : World) (hJ : J = cs.length) (vo9 bl9 sz9 pe9 to ne fl : Int) (pp pn pw : Option Addr) (np cp nn9 cn9 nw cw : Nat) (m0 : MemOk X w0 [(3, .dat (.slice pc cs.length cc) (.l 10 (cs.map cmdD)))] w0) :
   Calls Try.prog 15 #[.slice pc cs.length cc, .agg #[.int .i64 vo9, .int .i64 bl9, .int .i64 sz9, .int .i64 pe9, .slice pp np cp, .int .i64 to, .int .i64 ne, .bool false, .int .i64 fl, .slice pn nn9 cn9, .slice pw nw cw], .bool true] w0 fun e w' => ∃ (p : Option Addr) (c : Nat), e = .returned (.slice p (cs.drop J).length c) ∧ MemOk X w0 [(3, .dat (.slice pc cs.length cc) (.l 10 (cs.map cmdD))), (9, .dat (.slice p (cs.drop J).length c) (.l 10 ((cs.drop J).map cmdD)))] w' := by
 have h9 : cs.drop J = [] := List.drop_eq_nil_of_le (by omega)
 rw [h9]
 exact rrest_pub X cs pc cc w0 vo9 bl9 sz9 pe9 to ne fl pp pn pw np cp nn9 cn9 nw cw m0
theorem done_n {vo pe : Int} {pl : List Int} {bl sz : Int} {S : List (List Int)} {n T : Nat} (h : PlanOk vo pe pl bl sz S n T) (cs : List RC) (hcs : planL vo pe pl bl sz (wholeI S S.length) n T = cs) (pc : Option Addr) (cc : Nat) (w0 : World) (h1 : Rd (fun _ => True) w0 (.slice pc cs.length cc) (.l 10 (cs.map cmdD))) (p1 p2 p3 : Option Addr) (d1 d2 d3 : Nat) :
   Calls Try.prog 16 #[.slice pc cs.length cc, .agg #[.int .i64 0, .int .i64 0, .int .i64 0, .int .i64 0, .slice p1 0 d1, .int .i64 0, .int .i64 0, .bool false, .int .i64 0, .slice p2 0 d2, .slice p3 0 d3]] w0 fun e w' => e = .returned (.bool false) ∧ Below w0.heap.size w0 w' := by
 have hb := h.nw
 obtain ⟨a1, a2, a3, a4, a5⟩ := hb
 have hcl : cs.length = T + 2 := by rw [← hcs, planL_len]
 have hT := h.tb
 exact done_bl cs pc cc w0 h1 (by omega) 0 0 0 0 0 0 0 p1 p2 p3 0 d1 0 d2 0 d3 vo bl sz pe pl T hcl (by omega) (by rw [← hcs]; rfl) (by omega)
theorem done_x {vo pe : Int} {pl : List Int} {bl sz : Int} {S : List (List Int)} {n T : Nat} (h : PlanOk vo pe pl bl sz S n T) (x : VolV) (hx : x = planF vo pe pl bl sz (wholeI S S.length) n T) (cs : List RC) (hcs : planL vo pe pl bl sz (wholeI S S.length) n T = cs) (pc : Option Addr) (cc : Nat) (w0 : World) (h1 : Rd (fun _ => True) w0 (.slice pc cs.length cc) (.l 10 (cs.map cmdD))) (pp pn pw : Option Addr) (cp cn9 cw : Nat) (hp : Rd (fun _ => True) w0 (.slice pp x.place.length cp) (.ns .i64 x.place)) (hw : Rd (fun _ => True) w0 (.slice pw (x.ws.map wrD).length cw) (.l 2 (x.ws.map wrD))) :
   Calls Try.prog 16 #[.slice pc cs.length cc, .agg #[.int .i64 x.vo, .int .i64 x.bl, .int .i64 x.sz, .int .i64 x.pe, .slice pp x.place.length cp, .int .i64 x.to, .int .i64 x.ne, .bool false, .int .i64 x.fl, .slice pn x.pins.length cn9, .slice pw (x.ws.map wrD).length cw]] w0 fun e w' => e = .returned (.bool true) ∧ Below w0.heap.size w0 w' := by
 subst hx
 have hcl : cs.length = T + 2 := by rw [← hcs, planL_len]
 have hT := h.tb
 have hwl : ((planF vo pe pl bl sz (wholeI S S.length) n T).ws.map wrD).length = T := by rw [List.length_map]; exact wsP_len _ _ _
 have hpl := h.pl9
 rw [hwl] at hw ⊢
 exact done_yes cs pc cc w0 h1 (by omega) vo bl sz pe T T pl T n (wholeI S S.length) pp pn pw cp 0 cn9 cw hcl (by omega) (by rw [← hcs]; rfl) (fun i hi => by rw [← hcs]; exact planL_imp hi) (fun k hk => wsP_get hk) (fun k hk => by have := (h.items hk).2.1; omega) (by omega) hp hw
theorem rdone_n {vo pe : Int} {pl : List Int} {bl sz : Int} {S : List (List Int)} {n T : Nat} (h : PlanOk vo pe pl bl sz S n T) (cs : List RC) (hcs : planL vo pe pl bl sz (wholeI S S.length) n T = cs) (pc : Option Addr) (cc : Nat) (w0 : World) (h1 : Rd (fun _ => True) w0 (.slice pc cs.length cc) (.l 10 (cs.map cmdD))) (p1 p2 p3 : Option Addr) (d1 d2 d3 : Nat) :
   Calls Try.prog 17 #[.slice pc cs.length cc, .agg #[.int .i64 0, .int .i64 0, .int .i64 0, .int .i64 0, .slice p1 0 d1, .int .i64 0, .int .i64 0, .bool false, .int .i64 0, .slice p2 0 d2, .slice p3 0 d3]] w0 fun e w' => e = .returned (.bool false) ∧ Below w0.heap.size w0 w' := by
 have hb := h.nw
 obtain ⟨a1, a2, a3, a4, a5⟩ := hb
 have hcl : cs.length = T + 2 := by rw [← hcs, planL_len]
 have hT := h.tb
 exact rdone_bl cs pc cc w0 h1 (by omega) 0 0 0 0 0 0 0 p1 p2 p3 0 d1 0 d2 0 d3 vo bl sz pe pl T hcl (by omega) (by rw [← hcs]; rfl) (by omega)
theorem rdone_x {vo pe : Int} {pl : List Int} {bl sz : Int} {S : List (List Int)} {n T : Nat} (h : PlanOk vo pe pl bl sz S n T) (x : VolV) (hx : x = planF vo pe pl bl sz (wholeI S S.length) n T) (cs : List RC) (hcs : planL vo pe pl bl sz (wholeI S S.length) n T = cs) (pc : Option Addr) (cc : Nat) (w0 : World) (h1 : Rd (fun _ => True) w0 (.slice pc cs.length cc) (.l 10 (cs.map cmdD))) (pp pn pw : Option Addr) (cp cn9 cw : Nat) (hp : Rd (fun _ => True) w0 (.slice pp x.place.length cp) (.ns .i64 x.place)) (hw : Rd (fun _ => True) w0 (.slice pw (x.ws.map wrD).length cw) (.l 2 (x.ws.map wrD))) :
   Calls Try.prog 17 #[.slice pc cs.length cc, .agg #[.int .i64 x.vo, .int .i64 x.bl, .int .i64 x.sz, .int .i64 x.pe, .slice pp x.place.length cp, .int .i64 x.to, .int .i64 x.ne, .bool false, .int .i64 x.fl, .slice pn x.pins.length cn9, .slice pw (x.ws.map wrD).length cw]] w0 fun e w' => e = .returned (.bool true) ∧ Below w0.heap.size w0 w' := by
 subst hx
 have hcl : cs.length = T + 2 := by rw [← hcs, planL_len]
 have hT := h.tb
 have hwl : ((planF vo pe pl bl sz (wholeI S S.length) n T).ws.map wrD).length = T := by rw [List.length_map]; exact wsP_len _ _ _
 have hpl := h.pl9
 rw [hwl] at hw ⊢
 exact rdone_yes cs pc cc w0 h1 (by omega) vo bl sz pe T T pl T n (wholeI S S.length) pp pn pw cp 0 cn9 cw hcl (by omega) (by rw [← hcs]; rfl) (fun i hi => by rw [← hcs]; exact planL_imp hi) (fun k hk => wsP_get hk) (fun k hk => by have := (h.items hk).2.1; omega) (by omega) hp hw
def CaseU (vo pe : Int) (pl : List Int) (bl sz : Int) (its : List (Int × List Int)) (n T J : Nat) (x : VolV) (th : Bool) : Prop := (J = 0 ∧ x = volZ ∧ th = false) ∨ (1 ≤ J ∧ J ≤ T + 1 ∧ x = planV vo pe pl bl sz its n T (J - 1) ∧ th = true) ∨ (J = T + 2 ∧ x = planF vo pe pl bl sz its n T ∧ th = true)
theorem CaseU.ne {vo pe : Int} {pl : List Int} {bl sz : Int} {its : List (Int × List Int)} {n T J : Nat} {x : VolV} {th : Bool} (h : CaseU vo pe pl bl sz its n T J x th) (ht : th = true) : ¬ (x.hi = decide (J = T + 2)) := by
 rcases h with ⟨-, -, h3⟩ | ⟨h1, h2, rfl, -⟩ | ⟨h1, rfl, -⟩
 · rw [h3] at ht; cases ht
 · rw [show decide (J = T + 2) = false from by rw [decide_eq_false_iff_not]; omega]; exact fun h => by cases h
 rw [show decide (J = T + 2) = true from by rw [decide_eq_true_eq]; omega]; exact fun h => by cases h
theorem rvol_u (X : Cx) (B : Nat) {vo pe : Int} {pl : List Int} {bl sz : Int} {S : List (List Int)} {n T : Nat} (h : PlanOk vo pe pl bl sz S n T) (J : Nat) (hJ : J ≤ T + 2) (p : Option Addr) (c : Nat) (w0 : World) (m0 : MemOk X w0 [(1, .box B 45 [.slice p ((macL vo pe pl bl sz (wholeI S S.length) n T J).map volD).length c]), (2, .dat (.slice p ((macL vo pe pl bl sz (wholeI S S.length) n T J).map volD).length c) (.l 11 ((macL vo pe pl bl sz (wholeI S S.length) n T J).map volD)))] w0) :
   Calls Try.prog 13 #[.pointer (some ⟨B, 0, none⟩), .int .i64 vo] w0 fun e w' => ∃ (x : VolV) (th : Bool) (p1 p2 p3 : Option Addr) (d1 d2 d3 : Nat), e = .returned (.tuple #[.agg #[.int .i64 x.vo, .int .i64 x.bl, .int .i64 x.sz, .int .i64 x.pe, .slice p1 x.place.length d1, .int .i64 x.to, .int .i64 x.ne, .bool x.hi, .int .i64 x.fl, .slice p2 x.pins.length d2, .slice p3 (x.ws.map wrD).length d3], .bool th]) ∧ CaseU vo pe pl bl sz (wholeI S S.length) n T J x th ∧ MemOk X w0 [(1, .box B 45 [.slice p ((macL vo pe pl bl sz (wholeI S S.length) n T J).map volD).length c]), (2, .dat (.slice p ((macL vo pe pl bl sz (wholeI S S.length) n T J).map volD).length c) (.l 11 ((macL vo pe pl bl sz (wholeI S S.length) n T J).map volD))), (3, .dat (.slice p1 x.place.length d1) (.ns .i64 x.place)), (4, .dat (.slice p2 x.pins.length d2) (.ns .i64 x.pins)), (5, .dat (.slice p3 (x.ws.map wrD).length d3) (.l 2 (x.ws.map wrD)))] w' := by
 rcases (show J = 0 ∨ (1 ≤ J ∧ J ≤ T + 1) ∨ J = T + 2 by omega) with h0 | ⟨h1, h2⟩ | h3
 · have hL : macL vo pe pl bl sz (wholeI S S.length) n T J = [] := by rw [h0]; rfl
   rw [hL] at m0 ⊢
   refine (rmVol X B [] p c vo w0 (by simp) m0).mono ?_
   rintro e w' ⟨x, there, p1, p2, p3, d1, d2, d3, rfl, hx1, hx0, m⟩
   cases there with
   | true => cases hx1 rfl
   | false => exact ⟨x, false, p1, p2, p3, d1, d2, d3, rfl, Or.inl ⟨h0, hx0 rfl, rfl⟩, m⟩
 · have hL : macL vo pe pl bl sz (wholeI S S.length) n T J = [planV vo pe pl bl sz (wholeI S S.length) n T (J - 1)] := by rw [macL, if_neg (by omega), if_pos (by omega)]
   rw [hL] at m0 ⊢
   refine (rvolume_x X B (planV vo pe pl bl sz (wholeI S S.length) n T (J - 1)) p c w0 m0).mono ?_
   rintro e w' ⟨p1, p2, p3, d1, d2, d3, rfl, m⟩
   exact ⟨_, true, p1, p2, p3, d1, d2, d3, rfl, Or.inr (Or.inl ⟨h1, h2, rfl, rfl⟩), m⟩
 have hL : macL vo pe pl bl sz (wholeI S S.length) n T J = [planF vo pe pl bl sz (wholeI S S.length) n T] := by rw [macL, if_neg (by omega), if_neg (by omega)]
 rw [hL] at m0 ⊢
 refine (rvolume_x X B (planF vo pe pl bl sz (wholeI S S.length) n T) p c w0 m0).mono ?_
 rintro e w' ⟨p1, p2, p3, d1, d2, d3, rfl, m⟩
 exact ⟨_, true, p1, p2, p3, d1, d2, d3, rfl, Or.inr (Or.inr ⟨h3, rfl, rfl⟩), m⟩
theorem rest_u {vo pe : Int} {pl : List Int} {bl sz : Int} {S : List (List Int)} {n T : Nat} (h : PlanOk vo pe pl bl sz S n T) (J : Nat) (x : VolV) (th : Bool) (hC : CaseU vo pe pl bl sz (wholeI S S.length) n T J x th) (cs : List RC) (hcs : planL vo pe pl bl sz (wholeI S S.length) n T = cs) (pc : Option Addr) (cc : Nat) (w0 : World) (h1 : Rd (fun _ => True) w0 (.slice pc cs.length cc) (.l 10 (cs.map cmdD))) (hl : cs.length ≤ 1000000) (hok : ∀ c ∈ cs, c.pl.length ≤ 1000000 ∧ c.its.length ≤ 1000000 ∧ ItsOk c.its) (p1 p2 p3 : Option Addr) (d1 d2 d3 : Nat) :
   Calls Try.prog 14 #[.slice pc cs.length cc, .agg #[.int .i64 x.vo, .int .i64 x.bl, .int .i64 x.sz, .int .i64 x.pe, .slice p1 x.place.length d1, .int .i64 x.to, .int .i64 x.ne, .bool x.hi, .int .i64 x.fl, .slice p2 x.pins.length d2, .slice p3 (x.ws.map wrD).length d3], .bool th] w0 fun e w' => ∃ (p : Option Addr) (c : Nat), e = .returned (.slice p (cs.drop J).length c) ∧ Rd (New w0) w' (.slice p (cs.drop J).length c) (.l 10 ((cs.drop J).map cmdD)) ∧ Below w0.heap.size w0 w' := by
 have hcl : cs.length = T + 2 := by rw [← hcs, planL_len]
 rcases hC with ⟨h0, rfl, rfl⟩ | ⟨h2, h3, rfl, rfl⟩ | ⟨h2, rfl, rfl⟩
 · exact rest_n cs J pc cc w0 h1 hl hok h0 _ _ _ _ _ _ _ _ _ _ _ _ _ _ _ _ _
 · exact rest_h cs J pc cc w0 h1 hl hok _ _ _ _ _ _ _ _ _ _ _ _ _ _ _ _ h2 (by omega) (by show (((J - 1 : Nat)) : Int) = _; omega)
 exact rest_p cs J pc cc w0 h1 hl (by omega) _ _ _ _ _ _ _ _ _ _ _ _ _ _ _ _
theorem rrest_u (X : Cx) {vo pe : Int} {pl : List Int} {bl sz : Int} {S : List (List Int)} {n T : Nat} (h : PlanOk vo pe pl bl sz S n T) (J : Nat) (x : VolV) (th : Bool) (hC : CaseU vo pe pl bl sz (wholeI S S.length) n T J x th) (cs : List RC) (hcs : planL vo pe pl bl sz (wholeI S S.length) n T = cs) (pc : Option Addr) (cc : Nat) (w0 : World) (hl : cs.length ≤ 1000000) (p1 p2 p3 : Option Addr) (d1 d2 d3 : Nat) (m0 : MemOk X w0 [(3, .dat (.slice pc cs.length cc) (.l 10 (cs.map cmdD)))] w0) :
   Calls Try.prog 15 #[.slice pc cs.length cc, .agg #[.int .i64 x.vo, .int .i64 x.bl, .int .i64 x.sz, .int .i64 x.pe, .slice p1 x.place.length d1, .int .i64 x.to, .int .i64 x.ne, .bool x.hi, .int .i64 x.fl, .slice p2 x.pins.length d2, .slice p3 (x.ws.map wrD).length d3], .bool th] w0 fun e w' => ∃ (p : Option Addr) (c : Nat), e = .returned (.slice p (cs.drop J).length c) ∧ MemOk X w0 [(3, .dat (.slice pc cs.length cc) (.l 10 (cs.map cmdD))), (9, .dat (.slice p (cs.drop J).length c) (.l 10 ((cs.drop J).map cmdD)))] w' := by
 have hcl : cs.length = T + 2 := by rw [← hcs, planL_len]
 rcases hC with ⟨h0, rfl, rfl⟩ | ⟨h2, h3, rfl, rfl⟩ | ⟨h2, rfl, rfl⟩
 · exact rrest_n X cs J pc cc w0 h0 _ _ _ _ _ _ _ _ _ _ _ _ _ _ _ _ _ m0
 · exact rrest_h X cs J pc cc w0 hl _ _ _ _ _ _ _ _ _ _ _ _ _ _ _ _ h2 (by omega) (by show (((J - 1 : Nat)) : Int) = _; omega) m0
 exact rrest_p X cs J pc cc w0 (by omega) _ _ _ _ _ _ _ _ _ _ _ _ _ _ _ _ m0
theorem done_u {vo pe : Int} {pl : List Int} {bl sz : Int} {S : List (List Int)} {n T : Nat} (h : PlanOk vo pe pl bl sz S n T) (J : Nat) (x : VolV) (th : Bool) (hC : CaseU vo pe pl bl sz (wholeI S S.length) n T J x th) (cs : List RC) (hcs : planL vo pe pl bl sz (wholeI S S.length) n T = cs) (pc : Option Addr) (cc : Nat) (w0 : World) (h1 : Rd (fun _ => True) w0 (.slice pc cs.length cc) (.l 10 (cs.map cmdD))) (pp pn pw : Option Addr) (cp cn9 cw : Nat) (hp : Rd (fun _ => True) w0 (.slice pp x.place.length cp) (.ns .i64 x.place)) (hw : Rd (fun _ => True) w0 (.slice pw (x.ws.map wrD).length cw) (.l 2 (x.ws.map wrD))) :
   Calls Try.prog 16 #[.slice pc cs.length cc, .agg #[.int .i64 x.vo, .int .i64 x.bl, .int .i64 x.sz, .int .i64 x.pe, .slice pp x.place.length cp, .int .i64 x.to, .int .i64 x.ne, .bool x.hi, .int .i64 x.fl, .slice pn x.pins.length cn9, .slice pw (x.ws.map wrD).length cw]] w0 fun e w' => e = .returned (.bool (decide (J = T + 2))) ∧ Below w0.heap.size w0 w' := by
 have hcl : cs.length = T + 2 := by rw [← hcs, planL_len]
 have hT := h.tb
 rcases hC with ⟨h0, rfl, rfl⟩ | ⟨h2, h3, rfl, rfl⟩ | ⟨h2, rfl, rfl⟩
 · rw [show decide (J = T + 2) = false from by rw [decide_eq_false_iff_not]; omega]
   exact done_n h cs hcs pc cc w0 h1 pp pn pw cp cn9 cw
 · rw [show decide (J = T + 2) = false from by rw [decide_eq_false_iff_not]; omega]
   exact done_hid cs pc cc w0 h1 (by omega) (by omega) _ _ _ _ _ _ _ _ _ _ _ _ _ _ _ _
 rw [show decide (J = T + 2) = true from by rw [decide_eq_true_eq]; omega]
 exact done_x h _ rfl cs hcs pc cc w0 h1 pp pn pw cp cn9 cw hp hw
theorem rdone_u {vo pe : Int} {pl : List Int} {bl sz : Int} {S : List (List Int)} {n T : Nat} (h : PlanOk vo pe pl bl sz S n T) (J : Nat) (x : VolV) (th : Bool) (hC : CaseU vo pe pl bl sz (wholeI S S.length) n T J x th) (cs : List RC) (hcs : planL vo pe pl bl sz (wholeI S S.length) n T = cs) (pc : Option Addr) (cc : Nat) (w0 : World) (h1 : Rd (fun _ => True) w0 (.slice pc cs.length cc) (.l 10 (cs.map cmdD))) (pp pn pw : Option Addr) (cp cn9 cw : Nat) (hp : Rd (fun _ => True) w0 (.slice pp x.place.length cp) (.ns .i64 x.place)) (hw : Rd (fun _ => True) w0 (.slice pw (x.ws.map wrD).length cw) (.l 2 (x.ws.map wrD))) :
   Calls Try.prog 17 #[.slice pc cs.length cc, .agg #[.int .i64 x.vo, .int .i64 x.bl, .int .i64 x.sz, .int .i64 x.pe, .slice pp x.place.length cp, .int .i64 x.to, .int .i64 x.ne, .bool x.hi, .int .i64 x.fl, .slice pn x.pins.length cn9, .slice pw (x.ws.map wrD).length cw]] w0 fun e w' => e = .returned (.bool (decide (J = T + 2))) ∧ Below w0.heap.size w0 w' := by
 have hcl : cs.length = T + 2 := by rw [← hcs, planL_len]
 have hT := h.tb
 rcases hC with ⟨h0, rfl, rfl⟩ | ⟨h2, h3, rfl, rfl⟩ | ⟨h2, rfl, rfl⟩
 · rw [show decide (J = T + 2) = false from by rw [decide_eq_false_iff_not]; omega]
   exact rdone_n h cs hcs pc cc w0 h1 pp pn pw cp cn9 cw
 · rw [show decide (J = T + 2) = false from by rw [decide_eq_false_iff_not]; omega]
   exact rdone_hid cs pc cc w0 h1 (by omega) (by omega) _ _ _ _ _ _ _ _ _ _ _ _ _ _ _ _
 rw [show decide (J = T + 2) = true from by rw [decide_eq_true_eq]; omega]
 exact rdone_x h _ rfl cs hcs pc cc w0 h1 pp pn pw cp cn9 cw hp hw
theorem goes_walk (l l2 : List Int) (pl : Option Addr) (cl : Nat) (p2 : Option Addr) (c2 : Nat) (k9 p9 n9 : Int) (w0 : World) (h1 : Rd (fun _ => True) w0 (.slice pl l.length cl) (.ns .u8 l)) (hlb : ∀ j, j < l.length → 0 ≤ l.getD j 0 ∧ l.getD j 0 ≤ 255) (h2 : Rd (fun _ => True) w0 (.slice p2 l2.length c2) (.ns .u8 l2)) (hlb2 : ∀ j, j < l2.length → 0 ≤ l2.getD j 0 ∧ l2.getD j 0 ≤ 255) (hk9 : 0 ≤ k9 ∧ k9 ≤ 255) (hp9 : 0 ≤ p9 ∧ p9 ≤ 255) (hn9 : 0 ≤ n9 ∧ n9 ≤ 255) :
   Calls Try.prog 4 #[.slice pl l.length cl, .int .u8 k9, .int .u8 p9, .int .u8 n9, .slice p2 l2.length c2] w0 fun e w' => e = .returned (.bool true) ∧ Below w0.heap.size w0 w' := by
 refine ent5 Try.func4 rfl Try.ntmps4 fun Az Hz => ?_
 have m0 := MemOk.start (fun _ => False) w0
 refine regS Hz (.assign rfl <| .nil) ?_
 clear Hz Az; intro Az Hz
 refine wp_seq_k (fun K0 hK0 => ?_)
 refine sr fun K1 hK1 => ?_
 refine wpList_plain rfl (fun K hK => ?_)
 refine e_call Hz Try.func7 rfl rfl rfl rfl (iknown_any _) ?_
 rintro e w2 ⟨rfl, hb2⟩
 have m3 := m0.later hb2
 clear m0
 clear hb2
 refine ⟨_, rfl, ?_⟩; clear Hz Az; intro Az Hz
 refine hK _ _ ?_; clear hK
 refine goCh Hz (.not rfl .nil) ?_
 clear Hz Az; intro Az Hz
 refine nl (hK1 _ _ ?_); clear hK1
 refine wp_cond_false (Hz.ev (x := .tmp 31) rfl) ?_
 refine ss (hK0 _ _ ?_); clear hK0
 refine wp_seq_k (fun K2 hK2 => ?_)
 refine sr fun K3 hK3 => ?_
 refine goCh Hz (.move rfl <| .len rfl U25 <| .gtr rfl rfl <| .move rfl <| .nil) ?_
 clear Hz Az; intro Az Hz
 refine bool_cases Hz (t := 35) rfl ?_ ?_
 ·
  clear Hz; intro hb14 Hz; try simp only [QQ, Qax] at hb14
  refine goCh Hz (.sk <| .sk <| .sk <| .pickT rfl rfl <| .nil) ?_
  clear Hz Az; intro Az Hz
  refine nl (hK3 _ _ ?_); clear hK3
  refine wp_cond_true (Hz.ev (x := .tmp 39) rfl) ?_
  replace Hz : Has 215 [(0, _), (1, _), (2, _), (3, _), (4, _), (10, _)] Az := Hz.only [0, 1, 2, 3, 4, 10]
  refine regS Hz (.assign rfl <| .nil) ?_
  clear Hz Az; intro Az Hz
  refine wp_ret ?_
  try dsimp only [Exit.then, Exit.inBlock]
  refine (ret1 (fn := Try.f4) Hz rfl rfl ?_)
  exact ⟨by first | rfl | (simp; done), m3.below⟩
 clear Hz; intro hb14 Hz; try simp only [QQ, Qax] at hb14
 refine goCh Hz (.moveZ rfl <| .lenZ rfl U25 <| .gtrZ rfl rfl <| .pickF rfl rfl <| .nil) ?_
 clear Hz Az; intro Az Hz
 refine nl (hK3 _ _ ?_); clear hK3
 refine bool_cases Hz (t := 39) rfl ?_ ?_
 ·
  clear Hz; intro hb25 Hz; try simp only [QQ, Qax] at hb25
  refine wp_cond_true (Hz.ev (x := .tmp 39) rfl) ?_
  replace Hz : Has 215 [(0, _), (1, _), (2, _), (3, _), (4, _), (10, _)] Az := Hz.only [0, 1, 2, 3, 4, 10]
  refine regS Hz (.assign rfl <| .nil) ?_
  clear Hz Az; intro Az Hz
  refine wp_ret ?_
  try dsimp only [Exit.then, Exit.inBlock]
  refine (ret1 (fn := Try.f4) Hz rfl rfl ?_)
  exact ⟨by first | rfl | (simp; done), m3.below⟩
 clear Hz; intro hb25 Hz; try simp only [QQ, Qax] at hb25
 have hl60 : l.length ≤ 60 := by have := hb25; first | omega | (simp at this; omega)
 refine wp_cond_false (Hz.ev (x := .tmp 39) rfl) ?_
 refine ss (hK2 _ _ ?_); clear hK2
 replace Hz : Has 215 [(0, _), (1, _), (2, _), (3, _), (4, _), (10, _)] Az := Hz.only [0, 1, 2, 3, 4, 10]
 refine sr fun K4 hK4 => ?_
 refine goCh Hz (.move rfl .nil) ?_
 clear Hz Az; intro Az Hz
 refine wpList_plain rfl (fun K hK => ?_)
 refine e_call Hz Try.func8 rfl rfl rfl rfl (whole_b l _ _ _ ((h1.now' m3 rfl).any) hl60 hlb) ?_
 rintro e w31 ⟨y, S, p31, c31, rfl, hS, hSl, hSz, hSb, hd31, hb31⟩
 have m32 := m3.callF 70 rfl hb31 hd31
 clear m3
 clear hb31 hd31
 have hS0 := hS
 have hsm := hS.sm
 obtain ⟨hV, hh0, hpn9, hws9, hwb9⟩ := hS0
 obtain ⟨v1, v2, v3, v4, v5, v6, v7, v8, v9⟩ := hV
 obtain ⟨n1, n2, n3, n4, n5, n6, n7, n8, n9q, n10, n11⟩ := v1
 refine ⟨_, rfl, ?_⟩; clear Hz Az; intro Az Hz
 refine hK _ _ ?_; clear hK
 obtain ⟨pq, hpq, hpq2⟩ := tmod_n3 (a := p9) (n := y.bl) hp9.1 (by omega)
 obtain ⟨nq, hnq, hnq2⟩ := tmod_n3 (a := n9) (n := 8) hn9.1 (by decide)
 obtain ⟨kq, hkq, hkq2⟩ := tmod_n3 (a := k9) (n := 8) hk9.1 (by decide)
 obtain ⟨tq, htq, htq2⟩ := tmod_n3 (a := n9) (n := 3) hn9.1 (by decide)
 have hso : StreamOk y.bl y.sz (-1) y.ws.length (wholeI S S.length) := whole_ok hS (by omega) hSl hSz
 have hio : ItsOk (wholeI S S.length) := fun e he => by
   obtain ⟨j, hj, rfl⟩ := List.getElem_of_mem he
   have := (hso.i j _ (List.getElem?_eq_getElem hj)).2.2
   omega
 obtain ⟨T, hT⟩ : ∃ T : Nat, (y.bl + ((nq + 1 : Nat) : Int) - 1) / ((nq + 1 : Nat) : Int) = (T : Int) := by
   have q0 : 0 ≤ (y.bl + ((nq + 1 : Nat) : Int) - 1) / ((nq + 1 : Nat) : Int) := Int.ediv_nonneg (by omega) (by omega)
   exact ⟨((y.bl + ((nq + 1 : Nat) : Int) - 1) / ((nq + 1 : Nat) : Int)).toNat, by omega⟩
 have hTb : T ≤ 256 := plan_T (n := nq + 1) (by omega) ⟨n3, n4⟩ hT
 refine wpList_plain rfl (fun K hK => ?_)
 refine e_alloc Hz m32 71 fct5 rfl ?_
 clear Hz Az m32; intro g34 Az w35 Hz m35 hB35 hg35
 clear hB35 hg35
 refine hK _ _ ?_; clear hK
 refine wpList_plain rfl (fun K hK => ?_)
 refine e_storeW Hz m35 71 rfl rfl rfl rfl rfl fct1 ?_
 clear m35; intro w36 m36 hB36
 clear hB36
 refine hK _ _ ?_; clear hK
 refine nl (hK4 _ _ ?_); clear hK4
 refine regS Hz (.move rfl <| .conv rfl U5 U3 (r := p9) (IntWalk.i64_in _ (by omega)) <| .fa 0 rfl U24 <| .lb m36 71 U3 rfl rfl rfl <| .rem rfl rfl (by omega) (r := (pq : Int)) hpq <| .add rfl rfl (r := (pq : Int) + 1) (IntWalk.i64_in _ (by omega)) <| .assign rfl <| .nil) ?_
 clear Hz Az; intro Az Hz
 refine wp_seq_k (fun K5 hK5 => ?_)
 replace Hz : Has 215 [(1, _), (3, _), (4, _), (10, _), (11, _), (12, _)] Az := Hz.only [1, 3, 4, 10, 11, 12]
 have m45 : MemOk _ _ [(70, _), (71, _)] _ := m36.only [70, 71]; clear m36
 refine region_p 20 (B := [(70, _), (71, _)]) (m45.to ⟨il, il, trivial⟩) m45 (by kernel_rfl) (fun w46 hP46 m46 => ?_); clear m45
 refine goR hP46 [0, 1, 2, 3, 4, 5, 6, 7, 8, 10, 11, 12, 13] [0, 6] 13 0 15871 Hz (m46.to ⟨il, il, trivial⟩) (.loadBR hh (i := 71) rfl rfl U24 rfl fct1 (by simp) (by dsimp only [List.drop, List.take] <;> rfl) <| .move rfl <| .rem rfl rfl (by decide) (r := (kq : Int)) hkq <| .conv rfl U5 U3 (r := (kq : Int)) (IntWalk.i64_in _ (by omega)) <| .move rfl <| .fa 0 rfl U24 <| .lb hh 71 U3 rfl rfl rfl <| .move rfl <| .move rfl <| .move rfl <| .rem rfl rfl (by decide) (r := (nq : Int)) hnq <| .conv rfl U5 U3 (r := (nq : Int)) (IntWalk.i64_in _ (by omega)) <| .add rfl rfl (r := ((nq + 1 : Nat) : Int)) (by rw [IntWalk.i64_in _ (by omega)]; omega) <| .nil) ?_
 clear Hz Az; intro Az Hz
 refine stepE_only 9 rfl (by kernel_rfl) rfl (fun K hK => ?_)
 refine e_call Hz Try.func10 rfl rfl rfl rfl (iplace_any y.bl ((pq : Int) + 1) k9 _ (by omega) (by omega) ⟨by omega, by omega⟩ hk9) ?_
 rintro e w60 ⟨pl9, p60, c60, rfl, hpo, hpl9, hd60, hb60⟩
 have m61 := m46.callF 72 rfl hb60 hd60
 clear m46
 clear hb60 hd60
 refine ⟨_, rfl, ?_⟩; clear Hz Az; intro Az Hz
 refine hK _ _ (m61.to ⟨il, il, trivial⟩) ?_; clear hK K
 have hNW : NewOk (kq : Int) y.bl y.sz ((pq : Int) + 1) (T : Int) pl9 := ⟨by omega, by omega, by omega, by omega, by omega, by omega, by omega, by omega, hpo, by omega, by omega⟩
 have hP : PlanOk (kq : Int) ((pq : Int) + 1) pl9 y.bl y.sz S (nq + 1) T := ⟨hNW, by omega, by omega, hSl, hSz, hSb, hT⟩
 refine stepE_only 14 rfl (by kernel_rfl) rfl (fun K hK => ?_)
 refine e_call Hz Try.func9 rfl rfl rfl rfl (plan_yes y.bl y.sz (-1) _ (kq : Int) ((pq : Int) + 1) (wholeI S S.length) _ _ _ pl9 _ _ (nq + 1) T _ _ (m61.rd (i := 70) rfl) ((m61.rd (i := 72) rfl).any) hso hio (by omega) (by omega) (by omega) hT rfl hNW) ?_
 rintro e w63 ⟨p63, c63, rfl, hd63, hb63⟩
 obtain ⟨cs, hcs⟩ : ∃ x, planL (kq : Int) ((pq : Int) + 1) pl9 y.bl y.sz (wholeI S S.length) (nq + 1) T = x := ⟨_, rfl⟩
 have hcl : cs.length = T + 2 := by rw [← hcs, planL_len]
 have hok : ∀ c ∈ cs, c.pl.length ≤ 1000000 ∧ c.its.length ≤ 1000000 ∧ ItsOk c.its := fun c hc => by rw [← hcs] at hc; exact hP.ok c hc
 rw [hcs] at hd63 ⊢
 have m64 := m61.callD 73 rfl hb63 hd63
 clear m61
 clear hb63 hd63
 refine ⟨_, rfl, ?_⟩; clear Hz Az; intro Az Hz
 refine hK _ _ (m64.to ⟨il, il, trivial⟩) ?_; clear hK K
 refine goA hP46 [15, 16, 17, 18, 19] 5 32767 1048575 Hz (m64.to ⟨il, il, trivial⟩) (.move rfl <| .extract rfl rfl <| .extract rfl rfl <| .assign rfl <| .assign rfl <| .nil) ?_
 clear Hz Az; intro Az Hz
 refine wpAnyE_done (by kernel_rfl) ?_ _
 refine hK5 _ _ ?_; clear hK5
 refine wp_seq_k (fun K6 hK6 => ?_)
 replace Hz : Has 215 [(1, _), (3, _), (4, _), (10, _), (11, _), (13, _), (14, _)] Az := Hz.only [1, 3, 4, 10, 11, 13, 14]
 refine regS Hz (.move rfl <| .neq rfl rfl <| .nil) ?_
 clear Hz Az; intro Az Hz
 refine bool_cases Hz (t := 67) rfl ?_ ?_
 · intro hb _; exact absurd hb (by first | (simp; done) | (simp; omega) | (rw [decide_eq_true_eq]; omega))
 clear Hz; intro _ Hz
 refine wp_cond_false (Hz.ev (x := .tmp 67) rfl) ?_
 refine ss (hK6 _ _ ?_); clear hK6
 refine sr fun K7 hK7 => ?_
 refine goCh Hz (.build rfl fct6 fl45igo rfl (by dsimp only [setL, List.set] <;> rfl) .nil) ?_
 clear Hz Az; intro Az Hz
 refine wpList_plain rfl (fun K hK => ?_)
 refine e_box Hz m64 74 (cs := [_]) rfl rfl rfl ?_
 clear Hz Az m64; intro g77 Az w78 Hz m78 hB78 hg78
 clear hB78 hg78
 refine hK _ _ ?_; clear hK
 refine goCh Hz (.assign rfl .nil) ?_
 clear Hz Az; intro Az Hz
 refine nl (hK7 _ _ ?_); clear hK7
 refine wp_seq_k (fun K8 hK8 => ?_)
 refine regS Hz (.assign rfl <| .nil) ?_
 clear Hz Az; intro Az Hz
 refine wp_block ?_
 refine wp_loop_ghost (fun g a w => ∃ (i J : Nat) (B11 B15 : Nat) (pi pc pm : Option Addr) (ci cc cm : Nat), i ≤ l2.length + 1 ∧ g = l2.length + 1 - i ∧ J ≤ T + 2 ∧ (i = l2.length + 1 → J = T + 2) ∧ Has 215 [(1, .int .u8 k9), (3, .int .u8 n9), (4, .slice p2 l2.length c2), (11, .pointer (some ⟨B11, 0, none⟩)), (13, .slice pc cs.length cc), (15, .pointer (some ⟨B15, 0, none⟩)), (16, .int .i64 (i : Int))] a ∧ MemOk (cn w0) w0 [(1, .box B11 24 [.int .i64 y.bl, .int .i64 y.sz, .int .i64 (-1), .int .i64 y.ws.length, .slice pi S.length ci]), (2, .dat (.slice pi S.length ci) (.l 2 ((wholeI S S.length).map itD))), (7, .dat (.slice pc cs.length cc) (.l 10 (cs.map cmdD))), (8, .box B15 45 [.slice pm ((macL (kq : Int) ((pq : Int) + 1) pl9 y.bl y.sz (wholeI S S.length) (nq + 1) T J).map volD).length cm]), (10, .dat (.slice pm ((macL (kq : Int) ((pq : Int) + 1) pl9 y.bl y.sz (wholeI S S.length) (nq + 1) T J).map volD).length cm) (.l 11 ((macL (kq : Int) ((pq : Int) + 1) pl9 y.bl y.sz (wholeI S S.length) (nq + 1) T J).map volD)))] w) (l2.length + 1) ?_ ?_
 · have mz := m78.dat 10 rfl (Rd.l0 none 0 11)
   exact ⟨0, 0, _, _, _, _, _, _, _, _, by omega, rfl, by omega, (fun h => by omega), Hz.only [1, 3, 4, 11, 13, 15, 16], mz.ren [(1, 71), (2, 70), (7, 73), (8, 74), (10, 10)] (by decide)⟩
 clear Hz m78
 rintro g Az w81 ⟨i, J, B11, B15, pi, pc, pm, ci, cc, cm, hil, hg, hJT, hJe, Hz, m81⟩
 refine wp_seq_k (fun K9 hK9 => ?_)
 refine regS Hz (.move rfl <| .move rfl <| .len rfl U25 <| .leq rfl rfl <| .nil) ?_
 clear Hz Az; intro Az Hz
 refine bool_cases Hz (t := 73) rfl ?_ ?_
 ·
  clear Hz; intro hb86 Hz; try simp only [QQ, Qax] at hb86
  have hi9 : i ≤ l2.length := by have := hb86; first | omega | (simp at this; omega)
  refine wp_cond_true (Hz.ev (x := .tmp 73) rfl) ?_
  refine ss (hK9 _ _ ?_); clear hK9
  refine wp_seq_k (fun K10 hK10 => ?_)
  refine wp_block ?_
  refine sr fun K11 hK11 => ?_
  refine goCh Hz (.move rfl <| .move rfl <| .rem rfl rfl (by decide) (r := (kq : Int)) hkq <| .conv rfl U5 U3 (r := (kq : Int)) (IntWalk.i64_in _ (by omega)) <| .nil) ?_
  clear Hz Az; intro Az Hz
  refine wpList_plain rfl (fun K hK => ?_)
  refine e_call Hz Try.func13 rfl rfl rfl rfl (rvol_u _ _ hP J hJT _ _ _ (m81.into [(1, 8), (2, 10)] (by decide) rfl)) ?_
  rintro e w95 ⟨x, th, p195, p295, p395, d195, d295, d395, rfl, hC, hm95⟩
  have mx95 := m81.back hm95 [(8, 1), (10, 2), (100, 3), (101, 4), (102, 5)] (by decide); clear hm95 m81
  have m95 : MemOk _ _ [(8, _), (10, _), (100, _), (101, _), (102, _), (1, _), (2, _), (7, _)] _ := mx95.only [8, 10, 100, 101, 102, 1, 2, 7]; clear mx95
  refine ⟨_, rfl, ?_⟩; clear Hz Az; intro Az Hz
  refine hK _ _ ?_; clear hK
  refine goCh Hz (.move rfl <| .extract rfl rfl <| .extract rfl rfl <| .nil) ?_
  clear Hz Az; intro Az Hz
  refine wpList_plain rfl (fun K hK => ?_)
  refine e_alloc Hz m95 103 fct7 rfl ?_
  clear Hz Az m95; intro g100 Az w101 Hz m101 hB101 hg101
  clear hB101 hg101
  refine hK _ _ ?_; clear hK
  refine wpList_plain rfl (fun K hK => ?_)
  refine e_storeW Hz m101 103 rfl rfl rfl rfl rfl fct2 ?_
  clear m101; intro w102 m102 hB102
  clear hB102
  refine hK _ _ ?_; clear hK
  refine goCh Hz (.assign rfl .nil) ?_
  clear Hz Az; intro Az Hz
  refine nl (hK11 _ _ ?_); clear hK11
  replace Hz : Has 215 [(1, _), (3, _), (4, _), (11, _), (13, _), (15, _), (16, _), (17, _), (18, _)] Az := Hz.only [1, 3, 4, 11, 13, 15, 16, 17, 18]
  refine sr fun K12 hK12 => ?_
  refine goCh Hz (.move rfl <| .loadBR m102 (i := 103) rfl rfl U49 rfl fct2 (by simp) (by dsimp only [List.drop, List.take] <;> rfl) <| .move rfl <| .nil) ?_
  clear Hz Az; intro Az Hz
  refine wpList_plain rfl (fun K hK => ?_)
  refine e_call Hz Try.func14 rfl rfl rfl rfl (rest_u hP J x th hC cs hcs _ _ _ ((m102.rd (i := 7) rfl).any) (by omega) hok _ _ _ _ _ _) ?_
  rintro e w111 ⟨p111, c111, rfl, hd111, hb111⟩
  have m112 := m102.callF 104 rfl hb111 hd111
  clear m102
  clear hb111 hd111
  refine ⟨_, rfl, ?_⟩; clear Hz Az; intro Az Hz
  refine hK _ _ ?_; clear hK
  refine goCh Hz (.assign rfl .nil) ?_
  clear Hz Az; intro Az Hz
  refine nl (hK12 _ _ ?_); clear hK12
  refine wp_seq_k (fun K13 hK13 => ?_)
  refine cutF (fun (hC13 : ∀ (a : Act) (w : World), (∃ (B11 B15 : Nat) (pi pc pm : Option Addr) (ci cc cm : Nat) (pr : Option Addr) (cr : Nat), Has 215 [(1, .int .u8 k9), (3, .int .u8 n9), (4, .slice p2 l2.length c2), (11, .pointer (some ⟨B11, 0, none⟩)), (13, .slice pc cs.length cc), (15, .pointer (some ⟨B15, 0, none⟩)), (16, .int .i64 (i : Int)), (19, .slice pr (cs.drop J).length cr)] a ∧ MemOk (cn w0) w0 [(1, .box B11 24 [.int .i64 y.bl, .int .i64 y.sz, .int .i64 (-1), .int .i64 y.ws.length, .slice pi S.length ci]), (2, .dat (.slice pi S.length ci) (.l 2 ((wholeI S S.length).map itD))), (7, .dat (.slice pc cs.length cc) (.l 10 (cs.map cmdD))), (8, .box B15 45 [.slice pm ((macL (kq : Int) ((pq : Int) + 1) pl9 y.bl y.sz (wholeI S S.length) (nq + 1) T J).map volD).length cm]), (10, .dat (.slice pm ((macL (kq : Int) ((pq : Int) + 1) pl9 y.bl y.sz (wholeI S S.length) (nq + 1) T J).map volD).length cm) (.l 11 ((macL (kq : Int) ((pq : Int) + 1) pl9 y.bl y.sz (wholeI S S.length) (nq + 1) T J).map volD))), (9, .dat (.slice pr (cs.drop J).length cr) (.l 10 ((cs.drop J).map cmdD)))] w) → K13 a w) => ?_) ?_
  ·
   refine wp_seq_k (fun K22 hK22 => ?_)
   have m230 : MemOk _ _ [(1, _), (2, _), (7, _), (8, _), (10, _), (100, _), (101, _), (102, _), (103, _), (104, _)] _ := m112.only [1, 2, 7, 8, 10, 100, 101, 102, 103, 104]; clear m112
   refine region_p 27 (B := [(1, _), (2, _), (7, _), (8, _), (10, _), (100, _), (101, _), (102, _), (103, _), (104, _)]) (m230.to ⟨il, il, il, il, il, il, il, il, il, il, trivial⟩) m230 (by kernel_rfl) (fun w231 hP231 m231 => ?_); clear m230
   refine goR hP231 [0, 1, 2, 3] [2] 4 0 15 Hz (m231.to ⟨il, il, il, il, il, il, il, il, il, il, trivial⟩) (.move rfl <| .move rfl <| .loadBR hh (i := 103) rfl rfl U49 rfl fct2 (by simp) (by dsimp only [List.drop, List.take] <;> rfl) <| .move rfl <| .nil) ?_
   clear Hz Az; intro Az Hz
   refine stepE_only 4 rfl (by kernel_rfl) rfl (fun K hK => ?_)
   refine e_call Hz Try.func15 rfl rfl rfl rfl (rrest_u _ hP J x th hC cs hcs _ _ _ (by omega) _ _ _ _ _ _ (m231.into [(3, 7)] (by decide) rfl)) ?_
   rintro e w236 ⟨p236, c236, rfl, hm236⟩
   have mx236 := m231.back hm236 [(7, 3), (105, 9)] (by decide); clear hm236 m231
   have m236 : MemOk _ _ [(7, _), (105, _), (1, _), (2, _), (8, _), (10, _), (100, _), (101, _), (102, _), (103, _), (104, _)] _ := mx236.only [7, 105, 1, 2, 8, 10, 100, 101, 102, 103, 104]; clear mx236
   refine ⟨_, rfl, ?_⟩; clear Hz Az; intro Az Hz
   refine hK _ _ (m236.to ⟨il, il, il, il, il, il, il, il, il, il, trivial⟩) ?_; clear hK K
   refine stepE_only 5 rfl (by kernel_rfl) rfl (fun K hK => ?_)
   refine e_call Hz Try.func12 rfl rfl rfl rfl (hcmds_any (cs.drop J) _ _ _ _ _ _ _ ((m236.rd (i := 104) rfl).any) ((m236.rd (i := 105) rfl).any) (by rw [List.length_drop]; omega) (fun c hc => hok c (List.mem_of_mem_drop hc))) ?_
   rintro e w238 ⟨rfl, hb238⟩
   have m239 := m236.later hb238
   clear m236
   clear hb238
   refine ⟨_, rfl, ?_⟩; clear Hz Az; intro Az Hz
   refine hK _ _ (m239.to ⟨il, il, il, il, il, il, il, il, il, il, trivial⟩) ?_; clear hK K
   refine goR hP231 [6, 7, 8, 9, 11, 12] [9, 12] 6 63 7167 Hz (m239.to ⟨il, il, il, il, il, il, il, il, il, il, trivial⟩) (.not rfl <| .move rfl <| .move rfl <| .loadBR hh (i := 103) rfl rfl U49 rfl fct2 (by simp) (by dsimp only [List.drop, List.take] <;> rfl) <| .move rfl <| .loadBR hh (i := 103) rfl rfl U49 rfl fct2 (by simp) (by dsimp only [List.drop, List.take] <;> rfl) <| .nil) ?_
   clear Hz Az; intro Az Hz
   refine stepE_only 10 rfl (by kernel_rfl) (wantedG Hz rfl rfl rfl rfl) (fun K hK => ?_)
   refine e_call Hz Try.func16 rfl rfl rfl rfl (done_u hP J x th hC cs hcs _ _ _ ((m239.rd (i := 7) rfl).any) _ _ _ _ _ _ ((m239.rd (i := 100) rfl).any) ((m239.rd (i := 102) rfl).any)) ?_
   rintro e w247 ⟨rfl, hb247⟩
   have m248 := m239.later hb247
   clear m239
   clear hb247
   refine ⟨_, rfl, ?_⟩; clear Hz Az; intro Az Hz
   refine hK _ _ (m248.to ⟨il, il, il, il, il, il, il, il, il, il, trivial⟩) ?_; clear hK K
   refine stepE_only 13 rfl (by kernel_rfl) (wantedG Hz rfl rfl rfl rfl) (fun K hK => ?_)
   refine e_call Hz Try.func17 rfl rfl rfl rfl (rdone_u hP J x th hC cs hcs _ _ _ ((m248.rd (i := 7) rfl).any) _ _ _ _ _ _ ((m248.rd (i := 100) rfl).any) ((m248.rd (i := 102) rfl).any)) ?_
   rintro e w250 ⟨rfl, hb250⟩
   have m251 := m248.later hb250
   clear m248
   clear hb250
   refine ⟨_, rfl, ?_⟩; clear Hz Az; intro Az Hz
   refine hK _ _ (m251.to ⟨il, il, il, il, il, il, il, il, il, il, trivial⟩) ?_; clear hK K
   refine goA hP231 [14, 15, 16] 3 16383 131071 Hz (m251.to ⟨il, il, il, il, il, il, il, il, il, il, trivial⟩) (.neqB rfl rfl U4 <| .pickF rfl rfl <| .move rfl <| .nil) ?_
   clear Hz Az; intro Az Hz
   refine bool_cases Hz (t := 104) rfl ?_ ?_
   · intro hb _; exact absurd hb (by first | (simp; done) | (simp; omega) | (rw [decide_eq_true_eq]; omega))
   clear Hz; intro _ Hz
   refine goA hP231 [17, 18] 2 131071 524287 Hz (m251.to ⟨il, il, il, il, il, il, il, il, il, il, trivial⟩) (.move rfl <| .move rfl <| .nil) ?_
   clear Hz Az; intro Az Hz
   refine bool_cases Hz (t := 106) rfl ?_ ?_
   ·
    clear Hz; intro hb259 Hz; try simp only [QQ, Qax] at hb259
    have hne9 : ¬ (x.hi = decide (J = T + 2)) := hC.ne hb259
    refine goR hP231 [19, 20, 21, 22] [20, 22] 4 524287 8388607 Hz (m251.to ⟨il, il, il, il, il, il, il, il, il, il, trivial⟩) (.fa 7 rfl U49 <| .lb hh 103 U4 rfl rfl rfl <| .move rfl <| .loadBR hh (i := 103) rfl rfl U49 rfl fct2 (by simp) (by dsimp only [List.drop, List.take] <;> rfl) <| .nil) ?_
    clear Hz Az; intro Az Hz
    refine stepE_only 23 rfl (by kernel_rfl) (wantedG Hz rfl rfl rfl rfl) (fun K hK => ?_)
    refine e_call Hz Try.func16 rfl rfl rfl rfl (done_u hP J x th hC cs hcs _ _ _ ((m251.rd (i := 7) rfl).any) _ _ _ _ _ _ ((m251.rd (i := 100) rfl).any) ((m251.rd (i := 102) rfl).any)) ?_
    rintro e w264 ⟨rfl, hb264⟩
    have m265 := m251.later hb264
    clear m251
    clear hb264
    refine ⟨_, rfl, ?_⟩; clear Hz Az; intro Az Hz
    refine hK _ _ (m265.to ⟨il, il, il, il, il, il, il, il, il, il, trivial⟩) ?_; clear hK K
    refine goA hP231 [24, 25, 26] 3 16777215 134217727 Hz (m265.to ⟨il, il, il, il, il, il, il, il, il, il, trivial⟩) (.eqlB rfl rfl U4 <| .pickT rfl rfl <| .pickF rfl rfl <| .nil) ?_
    clear Hz Az; intro Az Hz
    refine wpAnyE_done (by kernel_rfl) ?_ _
    refine hK22 _ _ ?_; clear hK22
    refine bool_cases Hz (t := 114) rfl ?_ ?_
    · intro hb _; exact absurd hb (by first | (simp; done) | (simpa using hne9))
    clear Hz; intro _ Hz
    refine wp_cond_false (Hz.ev (x := .tmp 114) rfl) ?_
    refine wp_skip ?_
    show K13 _ _
    exact hC13 _ _ ⟨_, _, _, _, _, _, _, _, _, _, Hz.only [1, 3, 4, 11, 13, 15, 16, 19], m265.ren [(1, 1), (2, 2), (7, 7), (8, 8), (10, 10), (9, 104)] (by decide)⟩
   clear Hz; intro hb259 Hz; try simp only [QQ, Qax] at hb259
   refine goA hP231 [19, 20, 21, 22, 23, 24, 25, 26] 8 524287 134217727 Hz (m251.to ⟨il, il, il, il, il, il, il, il, il, il, trivial⟩) (.s <| .s <| .s <| .s <| .s <| .s <| .pickF rfl rfl <| .pickF rfl rfl <| .nil) ?_
   clear Hz Az; intro Az Hz
   refine wpAnyE_done (by kernel_rfl) ?_ _
   refine hK22 _ _ ?_; clear hK22
   refine wp_cond_false (Hz.ev (x := .tmp 114) rfl) ?_
   refine wp_skip ?_
   show K13 _ _
   exact hC13 _ _ ⟨_, _, _, _, _, _, _, _, _, _, Hz.only [1, 3, 4, 11, 13, 15, 16, 19], m251.ren [(1, 1), (2, 2), (7, 7), (8, 8), (10, 10), (9, 104)] (by decide)⟩
  clear Hz m112
  rintro Az w115 ⟨B11, B15, pi, pc, pm, ci, cc, cm, pr, cr, Hz, m115⟩
  refine hK13 _ _ ?_; clear hK13
  refine regS Hz (.move rfl <| .len rfl U31 <| .assign rfl <| .nil) ?_
  clear Hz Az; intro Az Hz
  refine wp_seq_k (fun K14 hK14 => ?_)
  refine cutF (fun (hC14 : ∀ (a : Act) (w : World), (∃ (mo : Nat) (B11 B15 : Nat) (pi pc pm : Option Addr) (ci cc cm : Nat) (pr : Option Addr) (cr : Nat), mo ≤ T + 2 - J ∧ (i = l2.length → mo = T + 2 - J) ∧ Has 215 [(1, .int .u8 k9), (3, .int .u8 n9), (4, .slice p2 l2.length c2), (11, .pointer (some ⟨B11, 0, none⟩)), (13, .slice pc cs.length cc), (15, .pointer (some ⟨B15, 0, none⟩)), (16, .int .i64 (i : Int)), (19, .slice pr (cs.drop J).length cr), (20, .int .i64 (mo : Int))] a ∧ MemOk (cn w0) w0 [(1, .box B11 24 [.int .i64 y.bl, .int .i64 y.sz, .int .i64 (-1), .int .i64 y.ws.length, .slice pi S.length ci]), (2, .dat (.slice pi S.length ci) (.l 2 ((wholeI S S.length).map itD))), (7, .dat (.slice pc cs.length cc) (.l 10 (cs.map cmdD))), (8, .box B15 45 [.slice pm ((macL (kq : Int) ((pq : Int) + 1) pl9 y.bl y.sz (wholeI S S.length) (nq + 1) T J).map volD).length cm]), (10, .dat (.slice pm ((macL (kq : Int) ((pq : Int) + 1) pl9 y.bl y.sz (wholeI S S.length) (nq + 1) T J).map volD).length cm) (.l 11 ((macL (kq : Int) ((pq : Int) + 1) pl9 y.bl y.sz (wholeI S S.length) (nq + 1) T J).map volD))), (9, .dat (.slice pr (cs.drop J).length cr) (.l 10 ((cs.drop J).map cmdD)))] w) → K14 a w) => ?_) ?_
  ·
   refine regS Hz (.move rfl <| .move rfl <| .len rfl U25 <| .lss rfl rfl <| .nil) ?_
   clear Hz Az; intro Az Hz
   refine bool_cases Hz (t := 120) rfl ?_ ?_
   ·
    clear Hz; intro hb217 Hz; try simp only [QQ, Qax] at hb217
    have hdr : (cs.drop J).length = T + 2 - J := by rw [List.length_drop, hcl]
    have hic : i < l2.length := by have := hb217; first | omega | (simp at this; omega)
    obtain ⟨mq, hmq, hmq2⟩ := tmod_n3 (a := l2.getD i 0) (n := (((cs.drop J).length + 1 : Nat) : Int)) (hlb2 i hic).1 (by omega)
    refine wp_cond_true (Hz.ev (x := .tmp 120) rfl) ?_
    replace Hz : Has 215 [(1, _), (3, _), (4, _), (11, _), (13, _), (15, _), (16, _), (19, _), (20, _)] Az := Hz.only [1, 3, 4, 11, 13, 15, 16, 19, 20]
    refine wp_region_lit ?_
    refine goCh Hz (.move rfl <| .move rfl <| .nil) ?_
    clear Hz Az; intro Az Hz
    obtain ⟨gx221, ox221, hp221, hl221, hrg221⟩ := h2.extN (i) hic
    cases hp221; clear hl221
    refine goCh Hz (.c rfl (fun _ h => y_idx h rfl rfl U25 fct0 (i) rfl hic) <| .loadAt1 (hrg221 m115 rfl) (q := 0) rfl rfl rfl U5 rfl <| .conv rfl U5 U3 (r := l2.getD i 0) (IntWalk.i64_in _ (by have := hlb2 i hic; omega)) <| .move rfl <| .len rfl U31 <| .add rfl rfl (r := (((cs.drop J).length + 1 : Nat) : Int)) (by rw [IntWalk.i64_in _ (by omega)]; omega) <| .rem rfl rfl (by omega) (r := (mq : Int)) hmq <| .assign rfl <| .nil) ?_
    clear Hz Az; intro Az Hz
    refine wpList_nil ?_
    show K14 _ _
    exact hC14 _ _ ⟨mq, _, _, _, _, _, _, _, _, _, _, by omega, by first | omega | (intro h; omega), Hz.only [1, 3, 4, 11, 13, 15, 16, 19, 20], m115.ren [(1, 1), (2, 2), (7, 7), (8, 8), (10, 10), (9, 9)] (by decide)⟩
   clear Hz; intro hb217 Hz; try simp only [QQ, Qax] at hb217
   have hdr : (cs.drop J).length = T + 2 - J := by rw [List.length_drop, hcl]
   have hic : ¬ i < l2.length := by have := hb217; first | omega | (simp at this; omega)
   refine wp_cond_false (Hz.ev (x := .tmp 120) rfl) ?_
   refine wp_skip ?_
   show K14 _ _
   exact hC14 _ _ ⟨(cs.drop J).length, _, _, _, _, _, _, _, _, _, _, by omega, by first | omega | (intro h; omega), Hz.only [1, 3, 4, 11, 13, 15, 16, 19, 20], m115.ren [(1, 1), (2, 2), (7, 7), (8, 8), (10, 10), (9, 9)] (by decide)⟩
  clear Hz m115
  rintro Az w119 ⟨mo, B11, B15, pi, pc, pm, ci, cc, cm, pr, cr, hmo1, hmo2, Hz, m119⟩
  refine hK14 _ _ ?_; clear hK14
  refine regS Hz (.assign rfl <| .nil) ?_
  clear Hz Az; intro Az Hz
  refine wp_block ?_
  refine wp_loop_ghost (fun g a w => ∃ (j : Nat) (B11 B15 : Nat) (pi pc pm : Option Addr) (ci cc cm : Nat) (pr : Option Addr) (cr : Nat), j ≤ mo ∧ g = mo - j ∧ Has 215 [(1, .int .u8 k9), (3, .int .u8 n9), (4, .slice p2 l2.length c2), (11, .pointer (some ⟨B11, 0, none⟩)), (13, .slice pc cs.length cc), (15, .pointer (some ⟨B15, 0, none⟩)), (16, .int .i64 (i : Int)), (19, .slice pr (cs.drop J).length cr), (20, .int .i64 (mo : Int)), (21, .int .i64 (j : Int))] a ∧ MemOk (cn w0) w0 [(1, .box B11 24 [.int .i64 y.bl, .int .i64 y.sz, .int .i64 (-1), .int .i64 y.ws.length, .slice pi S.length ci]), (2, .dat (.slice pi S.length ci) (.l 2 ((wholeI S S.length).map itD))), (7, .dat (.slice pc cs.length cc) (.l 10 (cs.map cmdD))), (8, .box B15 45 [.slice pm ((macL (kq : Int) ((pq : Int) + 1) pl9 y.bl y.sz (wholeI S S.length) (nq + 1) T (J + j)).map volD).length cm]), (10, .dat (.slice pm ((macL (kq : Int) ((pq : Int) + 1) pl9 y.bl y.sz (wholeI S S.length) (nq + 1) T (J + j)).map volD).length cm) (.l 11 ((macL (kq : Int) ((pq : Int) + 1) pl9 y.bl y.sz (wholeI S S.length) (nq + 1) T (J + j)).map volD))), (9, .dat (.slice pr (cs.drop J).length cr) (.l 10 ((cs.drop J).map cmdD)))] w) (mo) ?_ ?_
  · exact ⟨0, _, _, _, _, _, _, _, _, _, _, Nat.zero_le _, rfl, Hz.only [1, 3, 4, 11, 13, 15, 16, 19, 20, 21], m119.ren [(1, 1), (2, 2), (7, 7), (8, 8), (10, 10), (9, 9)] (by decide)⟩
  clear Hz m119
  rintro g Az w121 ⟨j, B11, B15, pi, pc, pm, ci, cc, cm, pr, cr, hjl, hg2, Hz, m121⟩
  refine wp_seq_k (fun K15 hK15 => ?_)
  refine regS Hz (.move rfl <| .move rfl <| .lss rfl rfl <| .nil) ?_
  clear Hz Az; intro Az Hz
  refine bool_cases Hz (t := 132) rfl ?_ ?_
  ·
   clear Hz; intro hb125 Hz; try simp only [QQ, Qax] at hb125
   have hj : j < mo := by have := hb125; first | omega | (simp at this; omega)
   have hjr : j < (cs.drop J).length := by rw [List.length_drop]; omega
   obtain ⟨c9, hes⟩ : ∃ e, (cs.drop J)[j]? = some e := ⟨_, List.getElem?_eq_getElem hjr⟩
   have hesJ : cs[J + j]? = some c9 := by rw [List.getElem?_drop] at hes; exact hes
   refine wp_cond_true (Hz.ev (x := .tmp 132) rfl) ?_
   refine ss (hK15 _ _ ?_); clear hK15
   refine wp_seq_k (fun K16 hK16 => ?_)
   refine wp_block ?_
   refine sr fun K17 hK17 => ?_
   refine goCh Hz (.move rfl <| .move rfl <| .nil) ?_
   clear Hz Az; intro Az Hz
   obtain ⟨b131, o131, vs131, hp131, hR131, ho131, m131⟩ := m121.openR (i := 9) rfl (j) (r := [.v (.int .i64 c9.kd), .v (.int .i64 c9.vo), .v (.int .i64 c9.bl), .v (.int .i64 c9.sz), .v (.int .i64 c9.pe), .ns .i64 c9.pl, .v (.int .i64 c9.to), .v (.int .i64 c9.at0), .v (.int .i64 c9.ix), .l 2 (c9.its.map itD)]) (cmdD_get hes) 400 rfl
   cases hp131; clear m121 ho131
   rcases hR131 with _ | ⟨hd131_0, _ | ⟨hd131_1, _ | ⟨hd131_2, _ | ⟨hd131_3, _ | ⟨hd131_4, _ | ⟨hd131_5, _ | ⟨hd131_6, _ | ⟨hd131_7, _ | ⟨hd131_8, _ | ⟨hd131_9, _ | _⟩⟩⟩⟩⟩⟩⟩⟩⟩⟩
   obtain rfl := hd131_0.v_out
   clear hd131_0
   obtain rfl := hd131_1.v_out
   clear hd131_1
   obtain rfl := hd131_2.v_out
   clear hd131_2
   obtain rfl := hd131_3.v_out
   clear hd131_3
   obtain rfl := hd131_4.v_out
   clear hd131_4
   obtain ⟨p132, c132, hv132, hc132⟩ := hd131_5.ns_shape; subst hv132
   have m132 := m131.dat 401 rfl (hd131_5.cast (fun _ h => (free_add rfl h))); clear m131 hd131_5
   obtain rfl := hd131_6.v_out
   clear hd131_6
   obtain rfl := hd131_7.v_out
   clear hd131_7
   obtain rfl := hd131_8.v_out
   clear hd131_8
   obtain ⟨p133, c133, hv133, hc133⟩ := hd131_9.l_shape; subst hv133
   have m133 := m132.dat 402 rfl (hd131_9.cast (fun _ h => (free_add rfl (free_add rfl h)))); clear m132 hd131_9
   refine goCh Hz (.c rfl (fun _ h => y_idx h rfl rfl U31 fct3 (j) rfl hjr) <| .loadCR m133 (i := 400) rfl rfl U57 rfl fct3 <| .nil) ?_
   clear Hz Az; intro Az Hz
   refine wpList_plain rfl (fun K hK => ?_)
   refine e_call Hz Try.func18 rfl rfl rfl rfl (rputCmd_x c9.kd c9.vo c9.bl c9.sz c9.pe c9.to c9.at0 c9.ix c9.pl c9.its _ _ _ _ _ _ ((m133.rd (i := 401) rfl).any) ((m133.rd (i := 402) rfl).any) (hP.cmd (by rw [hcs]; exact hesJ))) ?_
   rintro e w136 ⟨p136, c136, rfl, hd136, hb136⟩
   have m137 := m133.callF 403 rfl hb136 hd136
   clear m133
   clear hb136 hd136
   refine ⟨_, rfl, ?_⟩; clear Hz Az; intro Az Hz
   refine hK _ _ ?_; clear hK
   refine goCh Hz (.move rfl <| .extract rfl rfl <| .extract rfl rfl <| .assign rfl <| .assign rfl <| .nil) ?_
   clear Hz Az; intro Az Hz
   refine nl (hK17 _ _ ?_); clear hK17
   refine wp_seq_k (fun K18 hK18 => ?_)
   replace Hz : Has 215 [(1, _), (3, _), (4, _), (11, _), (13, _), (15, _), (16, _), (19, _), (20, _), (21, _), (22, _)] Az := Hz.only [1, 3, 4, 11, 13, 15, 16, 19, 20, 21, 22]
   refine sr fun K19 hK19 => ?_
   refine goCh Hz (.move rfl <| .move rfl <| .nil) ?_
   clear Hz Az; intro Az Hz
   have m149 := m137.dat 404 rfl (m137.rd (i := 403) rfl); clear m137
   refine wpList_plain rfl (fun K hK => ?_)
   refine e_call Hz Try.func19 rfl rfl rfl rfl (rapply_plan _ _ hP (J + j) c9 (by rw [hcs]; exact hesJ) _ _ _ _ _ (m149.into [(1, 8), (2, 10), (3, 404)] (by decide) rfl)) ?_
   rintro e w150 ⟨rl0, rf0, rn0, p150, c150, rfl, hm150⟩
   have mx150 := m149.back hm150 [(8, 1), (10, 2)] (by decide); clear hm150 m149
   have m150 : MemOk _ _ [(8, _), (10, _), (1, _), (2, _), (7, _), (9, _), (400, _), (401, _), (402, _), (403, _)] _ := mx150.only [8, 10, 1, 2, 7, 9, 400, 401, 402, 403]; clear mx150
   refine ⟨_, rfl, ?_⟩; clear Hz Az; intro Az Hz
   refine hK _ _ ?_; clear hK
   refine wpList_plain rfl (fun K hK => ?_)
   refine e_alloc Hz m150 405 fct8 rfl ?_
   clear Hz Az m150; intro g152 Az w153 Hz m153 hB153 hg153
   clear hB153 hg153
   refine hK _ _ ?_; clear hK
   refine wpList_plain rfl (fun K hK => ?_)
   refine e_storeW Hz m153 405 rfl rfl rfl rfl rfl fct4 ?_
   clear m153; intro w154 m154 hB154
   clear hB154
   refine hK _ _ ?_; clear hK
   refine nl (hK19 _ _ ?_); clear hK19
   refine regS Hz (.fa 0 rfl U59 <| .lb m154 405 U32 rfl rfl rfl <| .neq rfl rfl <| .nil) ?_
   clear Hz Az; intro Az Hz
   refine bool_cases Hz (t := 148) rfl ?_ ?_
   · intro hb _; exact absurd hb (by first | (simp; done) | (simp; omega) | (rw [decide_eq_true_eq]; omega))
   clear Hz; intro _ Hz
   refine wp_cond_false (Hz.ev (x := .tmp 148) rfl) ?_
   refine ss (hK18 _ _ ?_); clear hK18
   replace Hz : Has 215 [(1, _), (3, _), (4, _), (11, _), (13, _), (15, _), (16, _), (19, _), (20, _), (21, _), (22, _)] Az := Hz.only [1, 3, 4, 11, 13, 15, 16, 19, 20, 21, 22]
   refine sr fun K20 hK20 => ?_
   refine goCh Hz (.move rfl <| .move rfl <| .nil) ?_
   clear Hz Az; intro Az Hz
   obtain ⟨b165, o165, vs165, hp165, hR165, ho165, m165⟩ := m154.openR (i := 9) rfl (j) (r := [.v (.int .i64 c9.kd), .v (.int .i64 c9.vo), .v (.int .i64 c9.bl), .v (.int .i64 c9.sz), .v (.int .i64 c9.pe), .ns .i64 c9.pl, .v (.int .i64 c9.to), .v (.int .i64 c9.at0), .v (.int .i64 c9.ix), .l 2 (c9.its.map itD)]) (cmdD_get hes) 406 rfl
   cases hp165; clear m154 ho165
   rcases hR165 with _ | ⟨hd165_0, _ | ⟨hd165_1, _ | ⟨hd165_2, _ | ⟨hd165_3, _ | ⟨hd165_4, _ | ⟨hd165_5, _ | ⟨hd165_6, _ | ⟨hd165_7, _ | ⟨hd165_8, _ | ⟨hd165_9, _ | _⟩⟩⟩⟩⟩⟩⟩⟩⟩⟩
   obtain rfl := hd165_0.v_out
   clear hd165_0
   obtain rfl := hd165_1.v_out
   clear hd165_1
   obtain rfl := hd165_2.v_out
   clear hd165_2
   obtain rfl := hd165_3.v_out
   clear hd165_3
   obtain rfl := hd165_4.v_out
   clear hd165_4
   obtain ⟨p166, c166, hv166, hc166⟩ := hd165_5.ns_shape; subst hv166
   have m166 := m165.dat 407 rfl (hd165_5.cast (fun _ h => (free_add rfl h))); clear m165 hd165_5
   obtain rfl := hd165_6.v_out
   clear hd165_6
   obtain rfl := hd165_7.v_out
   clear hd165_7
   obtain rfl := hd165_8.v_out
   clear hd165_8
   obtain ⟨p167, c167, hv167, hc167⟩ := hd165_9.l_shape; subst hv167
   have m167 := m166.dat 408 rfl (hd165_9.cast (fun _ h => (free_add rfl (free_add rfl h)))); clear m166 hd165_9
   refine goCh Hz (.c rfl (fun _ h => y_idx h rfl rfl U31 fct3 (j) rfl hjr) <| .fieldAddrQ 0 rfl U57 rfl (s := 0) (by kernel_rfl) rfl <| .loadC0 m167 (i := 406) rfl rfl U3 rfl <| .eql rfl rfl <| .move rfl <| .nil) ?_
   clear Hz Az; intro Az Hz
   refine bool_cases Hz (t := 155) rfl ?_ ?_
   ·
    clear Hz; intro hb173 Hz; try simp only [QQ, Qax] at hb173
    have hk6 : c9.kd = 6 := by have := hb173; simpa using this
    refine goCh Hz (.moveZ rfl <| .remZ rfl rfl (by decide) (r := (tq : Int)) htq <| .eqlZ rfl rfl <| .pickT rfl rfl <| .nil) ?_
    clear Hz Az; intro Az Hz
    refine nl (hK20 _ _ ?_); clear hK20
    refine bool_cases Hz (t := 159) rfl ?_ ?_
    ·
     clear Hz; intro hb178 Hz; try simp only [QQ, Qax] at hb178
     refine wp_cond_true (Hz.ev (x := .tmp 159) rfl) ?_
     replace Hz : Has 215 [(1, _), (3, _), (4, _), (11, _), (13, _), (15, _), (16, _), (19, _), (20, _), (21, _), (22, _)] Az := Hz.only [1, 3, 4, 11, 13, 15, 16, 19, 20, 21, 22]
     refine sr fun K21 hK21 => ?_
     refine goCh Hz (.move rfl <| .move rfl <| .nil) ?_
     clear Hz Az; intro Az Hz
     have m184 := m167.dat 409 rfl (m167.rd (i := 403) rfl); clear m167
     refine wpList_plain rfl (fun K hK => ?_)
     refine e_call Hz Try.func19 rfl rfl rfl rfl (rapply_twice _ _ hP (J + j) c9 (by rw [hcs]; exact hesJ) hk6 _ _ _ _ _ (m184.into [(1, 8), (2, 10), (3, 409)] (by decide) rfl)) ?_
     rintro e w185 ⟨rl1, rf1, rn1, p185, c185, rfl, hm185⟩
     have mx185 := m184.back hm185 [(8, 1), (10, 2)] (by decide); clear hm185 m184
     have m185 : MemOk _ _ [(8, _), (10, _), (1, _), (2, _), (7, _), (9, _), (400, _), (401, _), (402, _), (403, _), (405, _), (406, _), (407, _), (408, _)] _ := mx185.only [8, 10, 1, 2, 7, 9, 400, 401, 402, 403, 405, 406, 407, 408]; clear mx185
     refine ⟨_, rfl, ?_⟩; clear Hz Az; intro Az Hz
     refine hK _ _ ?_; clear hK
     refine wpList_plain rfl (fun K hK => ?_)
     refine e_alloc Hz m185 410 fct8 rfl ?_
     clear Hz Az m185; intro g187 Az w188 Hz m188 hB188 hg188
     clear hB188 hg188
     refine hK _ _ ?_; clear hK
     refine wpList_plain rfl (fun K hK => ?_)
     refine e_storeW Hz m188 410 rfl rfl rfl rfl rfl fct4 ?_
     clear m188; intro w189 m189 hB189
     clear hB189
     refine hK _ _ ?_; clear hK
     refine nl (hK21 _ _ ?_); clear hK21
     refine regS Hz (.fa 0 rfl U59 <| .lb m189 410 U32 rfl rfl rfl <| .neq rfl rfl <| .nil) ?_
     clear Hz Az; intro Az Hz
     refine bool_cases Hz (t := 165) rfl ?_ ?_
     · intro hb _; exact absurd hb (by first | (simp; done) | (simp; omega) | (rw [decide_eq_true_eq]; omega))
     clear Hz; intro _ Hz
     refine wp_cond_false (Hz.ev (x := .tmp 165) rfl) ?_
     refine ss (hK16 _ _ ?_); clear hK16
     replace Hz : Has 215 [(1, _), (3, _), (4, _), (11, _), (13, _), (15, _), (16, _), (19, _), (20, _), (21, _)] Az := Hz.only [1, 3, 4, 11, 13, 15, 16, 19, 20, 21]
     refine wp_region_lit ?_
     refine goCh Hz (.move rfl <| .add rfl rfl (r := ((j + 1 : Nat) : Int)) (by rw [IntWalk.i64_in _ (by omega)]; omega) <| .assign rfl <| .nil) ?_
     clear Hz Az; intro Az Hz
     refine wpList_nil ?_
     show ∃ n', n' < _ ∧ _
     exact ⟨mo - (j + 1), by omega, j + 1, _, _, _, _, _, _, _, _, _, _, by omega, rfl, Hz.only [1, 3, 4, 11, 13, 15, 16, 19, 20, 21], m189.ren [(1, 1), (2, 2), (7, 7), (8, 8), (10, 10), (9, 9)] (by decide)⟩
    clear Hz; intro hb178 Hz; try simp only [QQ, Qax] at hb178
    refine wp_cond_false (Hz.ev (x := .tmp 159) rfl) ?_
    refine ss (hK16 _ _ ?_); clear hK16
    replace Hz : Has 215 [(1, _), (3, _), (4, _), (11, _), (13, _), (15, _), (16, _), (19, _), (20, _), (21, _)] Az := Hz.only [1, 3, 4, 11, 13, 15, 16, 19, 20, 21]
    refine wp_region_lit ?_
    refine goCh Hz (.move rfl <| .add rfl rfl (r := ((j + 1 : Nat) : Int)) (by rw [IntWalk.i64_in _ (by omega)]; omega) <| .assign rfl <| .nil) ?_
    clear Hz Az; intro Az Hz
    refine wpList_nil ?_
    show ∃ n', n' < _ ∧ _
    exact ⟨mo - (j + 1), by omega, j + 1, _, _, _, _, _, _, _, _, _, _, by omega, rfl, Hz.only [1, 3, 4, 11, 13, 15, 16, 19, 20, 21], m167.ren [(1, 1), (2, 2), (7, 7), (8, 8), (10, 10), (9, 9)] (by decide)⟩
   clear Hz; intro hb173 Hz; try simp only [QQ, Qax] at hb173
   refine goCh Hz (.sk <| .sk <| .sk <| .pickF rfl rfl <| .nil) ?_
   clear Hz Az; intro Az Hz
   refine nl (hK20 _ _ ?_); clear hK20
   refine wp_cond_false (Hz.ev (x := .tmp 159) rfl) ?_
   refine ss (hK16 _ _ ?_); clear hK16
   replace Hz : Has 215 [(1, _), (3, _), (4, _), (11, _), (13, _), (15, _), (16, _), (19, _), (20, _), (21, _)] Az := Hz.only [1, 3, 4, 11, 13, 15, 16, 19, 20, 21]
   refine wp_region_lit ?_
   refine goCh Hz (.move rfl <| .add rfl rfl (r := ((j + 1 : Nat) : Int)) (by rw [IntWalk.i64_in _ (by omega)]; omega) <| .assign rfl <| .nil) ?_
   clear Hz Az; intro Az Hz
   refine wpList_nil ?_
   show ∃ n', n' < _ ∧ _
   exact ⟨mo - (j + 1), by omega, j + 1, _, _, _, _, _, _, _, _, _, _, by omega, rfl, Hz.only [1, 3, 4, 11, 13, 15, 16, 19, 20, 21], m167.ren [(1, 1), (2, 2), (7, 7), (8, 8), (10, 10), (9, 9)] (by decide)⟩
  clear Hz; intro hb125 Hz; try simp only [QQ, Qax] at hb125
  have hjm : j = mo := by have := hb125; first | omega | (simp at this; omega)
  rw [hjm] at m121
  refine wp_cond_false (Hz.ev (x := .tmp 132) rfl) ?_
  refine wp_exit ?_
  refine hK10 _ _ ?_; clear hK10
  refine wp_region_lit ?_
  refine goCh Hz (.move rfl <| .add rfl rfl (r := ((i + 1 : Nat) : Int)) (by rw [IntWalk.i64_in _ (by omega)]; omega) <| .assign rfl <| .nil) ?_
  clear Hz Az; intro Az Hz
  refine wpList_nil ?_
  show ∃ n', n' < _ ∧ _
  exact ⟨l2.length + 1 - (i + 1), by omega, i + 1, J + mo, _, _, _, _, _, _, _, _, by omega, rfl, by omega, (fun h => by have := hmo2 (by omega); omega), Hz.only [1, 3, 4, 11, 13, 15, 16], m121.ren [(1, 1), (2, 2), (7, 7), (8, 8), (10, 10)] (by decide)⟩
 clear Hz; intro hb86 Hz; try simp only [QQ, Qax] at hb86
 have hJE : J = T + 2 := hJe (by have := hb86; first | omega | (simp at this; omega))
 obtain ⟨x, hxE, hxm, hxv, hxh, hxf, hxl, hxS9, hxS⟩ := hP.last2
 rw [hJE, hxm] at m81
 refine wp_cond_false (Hz.ev (x := .tmp 73) rfl) ?_
 refine wp_exit ?_
 refine hK8 _ _ ?_; clear hK8
 refine sr fun K23 hK23 => ?_
 refine goCh Hz (.move rfl <| .move rfl <| .rem rfl rfl (by decide) (r := (kq : Int)) hkq <| .conv rfl U5 U3 (r := (kq : Int)) (IntWalk.i64_in _ (by omega)) <| .nil) ?_
 clear Hz Az; intro Az Hz
 refine wpList_plain rfl (fun K hK => ?_)
 refine e_call Hz Try.func13 rfl rfl rfl rfl (rvolume_b _ _ x _ false _ _ _ hxv hxh (m81.into [(1, 8), (2, 10)] (by decide) rfl)) ?_
 rintro e w287 ⟨p1287, p2287, p3287, d1287, d2287, d3287, rfl, hm287⟩
 have mx287 := m81.back hm287 [(8, 1), (10, 2), (100, 3), (101, 4), (102, 5)] (by decide); clear hm287 m81
 have m287 : MemOk _ _ [(8, _), (10, _), (100, _), (101, _), (102, _), (1, _), (2, _), (7, _)] _ := mx287.only [8, 10, 100, 101, 102, 1, 2, 7]; clear mx287
 refine ⟨_, rfl, ?_⟩; clear Hz Az; intro Az Hz
 refine hK _ _ ?_; clear hK
 refine goCh Hz (.move rfl <| .extract rfl rfl <| .extract rfl rfl <| .nil) ?_
 clear Hz Az; intro Az Hz
 refine wpList_plain rfl (fun K hK => ?_)
 refine e_alloc Hz m287 103 fct7 rfl ?_
 clear Hz Az m287; intro g292 Az w293 Hz m293 hB293 hg293
 clear hB293 hg293
 refine hK _ _ ?_; clear hK
 refine wpList_plain rfl (fun K hK => ?_)
 refine e_storeW Hz m293 103 rfl rfl rfl rfl rfl fct2 ?_
 clear m293; intro w294 m294 hB294
 clear hB294
 refine hK _ _ ?_; clear hK
 refine goCh Hz (.assign rfl .nil) ?_
 clear Hz Az; intro Az Hz
 refine nl (hK23 _ _ ?_); clear hK23
 refine wp_seq_k (fun K24 hK24 => ?_)
 refine wp_seq_k (fun K25 hK25 => ?_)
 replace Hz : Has 215 [(1, _), (3, _), (4, _), (11, _), (13, _), (15, _), (16, _), (26, _), (27, _)] Az := Hz.only [1, 3, 4, 11, 13, 15, 16, 26, 27]
 have m297 : MemOk _ _ [(1, _), (2, _), (7, _), (8, _), (10, _), (100, _), (101, _), (102, _), (103, _)] _ := m294.only [1, 2, 7, 8, 10, 100, 101, 102, 103]; clear m294
 refine region_p 19 (B := [(1, _), (2, _), (7, _), (8, _), (10, _), (100, _), (101, _), (102, _), (103, _)]) (m297.to ⟨il, il, il, il, il, il, il, il, il, trivial⟩) m297 (by kernel_rfl) (fun w298 hP298 m298 => ?_); clear m297
 refine goR hP298 [0, 1, 2, 3, 4, 5, 6, 7, 8] [4, 8] 9 0 511 Hz (m298.to ⟨il, il, il, il, il, il, il, il, il, trivial⟩) (.move rfl <| .not rfl <| .move rfl <| .fa 7 rfl U49 <| .lb hh 103 U4 rfl rfl rfl <| .pickF rfl rfl <| .move rfl <| .move rfl <| .loadBR hh (i := 103) rfl rfl U49 rfl fct2 (by simp) (by dsimp only [List.drop, List.take] <;> rfl) <| .nil) ?_
 clear Hz Az; intro Az Hz
 refine stepE_only 9 rfl (by kernel_rfl) (wantedG Hz rfl rfl rfl rfl) (fun K hK => ?_)
 refine e_call Hz Try.func16 rfl rfl rfl rfl (done_x hP x hxE _ hcs _ _ _ ((m298.rd (i := 7) rfl).any) _ _ _ _ _ _ ((m298.rd (i := 100) rfl).any) ((m298.rd (i := 102) rfl).any)) ?_
 rintro e w308 ⟨rfl, hb308⟩
 have m309 := m298.later hb308
 clear m298
 clear hb308
 refine ⟨_, rfl, ?_⟩; clear Hz Az; intro Az Hz
 refine hK _ _ (m309.to ⟨il, il, il, il, il, il, il, il, il, trivial⟩) ?_; clear hK K
 refine goR hP298 [10, 11, 12, 13, 14, 15] [14, 15] 6 1023 65535 Hz (m309.to ⟨il, il, il, il, il, il, il, il, il, trivial⟩) (.not rfl <| .pickF rfl rfl <| .move rfl <| .fa 8 rfl U49 <| .lb hh 103 U2 rfl rfl rfl <| .loadBR hh (i := 103) rfl rfl U49 rfl fct2 (by simp) (by dsimp only [List.drop, List.take] <;> rfl) <| .nil) ?_
 clear Hz Az; intro Az Hz
 refine stepE_only 16 rfl (by kernel_rfl) (wantedG Hz rfl rfl rfl rfl) (fun K hK => ?_)
 refine e_call Hz Try.func20 rfl rfl rfl rfl (rlen_w _ _ _ _ _ _ _ _ _ _ _ _ _ _ _ x.ws _ _) ?_
 rintro e w317 ⟨rfl, hb317⟩
 have m318 := m309.later hb317
 clear m309
 clear hb317
 refine ⟨_, rfl, ?_⟩; clear Hz Az; intro Az Hz
 refine hK _ _ (m318.to ⟨il, il, il, il, il, il, il, il, il, trivial⟩) ?_; clear hK K
 refine goA hP298 [17, 18] 2 131071 524287 Hz (m318.to ⟨il, il, il, il, il, il, il, il, il, trivial⟩) (.neq rfl rfl <| .pickF rfl rfl <| .nil) ?_
 clear Hz Az; intro Az Hz
 refine wpAnyE_done (by kernel_rfl) ?_ _
 refine hK25 _ _ ?_; clear hK25
 refine bool_cases Hz (t := 192) rfl ?_ ?_
 · intro hb _; exact absurd hb (by first | (simp; done) | (simp; omega) | (rw [decide_eq_true_eq]; omega))
 clear Hz; intro _ Hz
 refine wp_cond_false (Hz.ev (x := .tmp 192) rfl) ?_
 refine ss (hK24 _ _ ?_); clear hK24
 refine wp_seq_k (fun K26 hK26 => ?_)
 replace Hz : Has 215 [(1, _), (3, _), (4, _), (11, _), (13, _), (15, _), (16, _), (26, _)] Az := Hz.only [1, 3, 4, 11, 13, 15, 16, 26]
 have m324 : MemOk _ _ [(1, _), (2, _), (7, _), (8, _), (10, _), (100, _), (101, _), (102, _), (103, _)] _ := m318.only [1, 2, 7, 8, 10, 100, 101, 102, 103]; clear m318
 refine region_p 9 (B := [(1, _), (2, _), (7, _), (8, _), (10, _), (100, _), (101, _), (102, _), (103, _)]) (m324.to ⟨il, il, il, il, il, il, il, il, il, trivial⟩) m324 (by kernel_rfl) (fun w325 hP325 m325 => ?_); clear m324
 refine goR hP325 [0, 1] [0, 1] 2 0 3 Hz (m325.to ⟨il, il, il, il, il, il, il, il, il, trivial⟩) (.loadBR hh (i := 103) rfl rfl U49 rfl fct2 (by simp) (by dsimp only [List.drop, List.take] <;> rfl) <| .loadBR hh (i := 103) rfl rfl U49 rfl fct2 (by simp) (by dsimp only [List.drop, List.take] <;> rfl) <| .nil) ?_
 clear Hz Az; intro Az Hz
 refine stepE_only 2 rfl (by kernel_rfl) rfl (fun K hK => ?_)
 refine e_call Hz Try.func20 rfl rfl rfl rfl (rlen_w _ _ _ _ _ _ _ _ _ _ _ _ _ _ _ x.ws _ _) ?_
 rintro e w328 ⟨rfl, hb328⟩
 have m329 := m325.later hb328
 clear m325
 clear hb328
 refine ⟨_, rfl, ?_⟩; clear Hz Az; intro Az Hz
 refine hK _ _ (m329.to ⟨il, il, il, il, il, il, il, il, il, trivial⟩) ?_; clear hK K
 refine stepE_only 3 rfl (by kernel_rfl) rfl (fun K hK => ?_)
 refine e_call Hz Try.func21 rfl rfl rfl rfl (rstate_b _ x _ false hxh hxS9 (by omega) _ _ _ _ _ _ x.fl _ x.ws.length rfl _ (fun b hb => (List.not_mem_nil (a := b)) hb) (by omega) (Nat.le_refl _) (m329.into [(3, 102)] (by decide) rfl)) ?_
 rintro e w331 ⟨p331, c331, rfl, hm331⟩
 have mx331 := m329.back hm331 [(102, 3), (104, 9)] (by decide); clear hm331 m329
 have m331 : MemOk _ _ [(102, _), (104, _), (1, _), (2, _), (7, _), (8, _), (10, _), (100, _), (101, _), (103, _)] _ := mx331.only [102, 104, 1, 2, 7, 8, 10, 100, 101, 103]; clear mx331
 refine ⟨_, rfl, ?_⟩; clear Hz Az; intro Az Hz
 refine hK _ _ (m331.to ⟨il, il, il, il, il, il, il, il, il, trivial⟩) ?_; clear hK K
 rw [hxS] at m331 Hz
 refine goA hP325 [4, 5, 6, 7, 8] 5 15 511 Hz (m331.to ⟨il, il, il, il, il, il, il, il, il, trivial⟩) (.move rfl <| .extract rfl rfl <| .extract rfl rfl <| .assign rfl <| .assign rfl <| .nil) ?_
 clear Hz Az; intro Az Hz
 refine wpAnyE_done (by kernel_rfl) ?_ _
 refine hK26 _ _ ?_; clear hK26
 replace Hz : Has 215 [(1, _), (3, _), (4, _), (11, _), (13, _), (15, _), (16, _), (26, _), (28, _), (29, _)] Az := Hz.only [1, 3, 4, 11, 13, 15, 16, 26, 28, 29]
 refine sr fun K27 hK27 => ?_
 refine goCh Hz (.move rfl <| .eql rfl rfl <| .move rfl <| .nil) ?_
 clear Hz Az; intro Az Hz
 refine bool_cases Hz (t := 202) rfl ?_ ?_
 rotate_left
 · intro hb _; exact absurd hb (by first | (simp; done) | (simp; omega) | (rw [decide_eq_true_eq]; omega))
 clear Hz; intro _ Hz
 refine goCh Hz (.moveZ rfl <| .loadBRZ m331 (i := 1) rfl rfl U24 rfl fct1 (by simp) (by dsimp only [List.drop, List.take] <;> rfl) <| .nil) ?_
 clear Hz Az; intro Az Hz
 refine st_ge Hz rfl rfl rfl rfl (fun K hK => ?_)
 refine e_call Hz Try.func23 rfl rfl rfl rfl (rblocks_s _ y.bl y.sz (-1) _ S _ _ _ hso rfl (m331.into [(3, 2)] (by decide) rfl)) ?_
 rintro e w348 ⟨p348, c348, rfl, hm348⟩
 have mx348 := m331.back hm348 [(2, 3), (105, 9)] (by decide); clear hm348 m331
 have m348 : MemOk _ _ [(2, _), (105, _), (1, _), (7, _), (8, _), (10, _), (100, _), (101, _), (102, _), (103, _), (104, _)] _ := mx348.only [2, 105, 1, 7, 8, 10, 100, 101, 102, 103, 104]; clear mx348
 refine ⟨_, rfl, ?_⟩; clear Hz Az; intro Az Hz
 refine hK _ _ ?_; clear hK
 refine st_ge Hz rfl rfl rfl rfl (fun K hK => ?_)
 refine e_call Hz Try.func22 rfl rfl rfl rfl (bodies_any S _ _ _ _ _ _ _ ((m348.rd (i := 104) rfl).any) ((m348.rd (i := 105) rfl).any) (by omega)) ?_
 rintro e w350 ⟨rfl, hb350⟩
 have m351 := m348.later hb350
 clear m348
 clear hb350
 refine ⟨_, rfl, ?_⟩; clear Hz Az; intro Az Hz
 refine hK _ _ ?_; clear hK
 refine goCh Hz (.pickT rfl rfl <| .move rfl <| .moveZ rfl <| .loadBRZ m351 (i := 103) rfl rfl U49 rfl fct2 (by simp) (by dsimp only [List.drop, List.take] <;> rfl) <| .nil) ?_
 clear Hz Az; intro Az Hz
 refine st_ge Hz rfl rfl rfl rfl (fun K hK => ?_)
 refine e_call Hz Try.func14 rfl rfl rfl rfl (rest_pub cs _ _ _ ((m351.rd (i := 7) rfl).any) (by omega) _ _ _ _ _ _ _ _ _ _ _ _ _ _ _ _) ?_
 rintro e w357 ⟨rfl, hb357⟩
 have m358 := m351.later hb357
 clear m351
 clear hb357
 refine ⟨_, rfl, ?_⟩; clear Hz Az; intro Az Hz
 refine hK _ _ ?_; clear hK
 refine goCh Hz (.lenZ rfl U31 <| .eqlZ rfl rfl <| .pickT rfl rfl <| .assign rfl <| .nil) ?_
 clear Hz Az; intro Az Hz
 refine nl (hK27 _ _ ?_); clear hK27
 refine wp_ret ?_
 try dsimp only [Exit.then, Exit.inBlock]
 refine (ret1 (fn := Try.f4) Hz rfl rfl ?_)
 exact ⟨by first | rfl | (simp; done), m358.below⟩
end Go.Proofs.Ytkdnhndjjfjppaa.K
