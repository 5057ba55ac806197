/- chunk: which chunks, which pushes may be; New, Read. -/
import Derived.Test.YteglmahnkfgelaaGreatChu2
import Derived.Test.YteglmahnkfgelaaGreatChuO
namespace Go.Proofs.YteglmahnkfgelaaGreat.K
open Go.ChangeShapes Go.WideShapes Go.ChangeAt Go.RowKit
set_option linter.unusedVariables false
set_option linter.unusedSimpArgs false
theorem fl88sho : flatS Tryz.prog 88 [.int .i64 0, .int .i64 0, .int .i64 0, .int .i64 0] = true := by kernel_rfl
theorem fl88psh : flatS Tryz.prog 88 [.int .i64 0, .int .i64 0, .int .i64 0, .int .i64 0] = true := by kernel_rfl
theorem fl39cnw : flatS Tryz.prog 39 [.int .i64 0, .int .i64 0, .int .i64 0, .int .i64 0, .int .i64 0, .int .i64 0, .slice none 0 0] = true := by kernel_rfl
section
variable {P : Program} {n : Nat} {T : List (Nat × Value)} {a : Act} {w w0 : World} {X : Cx} {M : Mm} {tt : TypeId} {pos : String} {af : Array Edge} {gd : Option (Nat × Bool)} {K : Act → World → Prop} {Q : Exit → Act → World → Prop}
theorem madeR (n : Nat) : (madeCells (Value.slice none 0 0).cells n).toList = List.replicate n (.slice none 0 0) := by
 unfold madeCells
 apply List.ext_getElem
 · simp
 intro i h1 h2
 simp [Value.cells, Nat.mod_one]
theorem e_makeR (ha : Has n T a) (m : MemOk X w0 M w) (i : Nat) {d : Tmp} {t e : TypeId} {x y : Operand} {kx ky : IntKind} {q q2 : Int} {bytes : Nat} (N mm : Nat) (hx : evT T x = some (.int kx q)) (hy : evT T y = some (.int ky q2)) (hq : q = N) (hq2 : q2 = N) (ht : P.underlying t = some (.slice e)) (hinf : (P.info? e).map (fun i => (i.zero, i.size, i.bytes)) = some (some (.slice none 0 0), 1, bytes)) (hb8 : bytes ≤ 1000) (hN : N ≤ 100000000) (hd : Nat.blt d n = true)
   (h : ∀ p c a' w', Has n ((d, .slice p N c) :: T) a' → MemOk X w0 ((i, .row (.slice p N c) e 1 (List.replicate N [D.l mm []])) :: M) w' → K a' w') : Oper.wp P ⟨some d, .makeSlice t x y, tt, pos, af, gd⟩ a w K Q := by
 obtain ⟨i0, hi, hz0, hz1, hz2⟩ := info_parts hinf
 subst hq; subst hq2
 have hby : N * bytes ≤ 100000000000 := Nat.mul_le_mul hN hb8
 have hby2 : (bytes : Int) * (N : Int) ≤ 281474976710656 := by
   rw [← Int.natCast_mul, Nat.mul_comm]; omega
 have hr := run_make (P := P) w t e i0 _ ht hi hz0 kx ky (N : Int) (N : Int) (by omega) (by omega) (by rw [hz2]; exact hby2) (by omega)
 rw [hz1, Nat.mul_one, Int.toNat_natCast] at hr
 have hrun : (execOp a.eval ⟨some d, .makeSlice t x y, tt, pos, af, gd⟩).run P w = .ok (.value (.slice (some ⟨w.heap.size, 0, none⟩) N N)) (w.alloc (.cells (madeCells (Value.slice none 0 0).cells N) e)) := by
   simp [execOp, ha.ev hx, ha.ev hy, hr]
 show Oper.upon P _ a K Q _
 rw [hrun]
 refine h _ _ _ _ (ha.put hd _) (m.newR i ((Below.refl _ w).alloc (Nat.le_refl _) _) ?_)
 have hfl : (List.replicate N [Value.slice none 0 0]).flatten = List.replicate N (Value.slice none 0 0) := by
   induction N with
   | zero => rfl
   | succ k ih => rw [List.replicate_succ, List.flatten_cons, List.replicate_succ]; simp
 refine ⟨List.replicate N [.slice none 0 0], ?_, by simp, fun c hc => ?_, fun r hr => ?_, fun j q c r x d a1 a2 a3 a4 => ?_⟩
 · rw [List.length_replicate, hfl]
   refine ⟨by simp, .inr ⟨w.heap.size, N, madeCells (Value.slice none 0 0).cells N, rfl, Nat.le_refl _, heap_alloc_new w _, Nat.le_refl _, by unfold maxLen; omega, by rw [size_madeCells, Nat.mul_one], ?_⟩⟩
   rw [madeR, Nat.mul_one, List.take_of_length_le (by simp)]
 · rw [List.eq_of_mem_replicate hc]; exact ⟨rfl, fun x hx => by rw [List.mem_singleton.1 hx]; rfl⟩
 · rw [List.eq_of_mem_replicate hr]; rfl
 have h1 := List.eq_of_mem_replicate (List.mem_of_getElem? a1)
 have h2 := List.eq_of_mem_replicate (List.mem_of_getElem? a2)
 subst h1; subst h2
 have h3 := List.mem_singleton.1 (List.mem_of_getElem? a3)
 have h4 := List.mem_singleton.1 (List.mem_of_getElem? a4)
 subst h3; subst h4
 exact .l0 none 0 mm
end
def ShOk (vo ch cn sz : Int) : Prop := (0 ≤ vo ∧ vo ≤ 7) ∧ (0 ≤ ch ∧ ch ≤ 255) ∧ (1 ≤ cn ∧ cn ≤ 256) ∧ (1 ≤ sz ∧ sz ≤ 32)
def WPre (fr to cn sz : Int) (W : List (Int × List (Int × List Int))) (k : Nat) : Prop := ∀ j, j < k → (if j = 0 then fr else (W.getD (j - 1) w1).1) < (W.getD j w1).1 ∧ (W.getD j w1).1 ≤ to ∧ ItemsR cn sz (W.getD j w1).2
def PuOk (vo ch cn sz fr to fl : Int) (W : List (Int × List (Int × List Int))) : Prop := ShOk vo ch cn sz ∧ (0 ≤ to ∧ to ≤ 1099511627776) ∧ (0 ≤ fr ∧ fr ≤ to) ∧ (0 ≤ fl ∧ fl ≤ to) ∧ W.length ≤ 4 ∧ WPre fr to cn sz W W.length
theorem WPre.snoc {fr to cn sz : Int} {W : List (Int × List (Int × List Int))} {k : Nat} {xs : Int} {xl : List (Int × List Int)} (hp : WPre fr to cn sz W k) (hes : W[k]? = some (xs, xl)) (h1 : (if k = 0 then fr else (W.getD (k - 1) w1).1) < xs) (h2 : xs ≤ to) (h3 : ItemsR cn sz xl) : WPre fr to cn sz W (k + 1) := fun j hj => by
 rcases Nat.lt_or_ge j k with h9 | h9
 · exact hp j h9
 obtain rfl : j = k := by omega
 rw [show W.getD j w1 = (xs, xl) by rw [List.getD, hes]; rfl]
 exact ⟨h1, h2, h3⟩
def HOk (sz mk fl : Int) (h : List Ver) : Prop := RPre h h.length ∧ (pruneF h fl).length = h.length ∧ ∀ j, j < h.length → (h.getD j v0).1 ≤ mk ∧ ((h.getD j v0).2.length : Int) = sz
def ChOk (vo ch cn sz mk fl : Int) (H : List (List Ver)) : Prop := ShOk vo ch cn sz ∧ (0 ≤ mk ∧ mk ≤ 1099511627776) ∧ (0 ≤ fl ∧ fl ≤ mk) ∧ (H.length : Int) = cn ∧ ∀ j, j < H.length → HOk sz mk fl (H.getD j [])
set_option maxRecDepth 100000
set_option maxHeartbeats 4000000
theorem cwithin_x (n lo hi : Int) (w0 : World) : Calls Tryz.prog 64 #[.int .i64 n, .int .i64 lo, .int .i64 hi] w0 fun e w' => e = .returned (.bool (decide (lo ≤ n ∧ n ≤ hi))) ∧ Below w0.heap.size w0 w' := by
 refine ent3 Tryz.func64 rfl Tryz.ntmps64 fun Az Hz => ?_
 have m0 := MemOk.start (fun _ => False) w0
 refine regS Hz (.assign rfl .nil) fun Az Hz => ?_
 refine zsr fun K0 hK0 => ?_
 refine goCh Hz (.move rfl <| .move rfl <| .geq rfl rfl <| .move rfl .nil) fun Az Hz => ?_
 refine bc Hz 10 ?_ ?_
 ·
  intro hb10 Hz; try simp only [QQ, Qax] at hb10
  refine gz hK0 Hz (.moveZ rfl <| .moveZ rfl <| .leqZ rfl rfl <| .pickT rfl rfl <| .assign rfl <| .nil) fun Az Hz => ?_
  refine rt1 Hz ?_
  exact ⟨by first | rfl | (simp_all; done) | (simp_all; omega), m0.below⟩
 intro hb10 Hz; try simp only [QQ, Qax] at hb10
 refine gz hK0 Hz (.sk <| .sk <| .sk <| .pickF rfl rfl <| .assign rfl <| .nil) fun Az Hz => ?_
 refine rt1 Hz ?_
 exact ⟨by first | rfl | (simp_all; done) | (simp_all; omega), m0.below⟩
theorem cwithin6_x (n lo hi : Int) (w0 : World) : Calls Tryz.prog 46 #[.int .i64 n, .int .i64 lo, .int .i64 hi] w0 fun e w' => e = .returned (.bool (decide (lo ≤ n ∧ n ≤ hi))) ∧ Below w0.heap.size w0 w' := by
 refine ent3 Tryz.func46 rfl Tryz.ntmps46 fun Az Hz => ?_
 have m0 := MemOk.start (fun _ => False) w0
 refine regS Hz (.assign rfl .nil) fun Az Hz => ?_
 refine zsr fun K0 hK0 => ?_
 refine goCh Hz (.move rfl <| .move rfl <| .geq rfl rfl <| .move rfl .nil) fun Az Hz => ?_
 refine bc Hz 10 ?_ ?_
 ·
  intro hb10 Hz; try simp only [QQ, Qax] at hb10
  refine gz hK0 Hz (.moveZ rfl <| .moveZ rfl <| .leqZ rfl rfl <| .pickT rfl rfl <| .assign rfl <| .nil) fun Az Hz => ?_
  refine rt1 Hz ?_
  exact ⟨by first | rfl | (simp_all; done) | (simp_all; omega), m0.below⟩
 intro hb10 Hz; try simp only [QQ, Qax] at hb10
 refine gz hK0 Hz (.sk <| .sk <| .sk <| .pickF rfl rfl <| .assign rfl <| .nil) fun Az Hz => ?_
 refine rt1 Hz ?_
 exact ⟨by first | rfl | (simp_all; done) | (simp_all; omega), m0.below⟩
theorem shapeof_x (vo ch cn sz mk fl : Int) (vH : Value) (w0 : World) : Calls Tryz.prog 52 #[.agg #[.int .i64 vo, .int .i64 ch, .int .i64 cn, .int .i64 sz, .int .i64 mk, .int .i64 fl, vH]] w0 fun e w' => e = .returned (.agg #[.int .i64 vo, .int .i64 ch, .int .i64 cn, .int .i64 sz]) ∧ Below w0.heap.size w0 w' := by
 refine ent1 Tryz.func52 rfl Tryz.ntmps52 fun Az Hz => ?_
 have m0 := MemOk.start (fun _ => False) w0
 refine zsr fun K0 hK0 => ?_
 refine plz (e_box Hz m0 20 (cs := [_, _, _, _, _, _, _]) rfl rfl rfl fun g1 Az w2 Hz m2 _ _ => ?_)
 refine plz (e_alloc Hz m2 21 fct2 rfl fun g3 Az w4 Hz m4 _ _ => ?_)
 refine znl (hK0 _ _ ?_)
 refine zsr fun K1 hK1 => ?_
 refine goCh Hz (.fa 0 rfl U39 <| .lb m4 20 U3 rfl rfl rfl <| .fa 1 rfl U39 <| .lb m4 20 U3 rfl rfl rfl <| .fa 2 rfl U39 <| .lb m4 20 U3 rfl rfl rfl <| .fa 3 rfl U39 <| .lb m4 20 U3 rfl rfl rfl <| .build rfl fct2 fl88sho rfl (by dsimp only [setL, List.set] <;> rfl) .nil) fun Az Hz => ?_
 refine plz (stw Hz m4 21 fct1 fun w23 m23 _ => ?_)
 refine znl (hK1 _ _ ?_)
 refine rtd (retC (fn := Tryz.f52) Hz m23 (i := 21) rfl rfl rfl U88 rfl fct1 ?_)
 exact ⟨rfl, m23.below⟩
theorem pshape_x (vo ch cn sz fr to fl : Int) (pw : Option Addr) (nw cw : Nat) (w0 : World) : Calls Tryz.prog 44 #[.agg #[.int .i64 vo, .int .i64 ch, .int .i64 cn, .int .i64 sz, .int .i64 fr, .int .i64 to, .int .i64 fl, .slice pw nw cw]] w0 fun e w' => e = .returned (.agg #[.int .i64 vo, .int .i64 ch, .int .i64 cn, .int .i64 sz]) ∧ Below w0.heap.size w0 w' := by
 refine ent1 Tryz.func44 rfl Tryz.ntmps44 fun Az Hz => ?_
 have m0 := MemOk.start (fun _ => False) w0
 refine zsr fun K0 hK0 => ?_
 refine plz (e_box Hz m0 20 (cs := [_, _, _, _, _, _, _, _]) rfl rfl rfl fun g1 Az w2 Hz m2 _ _ => ?_)
 refine plz (e_alloc Hz m2 21 fct2 rfl fun g3 Az w4 Hz m4 _ _ => ?_)
 refine znl (hK0 _ _ ?_)
 refine zsr fun K1 hK1 => ?_
 refine goCh Hz (.fa 0 rfl U25 <| .lb m4 20 U3 rfl rfl rfl <| .fa 1 rfl U25 <| .lb m4 20 U3 rfl rfl rfl <| .fa 2 rfl U25 <| .lb m4 20 U3 rfl rfl rfl <| .fa 3 rfl U25 <| .lb m4 20 U3 rfl rfl rfl <| .build rfl fct2 fl88psh rfl (by dsimp only [setL, List.set] <;> rfl) .nil) fun Az Hz => ?_
 refine plz (stw Hz m4 21 fct1 fun w23 m23 _ => ?_)
 refine znl (hK1 _ _ ?_)
 refine rtd (retC (fn := Tryz.f44) Hz m23 (i := 21) rfl rfl rfl U88 rfl fct1 ?_)
 exact ⟨rfl, m23.below⟩
theorem sright_x (vo ch cn sz : Int) (w0 : World) : Calls Tryz.prog 45 #[.agg #[.int .i64 vo, .int .i64 ch, .int .i64 cn, .int .i64 sz]] w0 fun e w' => ∃ b : Bool, e = .returned (.bool b) ∧ (b = true ↔ ShOk vo ch cn sz) ∧ Below w0.heap.size w0 w' := by
 refine ent1 Tryz.func45 rfl Tryz.ntmps45 fun Az Hz => ?_
 have m0 := MemOk.start (fun _ => False) w0
 refine zsr fun K0 hK0 => ?_
 refine plz (e_box Hz m0 20 (cs := [_, _, _, _]) rfl rfl rfl fun g1 Az w2 Hz m2 _ _ => ?_)
 refine gz hK0 Hz (.assign rfl .nil) fun Az Hz => ?_
 refine zsr fun K1 hK1 => ?_
 refine goCh Hz (.fa 0 rfl U88 <| .lb m2 20 U3 rfl rfl rfl .nil) fun Az Hz => ?_
 refine plz (ecb Hz Tryz.func64 rfl m2 (cwithin_x _ _ _ _) fun Az w8 Hz m9 => ?_)
 refine goCh Hz (.move rfl .nil) fun Az Hz => ?_
 refine bc Hz 6 ?_ ?_
 ·
  intro hb12 Hz; try simp only [QQ, Qax] at hb12
  refine goCh Hz (.faZ 1 rfl U88 <| .loadB1Z m9 (i := 20) rfl rfl rfl U3 rfl .nil) fun Az Hz => ?_
  refine stz Hz (ecb Hz Tryz.func64 rfl m9 (cwithin_x _ _ _ _) fun Az w15 Hz m16 => ?_)
  refine goCh Hz (.pickT rfl rfl <| .move rfl .nil) fun Az Hz => ?_
  refine bc Hz 11 ?_ ?_
  ·
   intro hb20 Hz; try simp only [QQ, Qax] at hb20
   refine goCh Hz (.faZ 2 rfl U88 <| .loadB1Z m16 (i := 20) rfl rfl rfl U3 rfl .nil) fun Az Hz => ?_
   refine stz Hz (ecb Hz Tryz.func64 rfl m16 (cwithin_x _ _ _ _) fun Az w23 Hz m24 => ?_)
   refine goCh Hz (.pickT rfl rfl <| .move rfl .nil) fun Az Hz => ?_
   refine bc Hz 16 ?_ ?_
   ·
    intro hb28 Hz; try simp only [QQ, Qax] at hb28
    refine goCh Hz (.faZ 3 rfl U88 <| .loadB1Z m24 (i := 20) rfl rfl rfl U3 rfl .nil) fun Az Hz => ?_
    refine stz Hz (ecb Hz Tryz.func64 rfl m24 (cwithin_x _ _ _ _) fun Az w31 Hz m32 => ?_)
    refine gz hK1 Hz (.pickT rfl rfl <| .assign rfl <| .nil) fun Az Hz => ?_
    refine rt1 Hz ?_
    exact ⟨_, rfl, by first | (simp [ShOk] at *; omega) | (unfold ShOk; simp_all; omega) | (unfold ShOk; simp_all), m32.below⟩
   intro hb28 Hz; try simp only [QQ, Qax] at hb28
   refine gz hK1 Hz (.sk <| .sk <| .sk <| .pickF rfl rfl <| .assign rfl <| .nil) fun Az Hz => ?_
   refine rt1 Hz ?_
   exact ⟨_, rfl, by first | (simp [ShOk] at *; omega) | (unfold ShOk; simp_all; omega) | (unfold ShOk; simp_all), m24.below⟩
  intro hb20 Hz; try simp only [QQ, Qax] at hb20
  refine gz hK1 Hz (.sk <| .sk <| .sk <| .pickF rfl rfl <| .move rfl <| .sk <| .sk <| .sk <| .pickF rfl rfl <| .assign rfl <| .nil) fun Az Hz => ?_
  refine rt1 Hz ?_
  exact ⟨_, rfl, by first | (simp [ShOk] at *; omega) | (unfold ShOk; simp_all; omega) | (unfold ShOk; simp_all), m16.below⟩
 intro hb12 Hz; try simp only [QQ, Qax] at hb12
 refine gz hK1 Hz (.sk <| .sk <| .sk <| .pickF rfl rfl <| .move rfl <| .sk <| .sk <| .sk <| .pickF rfl rfl <| .move rfl <| .sk <| .sk <| .sk <| .pickF rfl rfl <| .assign rfl <| .nil) fun Az Hz => ?_
 refine rt1 Hz ?_
 exact ⟨_, rfl, by first | (simp [ShOk] at *; omega) | (unfold ShOk; simp_all; omega) | (unfold ShOk; simp_all), m9.below⟩
theorem cnew_x (X : Cx) (vo ch sz fr to fl : Int) (n9 : Nat) (pw : Option Addr) (nw cw : Nat) (w0 : World) (hn : n9 ≤ 256) (m0 : MemOk X w0 [] w0) :
   Calls Tryz.prog 21 #[.agg #[.int .i64 vo, .int .i64 ch, .int .i64 n9, .int .i64 sz, .int .i64 fr, .int .i64 to, .int .i64 fl, .slice pw nw cw]] w0 fun e w' => ∃ (p9 : Option Addr) (c9 : Nat), e = .returned (.agg #[.int .i64 vo, .int .i64 ch, .int .i64 n9, .int .i64 sz, .int .i64 0, .int .i64 0, .slice p9 n9 c9]) ∧ MemOk X w0 [(9, .row (.slice p9 n9 c9) 94 1 ((List.replicate n9 ([] : List Ver)).map hD))] w' := by
 refine ent1 Tryz.func21 rfl Tryz.ntmps21 fun Az Hz => ?_
 refine zsr fun K0 hK0 => ?_
 refine plz (e_box Hz m0 20 (cs := [_, _, _, _, _, _, _, _]) rfl rfl rfl fun g1 Az w2 Hz m2 _ _ => ?_)
 refine plz (e_alloc Hz m2 21 fct6 rfl fun g3 Az w4 Hz m4 _ _ => ?_)
 refine znl (hK0 _ _ ?_)
 refine zsr fun K1 hK1 => ?_
 refine goCh Hz (.fa 0 rfl U25 <| .lb m4 20 U3 rfl rfl rfl <| .fa 1 rfl U25 <| .lb m4 20 U3 rfl rfl rfl <| .fa 2 rfl U25 <| .lb m4 20 U3 rfl rfl rfl <| .fa 3 rfl U25 <| .lb m4 20 U3 rfl rfl rfl <| .build rfl fct6 fl39cnw rfl (by dsimp only [setL, List.set] <;> rfl) .nil) fun Az Hz => ?_
 refine plz (e_alloc Hz m4 22 fct6 rfl fun g23 Az w24 Hz m24 _ _ => ?_)
 refine plz (stw Hz m24 22 fct5 fun w25 m25 _ => ?_)
 refine znl (hK1 _ _ ?_)
 refine wsk fun K2 hK2 => ?_
 replace Hz := Hz.oz [1, 2, 3]
 refine zsr fun K3 hK3 => ?_
 refine goCh Hz (.fa 2 rfl U25 <| .lb m25 20 U3 rfl rfl rfl .nil) fun Az Hz => ?_
 refine plz (ecb Hz Tryz.func64 rfl m25 (cwithin_x _ _ _ _) fun Az w31 Hz m32 => ?_)
 refine znl (hK3 _ _ ?_)
 refine bc Hz 15 ?_ ?_
 rotate_left
 · intro hb _; exact absurd hb (by simp; omega)
 clear Hz; intro _ Hz
 refine wct Hz ?_
 refine wp_region_lit ?_
 refine goCh Hz (.fa 2 rfl U25 <| .lb m32 20 U3 rfl rfl rfl .nil) fun Az Hz => ?_
 refine plz (e_makeR Hz m32 23 (n9) 2 rfl rfl rfl rfl U37 fct3 (by decide) (by omega) rfl fun p37 c37 Az w38 Hz m38 => ?_)
 refine goCh Hz (.fieldAddr (off := 6) rfl U39 rfl (s := 0) (by kernel_rfl) rfl .nil) fun Az Hz => ?_
 refine plz (st1 Hz m38 22 fct4 fun w40 m40 _ => ?_)
 refine znl (hK2 _ _ ?_)
 replace Hz := Hz.oz [2, 3]
 refine zsr fun K4 hK4 => ?_
 refine goCh Hz (.loadBR m40 (i := 22) rfl rfl U39 rfl fct5 (by simp) (by dsimp only [List.drop, List.take] <;> rfl) .nil) fun Az Hz => ?_
 refine plz (stw Hz m40 21 fct5 fun w44 m44 _ => ?_)
 refine znl (hK4 _ _ ?_)
 refine rtd (retC (fn := Tryz.f21) Hz m44 (i := 21) rfl rfl rfl U39 rfl fct5 ?_)
 have hE : List.replicate n9 [D.l 2 []] = (List.replicate n9 ([] : List Ver)).map hD := by rw [List.map_replicate]; rfl
 rw [hE] at m44
 have hn : n9 = (List.replicate n9 ([] : List Ver)).length := List.length_replicate.symm
 exact ⟨_, _, rfl, m44.ren [(9, 23)] (by decide)⟩
theorem pitems_n (bl sz : Int) (l : List (Int × List Int)) (p : Option Addr) (nn c : Nat) (w0 : World) (h0 : Rd (fun _ => True) w0 (.slice p nn c) (.l 2 (l.map itD))) (hl : l.length ≤ 1000000) :
   Calls Tryz.prog 47 #[.int .i64 bl, .int .i64 sz, .slice p nn c] w0 fun e w' => ∃ b : Bool, e = .returned (.bool b) ∧ (b = true ↔ ItemsR bl sz l) ∧ Below w0.heap.size w0 w' := by
 obtain rfl := nnOf h0
 exact pitems_any bl sz l p c w0 h0 hl
theorem pright_x (X : Cx) (vo ch cn sz fr to fl : Int) (W : List (Int × List (Int × List Int))) (pw : Option Addr) (nw cw : Nat) (w0 : World) (hl : W.length ≤ 1000000) (hW : ∀ e ∈ W, e.2.length ≤ 1000000) (m0 : MemOk X w0 [(1, .dat (.slice pw nw cw) (.l 2 (W.map wrD)))] w0) :
   Calls Tryz.prog 14 #[.agg #[.int .i64 vo, .int .i64 ch, .int .i64 cn, .int .i64 sz, .int .i64 fr, .int .i64 to, .int .i64 fl, .slice pw nw cw]] w0 fun e w' => ∃ b : Bool, e = .returned (.bool b) ∧ (b = true ↔ PuOk vo ch cn sz fr to fl W) ∧ MemOk X w0 [(1, .dat (.slice pw nw cw) (.l 2 (W.map wrD)))] w' := by
 obtain rfl := nnOf (m0.rd (i := 1) rfl)
 refine ent1 Tryz.func14 rfl Tryz.ntmps14 fun Az Hz => ?_
 refine zsr fun K0 hK0 => ?_
 refine plz (e_box Hz m0 20 (cs := [_, _, _, _, _, _, _, _]) rfl rfl rfl fun g1 Az w2 Hz m2 _ _ => ?_)
 refine gz hK0 Hz (.assign rfl .nil) fun Az Hz => ?_
 refine wsk fun K1 hK1 => ?_
 refine zsr fun K2 hK2 => ?_
 refine goCh Hz (.loadBR m2 (i := 20) rfl rfl U25 rfl fct7 (by simp) (by dsimp only [List.drop, List.take] <;> rfl) .nil) fun Az Hz => ?_
 refine plz (ecb Hz Tryz.func44 rfl m2 (pshape_x _ _ _ _ _ _ _ _ _ _ _) fun Az w6 Hz m7 => ?_)
 refine plz (ecl Hz Tryz.func45 rfl (sright_x _ _ _ _ _) ?_)
 rintro e w9 ⟨bs9, rfl, hbs, hb9⟩
 have m10 := m7.later hb9
 refine ⟨_, rfl, ?_⟩; intro Az Hz
 refine goCh Hz (.not rfl <| .move rfl .nil) fun Az Hz => ?_
 refine bc Hz 10 ?_ ?_
 ·
  intro hb14 Hz; try simp only [QQ, Qax] at hb14
  have hs0 : ¬ ShOk vo ch cn sz := fun h9 => by have := hbs.2 h9; have h8 := hb14; simp_all
  refine gz hK2 Hz (.sk <| .sk <| .sk <| .sk <| .pickT rfl rfl <| .move rfl <| .sk <| .sk <| .sk <| .sk <| .sk <| .sk <| .pickT rfl rfl <| .move rfl <| .sk <| .sk <| .sk <| .sk <| .sk <| .sk <| .pickT rfl rfl <| .move rfl <| .sk <| .sk <| .sk <| .sk <| .pickT rfl rfl <| .nil) fun Az Hz => ?_
  refine wct Hz ?_
  replace Hz := Hz.oz [1, 2, 10, 16, 24, 32, 37]
  refine regS Hz (.assign rfl .nil) fun Az Hz => ?_
  refine rt1 Hz ?_
  exact ⟨_, rfl, iff_of_false (by simp) (fun h9 => hs0 h9.1), m10.only [1]⟩
 intro hb14 Hz; try simp only [QQ, Qax] at hb14
 have hs1 : ShOk vo ch cn sz := hbs.1 (by have h8 := hb14; simpa using h8)
 refine goCh Hz (.faZ 5 rfl U25 <| .loadB1Z m10 (i := 20) rfl rfl rfl U2 rfl .nil) fun Az Hz => ?_
 refine stz Hz (ecb Hz Tryz.func46 rfl m10 (cwithin6_x _ _ _ _) fun Az w46 Hz m47 => ?_)
 refine goCh Hz (.notZ rfl <| .pickF rfl rfl <| .move rfl .nil) fun Az Hz => ?_
 refine bc Hz 16 ?_ ?_
 ·
  intro hb52 Hz; try simp only [QQ, Qax] at hb52
  have ht0 : ¬ (0 ≤ to ∧ to ≤ 1099511627776) := by have := hb52; first | omega | (simp at this; omega) | (simp at this; exact this) | simp_all
  refine gz hK2 Hz (.sk <| .sk <| .sk <| .sk <| .sk <| .sk <| .pickT rfl rfl <| .move rfl <| .sk <| .sk <| .sk <| .sk <| .sk <| .sk <| .pickT rfl rfl <| .move rfl <| .sk <| .sk <| .sk <| .sk <| .pickT rfl rfl <| .nil) fun Az Hz => ?_
  refine wct Hz ?_
  replace Hz := Hz.oz [1, 2, 10, 16, 24, 32, 37]
  refine regS Hz (.assign rfl .nil) fun Az Hz => ?_
  refine rt1 Hz ?_
  exact ⟨_, rfl, iff_of_false (by simp) (fun h9 => ht0 h9.2.1), m47.only [1]⟩
 intro hb52 Hz; try simp only [QQ, Qax] at hb52
 have ht1 : 0 ≤ to ∧ to ≤ 1099511627776 := by have := hb52; first | omega | (simp at this; omega) | (simp at this; exact this) | simp_all
 refine goCh Hz (.faZ 4 rfl U25 <| .loadB1Z m47 (i := 20) rfl rfl rfl U2 rfl <| .faZ 5 rfl U25 <| .loadB1Z m47 (i := 20) rfl rfl rfl U2 rfl .nil) fun Az Hz => ?_
 refine stz Hz (ecb Hz Tryz.func46 rfl m47 (cwithin6_x _ _ _ _) fun Az w80 Hz m81 => ?_)
 refine goCh Hz (.notZ rfl <| .pickF rfl rfl <| .move rfl .nil) fun Az Hz => ?_
 refine bc Hz 24 ?_ ?_
 ·
  intro hb86 Hz; try simp only [QQ, Qax] at hb86
  have hf0 : ¬ (0 ≤ fr ∧ fr ≤ to) := by have := hb86; first | omega | (simp at this; omega) | (simp at this; exact this) | simp_all
  refine gz hK2 Hz (.sk <| .sk <| .sk <| .sk <| .sk <| .sk <| .pickT rfl rfl <| .move rfl <| .sk <| .sk <| .sk <| .sk <| .pickT rfl rfl <| .nil) fun Az Hz => ?_
  refine wct Hz ?_
  replace Hz := Hz.oz [1, 2, 10, 16, 24, 32, 37]
  refine regS Hz (.assign rfl .nil) fun Az Hz => ?_
  refine rt1 Hz ?_
  exact ⟨_, rfl, iff_of_false (by simp) (fun h9 => hf0 h9.2.2.1), m81.only [1]⟩
 intro hb86 Hz; try simp only [QQ, Qax] at hb86
 have hf1 : 0 ≤ fr ∧ fr ≤ to := by have := hb86; first | omega | (simp at this; omega) | (simp at this; exact this) | simp_all
 refine goCh Hz (.faZ 6 rfl U25 <| .loadB1Z m81 (i := 20) rfl rfl rfl U2 rfl <| .faZ 5 rfl U25 <| .loadB1Z m81 (i := 20) rfl rfl rfl U2 rfl .nil) fun Az Hz => ?_
 refine stz Hz (ecb Hz Tryz.func46 rfl m81 (cwithin6_x _ _ _ _) fun Az w106 Hz m107 => ?_)
 refine goCh Hz (.notZ rfl <| .pickF rfl rfl <| .move rfl .nil) fun Az Hz => ?_
 refine bc Hz 32 ?_ ?_
 ·
  intro hb112 Hz; try simp only [QQ, Qax] at hb112
  have hl0 : ¬ (0 ≤ fl ∧ fl ≤ to) := by have := hb112; first | omega | (simp at this; omega) | (simp at this; exact this) | simp_all
  refine gz hK2 Hz (.sk <| .sk <| .sk <| .sk <| .pickT rfl rfl <| .nil) fun Az Hz => ?_
  refine wct Hz ?_
  replace Hz := Hz.oz [1, 2, 10, 16, 24, 32, 37]
  refine regS Hz (.assign rfl .nil) fun Az Hz => ?_
  refine rt1 Hz ?_
  exact ⟨_, rfl, iff_of_false (by simp) (fun h9 => hl0 h9.2.2.2.1), m107.only [1]⟩
 intro hb112 Hz; try simp only [QQ, Qax] at hb112
 have hl1 : 0 ≤ fl ∧ fl ≤ to := by have := hb112; first | omega | (simp at this; omega) | (simp at this; exact this) | simp_all
 refine gz hK2 Hz (.faZ 7 rfl U25 <| .loadB1Z m107 (i := 20) rfl rfl rfl U23 rfl <| .lenZ rfl U23 <| .gtrZ rfl rfl <| .pickF rfl rfl <| .nil) fun Az Hz => ?_
 refine bc Hz 37 ?_ ?_
 ·
  intro hb125 Hz; try simp only [QQ, Qax] at hb125
  have hn0 : ¬ W.length ≤ 4 := by have := hb125; first | omega | (simp at this; omega) | (simp at this; exact this) | simp_all
  refine wct Hz ?_
  replace Hz := Hz.oz [1, 2, 10, 16, 24, 32, 37]
  refine regS Hz (.assign rfl .nil) fun Az Hz => ?_
  refine rt1 Hz ?_
  exact ⟨_, rfl, iff_of_false (by simp) (fun h9 => hn0 h9.2.2.2.2.1), m107.only [1]⟩
 intro hb125 Hz; try simp only [QQ, Qax] at hb125
 have hn1 : W.length ≤ 4 := by have := hb125; first | omega | (simp at this; omega) | (simp at this; exact this) | simp_all
 refine wcf Hz ?_
 refine zss (hK1 _ _ ?_)
 replace Hz := Hz.oz [1, 2, 10, 16, 24, 32, 37]
 refine regS Hz (.fa 4 rfl U25 <| .lb m107 20 U2 rfl rfl rfl <| .assign rfl .nil) fun Az Hz => ?_
 refine wsk fun K3 hK3 => ?_
 refine regS Hz (.fa 7 rfl U25 <| .lb m107 20 U23 rfl rfl rfl <| .len rfl U23 <| .move rfl .nil) fun Az Hz => ?_
 refine wp_block ?_
 refine wp_loop_ghost (fun g a w => ∃ (k gP : Nat), k ≤ W.length ∧ g = W.length - k ∧ WPre fr to cn sz W k ∧ Has 71 [(1, .pointer (some ⟨gP, 0, none⟩)), (3, .int .i64 (if k = 0 then fr else (W.getD (k - 1) w1).1)), (41, .slice pw W.length cw), (42, .int .i64 W.length), (43, .int .i64 k)] a ∧ MemOk X w0 [(1, .dat (.slice pw W.length cw) (.l 2 (W.map wrD))), (2, .box gP 25 [.int .i64 vo, .int .i64 ch, .int .i64 cn, .int .i64 sz, .int .i64 fr, .int .i64 to, .int .i64 fl, .slice pw W.length cw])] w) (W.length) ?_ ?_
 · exact ⟨0, _, Nat.zero_le _, rfl, fun j hj => by omega, Hz.only [1, 3, 41, 42, 43], m107.ren [(1, 1), (2, 20)] (by decide)⟩
 clear Hz m107
 rintro g Az w136 ⟨k, gP, hkl, hg, hp, Hz, m136⟩
 refine regS Hz (.lss rfl rfl .nil) fun Az Hz => ?_
 refine wsk fun K4 hK4 => ?_
 refine bc Hz 44 ?_ ?_
 ·
  intro hb138 Hz; try simp only [QQ, Qax] at hb138
  have hk : k < W.length := by have := hb138; first | omega | (simp at this; omega)
  obtain ⟨⟨xs, xl⟩, hes⟩ : ∃ e, W[k]? = some e := ⟨_, List.getElem?_eq_getElem hk⟩
  have hxl : xl.length ≤ 1000000 := hW _ (List.mem_of_getElem? hes)
  have hx9 : W.getD k w1 = (xs, xl) := by rw [List.getD, hes]; rfl
  refine wct Hz ?_
  refine zss (hK4 _ _ ?_)
  refine wsk fun K5 hK5 => ?_
  refine wp_block ?_
  refine zsr fun K6 hK6 => ?_
  obtain ⟨b140, o140, vs140, hp140, hR140, ho140, m140⟩ := m136.openR (i := 1) rfl (k) (r := [.v (.int .i64 xs), .l 2 (xl.map itD)]) (wrD_get hes) 100 rfl
  revert Hz
  cases hp140; clear m136 ho140
  rcases hR140 with _ | ⟨hd140_0, _ | ⟨hd140_1, _ | _⟩⟩
  obtain rfl := hd140_0.v_out
  clear hd140_0
  obtain ⟨p141, c141, hv141, hc141⟩ := hd140_1.l_shape; subst hv141
  intro Hz
  have m141 := m140.dat 101 rfl (hd140_1.cast (fun _ h => (free_add rfl h))); clear m140 hd140_1
  refine goCh Hz (.c rfl (fun _ h_ => y_idx h_ rfl rfl U23 fct8 (k) rfl hk) <| .loadCR m141 (i := 100) rfl rfl U30 rfl fct8 .nil) fun Az Hz => ?_
  refine plz (e_alloc Hz m141 102 fct9 rfl fun g144 Az w145 Hz m145 _ _ => ?_)
  refine plz (stw Hz m145 102 fct8 fun w146 m146 _ => ?_)
  refine znl (hK6 _ _ ?_)
  refine wsk fun K7 hK7 => ?_
  refine zsr fun K8 hK8 => ?_
  refine goCh Hz (.fa 0 rfl U30 <| .lb m146 102 U2 rfl rfl rfl <| .move rfl <| .leq rfl rfl <| .move rfl .nil) fun Az Hz => ?_
  refine bc Hz 51 ?_ ?_
  ·
   intro hb157 Hz; try simp only [QQ, Qax] at hb157
   have hle : xs ≤ (if k = 0 then fr else (W.getD (k - 1) w1).1) := by have := hb157; first | omega | (simp at this; omega) | (simp at this; exact this) | simp_all
   refine gz hK8 Hz (.sk <| .sk <| .sk <| .sk <| .sk <| .pickT rfl rfl <| .move rfl <| .sk <| .sk <| .sk <| .sk <| .sk <| .sk <| .sk <| .sk <| .pickT rfl rfl <| .nil) fun Az Hz => ?_
   refine wct Hz ?_
   replace Hz := Hz.oz [1, 3, 41, 42, 43, 44, 5, 51, 58, 67]
   refine regS Hz (.assign rfl .nil) fun Az Hz => ?_
   refine rt1 Hz ?_
   exact ⟨_, rfl, iff_of_false (by simp) (fun h9 => by have := (h9.2.2.2.2.2 k hk).1; rw [hx9] at this; dsimp only at this; omega), m146.only [1]⟩
  intro hb157 Hz; try simp only [QQ, Qax] at hb157
  have hlt : (if k = 0 then fr else (W.getD (k - 1) w1).1) < xs := by have := hb157; first | omega | (simp at this; omega) | (simp at this; exact this) | simp_all
  refine goCh Hz (.faZ 0 rfl U30 <| .loadB1Z m146 (i := 102) rfl rfl rfl U2 rfl <| .faZ 5 rfl U25 <| .loadB1Z m146 (i := 2) rfl rfl rfl U2 rfl <| .gtrZ rfl rfl <| .pickF rfl rfl <| .move rfl .nil) fun Az Hz => ?_
  refine bc Hz 58 ?_ ?_
  ·
   intro hb183 Hz; try simp only [QQ, Qax] at hb183
   have hto0 : to < xs := by have := hb183; first | omega | (simp at this; omega) | (simp at this; exact this) | simp_all
   refine gz hK8 Hz (.sk <| .sk <| .sk <| .sk <| .sk <| .sk <| .sk <| .sk <| .pickT rfl rfl <| .nil) fun Az Hz => ?_
   refine wct Hz ?_
   replace Hz := Hz.oz [1, 3, 41, 42, 43, 44, 5, 51, 58, 67]
   refine regS Hz (.assign rfl .nil) fun Az Hz => ?_
   refine rt1 Hz ?_
   exact ⟨_, rfl, iff_of_false (by simp) (fun h9 => by have := (h9.2.2.2.2.2 k hk).2.1; rw [hx9] at this; dsimp only at this; omega), m146.only [1]⟩
  intro hb183 Hz; try simp only [QQ, Qax] at hb183
  have hto : xs ≤ to := by have := hb183; first | omega | (simp at this; omega) | (simp at this; exact this) | simp_all
  refine goCh Hz (.faZ 2 rfl U25 <| .loadB1Z m146 (i := 2) rfl rfl rfl U3 rfl <| .faZ 3 rfl U25 <| .loadB1Z m146 (i := 2) rfl rfl rfl U3 rfl <| .faZ 1 rfl U30 <| .loadB1Z m146 (i := 102) rfl rfl rfl U28 rfl .nil) fun Az Hz => ?_
  refine stz Hz (ecl Hz Tryz.func47 rfl (pitems_n cn sz xl _ _ _ _ (m146.rd (i := 101) rfl).any hxl) ?_)
  rintro e w201 ⟨bi9, rfl, hbi, hb201⟩
  have m202 := m146.later hb201
  refine ⟨_, rfl, ?_⟩; intro Az Hz
  refine gz hK8 Hz (.notZ rfl <| .pickF rfl rfl <| .nil) fun Az Hz => ?_
  refine bc Hz 67 ?_ ?_
  ·
   intro hb206 Hz; try simp only [QQ, Qax] at hb206
   have hit0 : ¬ ItemsR cn sz xl := fun h9 => by have := hbi.2 h9; have h8 := hb206; simp_all
   refine wct Hz ?_
   replace Hz := Hz.oz [1, 3, 41, 42, 43, 44, 5, 51, 58, 67]
   refine regS Hz (.assign rfl .nil) fun Az Hz => ?_
   refine rt1 Hz ?_
   exact ⟨_, rfl, iff_of_false (by simp) (fun h9 => hit0 (by have := (h9.2.2.2.2.2 k hk).2.2; rw [hx9] at this; exact this)), m202.only [1]⟩
  intro hb206 Hz; try simp only [QQ, Qax] at hb206
  have hit : bi9 = true := by have h8 := hb206; simpa using h8
  refine wcf Hz ?_
  refine zss (hK7 _ _ ?_)
  replace Hz := Hz.oz [1, 3, 41, 42, 43, 44, 5, 51, 58, 67]
  refine wp_region_lit ?_
  refine gz hK5 Hz (.fa 0 rfl U30 <| .lb m202 102 U2 rfl rfl rfl <| .assign rfl <| .nil) fun Az Hz => ?_
  refine wp_region_lit ?_
  refine goCh Hz (.inc (k + 1) <| .move rfl .nil) fun Az Hz => ?_
  refine wpList_nil ?_
  show ∃ n', n' < _ ∧ _
  have hla : xs = (if k + 1 = 0 then fr else (W.getD (k + 1 - 1) w1).1) := by rw [if_neg (by omega), Nat.add_sub_cancel, List.getD, hes]; rfl
  rw [hla] at Hz
  exact ⟨W.length - (k + 1), by omega, k + 1, _, by omega, rfl, WPre.snoc hp hes hlt hto (hbi.1 hit), Hz.only [1, 3, 41, 42, 43], m202.only [1, 2]⟩
 intro hb138 Hz; try simp only [QQ, Qax] at hb138
 revert Hz
 obtain rfl : k = W.length := by have := hb138; first | omega | (simp at this; omega)
 intro Hz
 refine wcf Hz ?_
 refine wp_exit ?_
 refine hK3 _ _ ?_
 refine regS Hz (.assign rfl .nil) fun Az Hz => ?_
 refine rt1 Hz ?_
 exact ⟨_, rfl, iff_of_true rfl ⟨hs1, ht1, hf1, hl1, hn1, hp⟩, m136.only [1]⟩
theorem histright_x (X : Cx) (vo ch cn sz mk fl : Int) (vH : Value) (h : List Ver) (p : Option Addr) (nn c : Nat) (w0 : World) (hl : h.length ≤ 1000000) (hok : ∀ v ∈ h, v.2.length ≤ 1000000) (m0 : MemOk X w0 [(1, .dat (.slice p nn c) (.l 2 (h.map itD)))] w0) :
   Calls Tryz.prog 65 #[.agg #[.int .i64 vo, .int .i64 ch, .int .i64 cn, .int .i64 sz, .int .i64 mk, .int .i64 fl, vH], .slice p nn c] w0 fun e w' => ∃ b : Bool, e = .returned (.bool b) ∧ (b = true ↔ HOk sz mk fl h) ∧ MemOk X w0 [(1, .dat (.slice p nn c) (.l 2 (h.map itD)))] w' := by
 obtain rfl := nnOf (m0.rd (i := 1) rfl)
 refine ent2 Tryz.func65 rfl Tryz.ntmps65 fun Az Hz => ?_
 refine zsr fun K0 hK0 => ?_
 refine plz (e_box Hz m0 20 (cs := [_, _, _, _, _, _, _]) rfl rfl rfl fun g1 Az w2 Hz m2 _ _ => ?_)
 refine gz hK0 Hz (.assign rfl .nil) fun Az Hz => ?_
 refine wsk fun K1 hK1 => ?_
 refine zsr fun K2 hK2 => ?_
 refine goCh Hz (.move rfl .nil) fun Az Hz => ?_
 refine plz (ecl Hz Tryz.func99 rfl (hright_x _ h _ _ _ _ hl (m2.into [(1, 1)] (by decide) rfl)) ?_)
 rintro e w6 ⟨bh9, rfl, hbh, hm6⟩
 have mx6 := m2.back hm6 [(1, 1)] (by decide); clear hm6 m2
 have m6 := mx6.oz [1, 20]
 refine ⟨_, rfl, ?_⟩; intro Az Hz
 refine goCh Hz (.not rfl <| .move rfl .nil) fun Az Hz => ?_
 refine bc Hz 10 ?_ ?_
 ·
  intro hb10 Hz; try simp only [QQ, Qax] at hb10
  have hr0 : ¬ RPre h h.length := fun h9 => by have := hbh.2 h9; have h8 := hb10; simp_all
  refine gz hK2 Hz (.sk <| .sk <| .sk <| .sk <| .sk <| .sk <| .sk <| .sk <| .pickT rfl rfl <| .nil) fun Az Hz => ?_
  refine wct Hz ?_
  replace Hz := Hz.oz [1, 2, 4, 10, 19]
  refine regS Hz (.assign rfl .nil) fun Az Hz => ?_
  refine rt1 Hz ?_
  exact ⟨_, rfl, iff_of_false (by simp) (fun h9 => hr0 h9.1), m6.only [1]⟩
 intro hb10 Hz; try simp only [QQ, Qax] at hb10
 have hrp : RPre h h.length := hbh.1 (by have h8 := hb10; simpa using h8)
 refine goCh Hz (.moveZ rfl <| .faZ 5 rfl U39 <| .loadB1Z m6 (i := 20) rfl rfl rfl U2 rfl .nil) fun Az Hz => ?_
 refine stz Hz (ecl Hz Tryz.func54 rfl (hprune_x _ h fl _ _ _ _ hl hok hrp.rise (m6.into [(1, 1)] (by decide) rfl)) ?_)
 rintro e w25 ⟨p25, c25, rfl, hm25⟩
 have mx25 := m6.back hm25 [(1, 1), (21, 9)] (by decide); clear hm25 m6
 have m25 := mx25.oz [1, 21, 20]
 refine ⟨_, rfl, ?_⟩; intro Az Hz
 refine gz hK2 Hz (.lenZ rfl U94 <| .moveZ rfl <| .lenZ rfl U94 <| .neqZ rfl rfl <| .pickF rfl rfl <| .nil) fun Az Hz => ?_
 refine bc Hz 19 ?_ ?_
 ·
  intro hb32 Hz; try simp only [QQ, Qax] at hb32
  have hp0 : ¬ (pruneF h fl).length = h.length := by have := hb32; first | omega | (simp at this; omega) | (simp at this; exact this) | simp_all
  refine wct Hz ?_
  replace Hz := Hz.oz [1, 2, 4, 10, 19]
  refine regS Hz (.assign rfl .nil) fun Az Hz => ?_
  refine rt1 Hz ?_
  exact ⟨_, rfl, iff_of_false (by simp) (fun h9 => hp0 h9.2.1), m25.only [1]⟩
 intro hb32 Hz; try simp only [QQ, Qax] at hb32
 have hp1 : (pruneF h fl).length = h.length := by have := hb32; first | omega | (simp at this; omega) | (simp at this; exact this) | simp_all
 refine wcf Hz ?_
 refine zss (hK1 _ _ ?_)
 refine wsk fun K3 hK3 => ?_
 replace Hz := Hz.oz [1, 2, 4, 10, 19]
 refine regS Hz (.move rfl <| .len rfl U94 <| .move rfl .nil) fun Az Hz => ?_
 refine wp_block ?_
 refine wp_loop_ghost (fun g a w => ∃ (k gP : Nat), k ≤ h.length ∧ g = h.length - k ∧ (∀ j, j < k → (h.getD j v0).1 ≤ mk ∧ ((h.getD j v0).2.length : Int) = sz) ∧ Has 40 [(2, .pointer (some ⟨gP, 0, none⟩)), (20, .slice p h.length c), (21, .int .i64 h.length), (22, .int .i64 k)] a ∧ MemOk X w0 [(1, .dat (.slice p h.length c) (.l 2 (h.map itD))), (2, .box gP 39 [.int .i64 vo, .int .i64 ch, .int .i64 cn, .int .i64 sz, .int .i64 mk, .int .i64 fl, vH])] w) (h.length) ?_ ?_
 · exact ⟨0, _, Nat.zero_le _, rfl, fun j hj => by omega, Hz.only [2, 20, 21, 22], m25.ren [(1, 1), (2, 20)] (by decide)⟩
 clear Hz m25
 rintro g Az w39 ⟨k, gP, hkl, hg, hp, Hz, m39⟩
 refine regS Hz (.lss rfl rfl .nil) fun Az Hz => ?_
 refine wsk fun K4 hK4 => ?_
 refine bc Hz 23 ?_ ?_
 ·
  intro hb41 Hz; try simp only [QQ, Qax] at hb41
  have hk : k < h.length := by have := hb41; first | omega | (simp at this; omega)
  obtain ⟨⟨xs, xd⟩, hes⟩ : ∃ e, h[k]? = some e := ⟨_, List.getElem?_eq_getElem hk⟩
  have hx9 : h.getD k v0 = (xs, xd) := by rw [List.getD, hes]; rfl
  refine wct Hz ?_
  refine zss (hK4 _ _ ?_)
  refine wsk fun K5 hK5 => ?_
  refine wp_block ?_
  refine zsr fun K6 hK6 => ?_
  obtain ⟨b43, o43, vs43, hp43, hR43, ho43, m43⟩ := m39.openR (i := 1) rfl (k) (r := [.v (.int .i64 xs), .ns .u8 xd]) (itD_get hes) 100 rfl
  revert Hz
  cases hp43; clear m39 ho43
  rcases hR43 with _ | ⟨hd43_0, _ | ⟨hd43_1, _ | _⟩⟩
  obtain rfl := hd43_0.v_out
  clear hd43_0
  obtain ⟨p44, c44, hv44, hc44⟩ := hd43_1.ns_shape; subst hv44
  intro Hz
  have m44 := m43.dat 101 rfl (hd43_1.cast (fun _ h => (free_add rfl h))); clear m43 hd43_1
  refine goCh Hz (.c rfl (fun _ h_ => y_idx h_ rfl rfl U94 fct10 (k) rfl hk) <| .loadCR m44 (i := 100) rfl rfl U110 rfl fct10 .nil) fun Az Hz => ?_
  refine plz (e_alloc Hz m44 102 fct11 rfl fun g47 Az w48 Hz m48 _ _ => ?_)
  refine plz (stw Hz m48 102 fct10 fun w49 m49 _ => ?_)
  refine znl (hK6 _ _ ?_)
  refine zsr fun K7 hK7 => ?_
  refine goCh Hz (.fa 0 rfl U110 <| .lb m49 102 U2 rfl rfl rfl <| .fa 4 rfl U39 <| .lb m49 2 U2 rfl rfl rfl <| .gtr rfl rfl <| .move rfl .nil) fun Az Hz => ?_
  refine bc Hz 31 ?_ ?_
  ·
   intro hb62 Hz; try simp only [QQ, Qax] at hb62
   have hgt : mk < xs := by have := hb62; first | omega | (simp at this; omega) | (simp at this; exact this) | simp_all
   refine gz hK7 Hz (.sk <| .sk <| .sk <| .sk <| .sk <| .sk <| .pickT rfl rfl <| .nil) fun Az Hz => ?_
   refine wct Hz ?_
   replace Hz := Hz.oz [2, 20, 21, 22, 23, 31, 38]
   refine regS Hz (.assign rfl .nil) fun Az Hz => ?_
   refine rt1 Hz ?_
   exact ⟨_, rfl, iff_of_false (by simp) (fun h9 => by have := (h9.2.2 k hk).1; rw [hx9] at this; dsimp only at this; omega), m49.only [1]⟩
  intro hb62 Hz; try simp only [QQ, Qax] at hb62
  have hle : xs ≤ mk := by have := hb62; first | omega | (simp at this; omega) | (simp at this; exact this) | simp_all
  refine gz hK7 Hz (.faZ 1 rfl U110 <| .loadB1Z m49 (i := 102) rfl rfl rfl U22 rfl <| .lenZ rfl U22 <| .faZ 3 rfl U39 <| .loadB1Z m49 (i := 2) rfl rfl rfl U3 rfl <| .neqZ rfl rfl <| .pickF rfl rfl <| .nil) fun Az Hz => ?_
  refine bc Hz 38 ?_ ?_
  ·
   intro hb79 Hz; try simp only [QQ, Qax] at hb79
   have hs0 : ¬ (xd.length : Int) = sz := by have := hb79; first | omega | (simp at this; omega) | (simp at this; exact this) | simp_all
   refine wct Hz ?_
   replace Hz := Hz.oz [2, 20, 21, 22, 23, 31, 38]
   refine regS Hz (.assign rfl .nil) fun Az Hz => ?_
   refine rt1 Hz ?_
   exact ⟨_, rfl, iff_of_false (by simp) (fun h9 => by have := (h9.2.2 k hk).2; rw [hx9] at this; exact hs0 this), m49.only [1]⟩
  intro hb79 Hz; try simp only [QQ, Qax] at hb79
  have hsz : (xd.length : Int) = sz := by have := hb79; first | omega | (simp at this; omega) | (simp at this; exact this) | simp_all
  refine wcf Hz ?_
  refine zss (hK5 _ _ ?_)
  replace Hz := Hz.oz [2, 20, 21, 22, 23, 31, 38]
  refine wp_region_lit ?_
  refine goCh Hz (.inc (k + 1) <| .move rfl .nil) fun Az Hz => ?_
  refine wpList_nil ?_
  show ∃ n', n' < _ ∧ _
  exact ⟨h.length - (k + 1), by omega, k + 1, _, by omega, rfl, fun j hj => (Nat.lt_or_ge j k).elim (hp j) (fun h9 => by rw [show j = k by omega, hx9]; exact ⟨hle, hsz⟩), Hz.only [2, 20, 21, 22], m49.only [1, 2]⟩
 intro hb41 Hz; try simp only [QQ, Qax] at hb41
 revert Hz
 obtain rfl : k = h.length := by have := hb41; first | omega | (simp at this; omega)
 intro Hz
 refine wcf Hz ?_
 refine wp_exit ?_
 refine hK3 _ _ ?_
 refine regS Hz (.assign rfl .nil) fun Az Hz => ?_
 refine rt1 Hz ?_
 exact ⟨_, rfl, iff_of_true rfl ⟨hrp, hp1, hp⟩, m39.only [1]⟩
theorem cright_x (X : Cx) (vo ch cn sz mk fl : Int) (H : List (List Ver)) (p : Option Addr) (nn c : Nat) (w0 : World) (hl : H.length ≤ 1000000) (hok : HsOk H) (m0 : MemOk X w0 [(1, .dat (.slice p nn c) (.l 1 (H.map hD)))] w0) :
   Calls Tryz.prog 23 #[.agg #[.int .i64 vo, .int .i64 ch, .int .i64 cn, .int .i64 sz, .int .i64 mk, .int .i64 fl, .slice p nn c]] w0 fun e w' => ∃ b : Bool, e = .returned (.bool b) ∧ (b = true ↔ ChOk vo ch cn sz mk fl H) ∧ MemOk X w0 [(1, .dat (.slice p nn c) (.l 1 (H.map hD)))] w' := by
 obtain rfl := nnOf (m0.rd (i := 1) rfl)
 refine ent1 Tryz.func23 rfl Tryz.ntmps23 fun Az Hz => ?_
 refine zsr fun K0 hK0 => ?_
 refine plz (e_box Hz m0 20 (cs := [_, _, _, _, _, _, _]) rfl rfl rfl fun g1 Az w2 Hz m2 _ _ => ?_)
 refine gz hK0 Hz (.assign rfl .nil) fun Az Hz => ?_
 refine wsk fun K1 hK1 => ?_
 refine zsr fun K2 hK2 => ?_
 refine goCh Hz (.loadBR m2 (i := 20) rfl rfl U39 rfl fct5 (by simp) (by dsimp only [List.drop, List.take] <;> rfl) .nil) fun Az Hz => ?_
 refine plz (ecb Hz Tryz.func52 rfl m2 (shapeof_x _ _ _ _ _ _ _ _) fun Az w6 Hz m7 => ?_)
 refine plz (ecl Hz Tryz.func45 rfl (sright_x _ _ _ _ _) ?_)
 rintro e w9 ⟨bs9, rfl, hbs, hb9⟩
 have m10 := m7.later hb9
 refine ⟨_, rfl, ?_⟩; intro Az Hz
 refine goCh Hz (.not rfl <| .move rfl .nil) fun Az Hz => ?_
 refine bc Hz 9 ?_ ?_
 ·
  intro hb14 Hz; try simp only [QQ, Qax] at hb14
  have hs0 : ¬ ShOk vo ch cn sz := fun h9 => by have := hbs.2 h9; have h8 := hb14; simp_all
  refine gz hK2 Hz (.sk <| .sk <| .sk <| .sk <| .pickT rfl rfl <| .move rfl <| .sk <| .sk <| .sk <| .sk <| .sk <| .sk <| .pickT rfl rfl <| .move rfl <| .sk <| .sk <| .sk <| .sk <| .sk <| .sk <| .pickT rfl rfl <| .nil) fun Az Hz => ?_
  refine wct Hz ?_
  replace Hz := Hz.oz [1, 2, 9, 15, 23, 30]
  refine regS Hz (.assign rfl .nil) fun Az Hz => ?_
  refine rt1 Hz ?_
  exact ⟨_, rfl, iff_of_false (by simp) (fun h9 => hs0 h9.1), m10.only [1]⟩
 intro hb14 Hz; try simp only [QQ, Qax] at hb14
 have hs1 : ShOk vo ch cn sz := hbs.1 (by have h8 := hb14; simpa using h8)
 refine goCh Hz (.faZ 4 rfl U39 <| .loadB1Z m10 (i := 20) rfl rfl rfl U2 rfl .nil) fun Az Hz => ?_
 refine stz Hz (ecb Hz Tryz.func46 rfl m10 (cwithin6_x _ _ _ _) fun Az w40 Hz m41 => ?_)
 refine goCh Hz (.notZ rfl <| .pickF rfl rfl <| .move rfl .nil) fun Az Hz => ?_
 refine bc Hz 15 ?_ ?_
 ·
  intro hb46 Hz; try simp only [QQ, Qax] at hb46
  have ht0 : ¬ (0 ≤ mk ∧ mk ≤ 1099511627776) := by have := hb46; first | omega | (simp at this; omega) | (simp at this; exact this) | simp_all
  refine gz hK2 Hz (.sk <| .sk <| .sk <| .sk <| .sk <| .sk <| .pickT rfl rfl <| .move rfl <| .sk <| .sk <| .sk <| .sk <| .sk <| .sk <| .pickT rfl rfl <| .nil) fun Az Hz => ?_
  refine wct Hz ?_
  replace Hz := Hz.oz [1, 2, 9, 15, 23, 30]
  refine regS Hz (.assign rfl .nil) fun Az Hz => ?_
  refine rt1 Hz ?_
  exact ⟨_, rfl, iff_of_false (by simp) (fun h9 => ht0 h9.2.1), m41.only [1]⟩
 intro hb46 Hz; try simp only [QQ, Qax] at hb46
 have ht1 : 0 ≤ mk ∧ mk ≤ 1099511627776 := by have := hb46; first | omega | (simp at this; omega) | (simp at this; exact this) | simp_all
 refine goCh Hz (.faZ 5 rfl U39 <| .loadB1Z m41 (i := 20) rfl rfl rfl U2 rfl <| .faZ 4 rfl U39 <| .loadB1Z m41 (i := 20) rfl rfl rfl U2 rfl .nil) fun Az Hz => ?_
 refine stz Hz (ecb Hz Tryz.func46 rfl m41 (cwithin6_x _ _ _ _) fun Az w68 Hz m69 => ?_)
 refine goCh Hz (.notZ rfl <| .pickF rfl rfl <| .move rfl .nil) fun Az Hz => ?_
 refine bc Hz 23 ?_ ?_
 ·
  intro hb74 Hz; try simp only [QQ, Qax] at hb74
  have hf0 : ¬ (0 ≤ fl ∧ fl ≤ mk) := by have := hb74; first | omega | (simp at this; omega) | (simp at this; exact this) | simp_all
  refine gz hK2 Hz (.sk <| .sk <| .sk <| .sk <| .sk <| .sk <| .pickT rfl rfl <| .nil) fun Az Hz => ?_
  refine wct Hz ?_
  replace Hz := Hz.oz [1, 2, 9, 15, 23, 30]
  refine regS Hz (.assign rfl .nil) fun Az Hz => ?_
  refine rt1 Hz ?_
  exact ⟨_, rfl, iff_of_false (by simp) (fun h9 => hf0 h9.2.2.1), m69.only [1]⟩
 intro hb74 Hz; try simp only [QQ, Qax] at hb74
 have hf1 : 0 ≤ fl ∧ fl ≤ mk := by have := hb74; first | omega | (simp at this; omega) | (simp at this; exact this) | simp_all
 refine gz hK2 Hz (.faZ 6 rfl U39 <| .loadB1Z m69 (i := 20) rfl rfl rfl U37 rfl <| .lenZ rfl U37 <| .faZ 2 rfl U39 <| .loadB1Z m69 (i := 20) rfl rfl rfl U3 rfl <| .neqZ rfl rfl <| .pickF rfl rfl <| .nil) fun Az Hz => ?_
 refine bc Hz 30 ?_ ?_
 ·
  intro hb91 Hz; try simp only [QQ, Qax] at hb91
  have hn0 : ¬ (H.length : Int) = cn := by have := hb91; first | omega | (simp at this; omega) | (simp at this; exact this) | simp_all
  refine wct Hz ?_
  replace Hz := Hz.oz [1, 2, 9, 15, 23, 30]
  refine regS Hz (.assign rfl .nil) fun Az Hz => ?_
  refine rt1 Hz ?_
  exact ⟨_, rfl, iff_of_false (by simp) (fun h9 => hn0 h9.2.2.2.1), m69.only [1]⟩
 intro hb91 Hz; try simp only [QQ, Qax] at hb91
 have hn1 : (H.length : Int) = cn := by have := hb91; first | omega | (simp at this; omega) | (simp at this; exact this) | simp_all
 refine wcf Hz ?_
 refine zss (hK1 _ _ ?_)
 refine wsk fun K3 hK3 => ?_
 replace Hz := Hz.oz [1, 2, 9, 15, 23, 30]
 refine regS Hz (.fa 6 rfl U39 <| .lb m69 20 U37 rfl rfl rfl <| .len rfl U37 <| .move rfl .nil) fun Az Hz => ?_
 refine wp_block ?_
 refine wp_loop_ghost (fun g a w => ∃ (k gP : Nat), k ≤ H.length ∧ g = H.length - k ∧ (∀ j, j < k → HOk sz mk fl (H.getD j [])) ∧ Has 43 [(1, .pointer (some ⟨gP, 0, none⟩)), (32, .slice p H.length c), (33, .int .i64 H.length), (34, .int .i64 k)] a ∧ MemOk X w0 [(1, .dat (.slice p H.length c) (.l 1 (H.map hD))), (2, .box gP 39 [.int .i64 vo, .int .i64 ch, .int .i64 cn, .int .i64 sz, .int .i64 mk, .int .i64 fl, .slice p H.length c])] w) (H.length) ?_ ?_
 · exact ⟨0, _, Nat.zero_le _, rfl, fun j hj => by omega, Hz.only [1, 32, 33, 34], m69.ren [(1, 1), (2, 20)] (by decide)⟩
 clear Hz m69
 rintro g Az w99 ⟨k, gP, hkl, hg, hp, Hz, m99⟩
 refine regS Hz (.lss rfl rfl .nil) fun Az Hz => ?_
 refine wsk fun K4 hK4 => ?_
 refine bc Hz 35 ?_ ?_
 ·
  intro hb101 Hz; try simp only [QQ, Qax] at hb101
  have hk : k < H.length := by have := hb101; first | omega | (simp at this; omega)
  obtain ⟨h9, hes⟩ : ∃ e, H[k]? = some e := ⟨_, List.getElem?_eq_getElem hk⟩
  have hx9 : H.getD k [] = h9 := by rw [List.getD, hes]; rfl
  have hh9 := hok _ (List.mem_of_getElem? hes)
  refine wct Hz ?_
  refine zss (hK4 _ _ ?_)
  refine wsk fun K5 hK5 => ?_
  refine wp_block ?_
  refine zsr fun K6 hK6 => ?_
  obtain ⟨b103, o103, vs103, hp103, hR103, ho103, m103⟩ := m99.openR (i := 1) rfl (k) (r := [.l 2 (h9.map itD)]) (hD_get hes) 100 rfl
  revert Hz
  cases hp103; clear m99 ho103
  rcases hR103 with _ | ⟨hd103_0, _ | _⟩
  obtain ⟨p104, c104, hv104, hc104⟩ := hd103_0.l_shape; subst hv104
  intro Hz
  have m104 := m103.dat 101 rfl (hd103_0.cast (fun _ h => (free_add rfl h))); clear m103 hd103_0
  refine gz hK6 Hz (.c rfl (fun _ h_ => y_idx h_ rfl rfl U37 fct12 (k) rfl hk) <| .loadC0 m104 (i := 100) rfl rfl U94 rfl <| .assign rfl <| .nil) fun Az Hz => ?_
  refine zsr fun K7 hK7 => ?_
  refine goCh Hz (.loadBR m104 (i := 2) rfl rfl U39 rfl fct5 (by simp) (by dsimp only [List.drop, List.take] <;> rfl) <| .move rfl .nil) fun Az Hz => ?_
  refine plz (ecl Hz Tryz.func65 rfl (histright_x _ vo ch cn sz mk fl _ h9 _ _ _ _ hh9.1 hh9.2 (m104.into [(1, 101)] (by decide) rfl)) ?_)
  rintro e w112 ⟨bh9, rfl, hbh, hm112⟩
  have mx112 := m104.back hm112 [(101, 1)] (by decide); clear hm112 m104
  have m112 := mx112.oz [101, 1, 2, 100]
  refine ⟨_, rfl, ?_⟩; intro Az Hz
  refine gz hK7 Hz (.not rfl .nil) fun Az Hz => ?_
  refine bc Hz 41 ?_ ?_
  ·
   intro hb115 Hz; try simp only [QQ, Qax] at hb115
   have hb0 : ¬ HOk sz mk fl h9 := fun h7 => by have := hbh.2 h7; have h8 := hb115; simp_all
   refine wct Hz ?_
   replace Hz := Hz.oz [1, 32, 33, 34, 35, 41]
   refine regS Hz (.assign rfl .nil) fun Az Hz => ?_
   refine rt1 Hz ?_
   exact ⟨_, rfl, iff_of_false (by simp) (fun h7 => by have := h7.2.2.2.2 k hk; rw [hx9] at this; exact hb0 this), m112.only [1]⟩
  intro hb115 Hz; try simp only [QQ, Qax] at hb115
  have hbt : bh9 = true := by have h8 := hb115; simpa using h8
  refine wcf Hz ?_
  refine zss (hK5 _ _ ?_)
  replace Hz := Hz.oz [1, 32, 33, 34, 35, 41]
  refine wp_region_lit ?_
  refine goCh Hz (.inc (k + 1) <| .move rfl .nil) fun Az Hz => ?_
  refine wpList_nil ?_
  show ∃ n', n' < _ ∧ _
  exact ⟨H.length - (k + 1), by omega, k + 1, _, by omega, rfl, fun j hj => (Nat.lt_or_ge j k).elim (hp j) (fun h8 => by rw [show j = k by omega, hx9]; exact hbh.1 hbt), Hz.only [1, 32, 33, 34], m112.only [1, 2]⟩
 intro hb101 Hz; try simp only [QQ, Qax] at hb101
 revert Hz
 obtain rfl : k = H.length := by have := hb101; first | omega | (simp at this; omega)
 intro Hz
 refine wcf Hz ?_
 refine wp_exit ?_
 refine hK3 _ _ ?_
 refine regS Hz (.assign rfl .nil) fun Az Hz => ?_
 refine rt1 Hz ?_
 exact ⟨_, rfl, iff_of_true rfl ⟨hs1, ht1, hf1, hn1, hp⟩, m99.only [1]⟩
theorem hat_none {X : Cx} (h : List Ver) (t : Int) (p : Option Addr) (nn c : Nat) (w0 : World) (hl : h.length ≤ 1000000) (hok : ∀ v ∈ h, v.2.length ≤ 1000000) (hr : Rise h) (hA : atF h t = none) (m0 : MemOk X w0 [(1, .dat (.slice p nn c) (.l 2 (h.map itD)))] w0) :
   Calls Tryz.prog 79 #[.slice p nn c, .int .i64 t] w0 fun e w' => e = .returned (.tuple #[.slice none 0 0, .bool false]) ∧ MemOk X w0 [(1, .dat (.slice p nn c) (.l 2 (h.map itD)))] w' := by
 refine (hat_x X h t p nn c w0 hl hok hr m0).mono fun e w' h9 => ?_
 rcases h9 with h9 | ⟨d, p9, c9, h1, h2⟩
 · exact h9.2
 rw [hA] at h1; cases h1
theorem hat_some {X : Cx} (h : List Ver) (t : Int) (p : Option Addr) (nn c : Nat) (w0 : World) (hl : h.length ≤ 1000000) (hok : ∀ v ∈ h, v.2.length ≤ 1000000) (hr : Rise h) {d : List Int} (hA : atF h t = some d) (m0 : MemOk X w0 [(1, .dat (.slice p nn c) (.l 2 (h.map itD)))] w0) :
   Calls Tryz.prog 79 #[.slice p nn c, .int .i64 t] w0 fun e w' => ∃ (p9 : Option Addr) (c9 : Nat), e = .returned (.tuple #[.slice p9 d.length c9, .bool true]) ∧ MemOk X w0 [(1, .dat (.slice p nn c) (.l 2 (h.map itD))), (9, .dat (.slice p9 d.length c9) (.ns .u8 d))] w' := by
 refine (hat_x X h t p nn c w0 hl hok hr m0).mono fun e w' h9 => ?_
 rcases h9 with h9 | ⟨d2, p9, c9, h1, h2⟩
 · rw [hA] at h9; cases h9.1
 rw [hA] at h1; injection h1 with h1; subst h1; exact ⟨p9, c9, h2⟩
theorem cread_some (X : Cx) (vo ch cn sz mk fl : Int) (H : List (List Ver)) (i : Nat) (t : Int) (p : Option Addr) (c : Nat) (w0 : World) (hl : H.length ≤ 1000000) (hok : HsOk H) (hri : ∀ h ∈ H, Rise h) (hi : i < H.length) (hcn : (i : Int) < cn) (hsz : 0 ≤ sz ∧ sz ≤ 32) (hf : fl ≤ t) (hm : t ≤ mk) {d : List Int} (hA : atF (H.getD i []) t = some d) (m0 : MemOk X w0 [(1, .dat (.slice p H.length c) (.l 1 (H.map hD)))] w0) :
   Calls Tryz.prog 33 #[.agg #[.int .i64 vo, .int .i64 ch, .int .i64 cn, .int .i64 sz, .int .i64 mk, .int .i64 fl, .slice p H.length c], .int .i64 i, .int .i64 t] w0 fun e w' => ∃ (p9 : Option Addr) (c9 : Nat), e = .returned (.tuple #[.slice p9 ((atF (H.getD i []) t).getD (List.replicate sz.toNat 0)).length c9, .int .i64 0]) ∧ MemOk X w0 [(1, .dat (.slice p H.length c) (.l 1 (H.map hD))), (9, .dat (.slice p9 ((atF (H.getD i []) t).getD (List.replicate sz.toNat 0)).length c9) (.ns .u8 ((atF (H.getD i []) t).getD (List.replicate sz.toNat 0))))] w' := by
 refine ent3 Tryz.func33 rfl Tryz.ntmps33 fun Az Hz => ?_
 obtain ⟨h9, hes⟩ : ∃ e, H[i]? = some e := ⟨_, List.getElem?_eq_getElem hi⟩
 have hx9 : H.getD i [] = h9 := by rw [List.getD, hes]; rfl
 have hh9 := hok _ (List.mem_of_getElem? hes)
 have hrs := hri _ (List.mem_of_getElem? hes)
 rw [hx9] at hA ⊢
 refine zsr fun K0 hK0 => ?_
 refine plz (e_box Hz m0 20 (cs := [_, _, _, _, _, _, _]) rfl rfl rfl fun g1 Az w2 Hz m2 _ _ => ?_)
 refine gz hK0 Hz (.assign rfl <| .assign rfl <| .nil) fun Az Hz => ?_
 refine wsk fun K1 hK1 => ?_
 refine zsr fun K2 hK2 => ?_
 refine goCh Hz (.move rfl <| .lss rfl rfl <| .move rfl .nil) fun Az Hz => ?_
 refine bc Hz 12 ?_ ?_
 · intro hb _; exact absurd hb (by rw [decide_eq_true_eq]; omega)
 clear Hz; intro _ Hz
 refine goCh Hz (.moveZ rfl <| .faZ 2 rfl U39 <| .loadB1Z m2 (i := 20) rfl rfl rfl U3 rfl <| .geqZ rfl rfl <| .pickF rfl rfl <| .move rfl .nil) fun Az Hz => ?_
 refine bc Hz 18 ?_ ?_
 · intro hb _; exact absurd hb (by rw [decide_eq_true_eq]; omega)
 clear Hz; intro _ Hz
 refine gz hK2 Hz (.moveZ rfl <| .faZ 6 rfl U39 <| .loadB1Z m2 (i := 20) rfl rfl rfl U37 rfl <| .lenZ rfl U37 <| .geqZ rfl rfl <| .pickF rfl rfl <| .nil) fun Az Hz => ?_
 refine bc Hz 24 ?_ ?_
 · intro hb _; exact absurd hb (by rw [decide_eq_true_eq]; omega)
 clear Hz; intro _ Hz
 refine wcf Hz ?_
 refine zss (hK1 _ _ ?_)
 refine wsk fun K3 hK3 => ?_
 replace Hz := Hz.oz [1, 2, 3, 6, 7]
 refine regS Hz (.move rfl <| .fa 5 rfl U39 <| .lb m2 20 U2 rfl rfl rfl <| .lss rfl rfl .nil) fun Az Hz => ?_
 refine bc Hz 28 ?_ ?_
 · intro hb _; exact absurd hb (by rw [decide_eq_true_eq]; omega)
 clear Hz; intro _ Hz
 refine wcf Hz ?_
 refine zss (hK3 _ _ ?_)
 refine wsk fun K4 hK4 => ?_
 refine regS Hz (.move rfl <| .fa 4 rfl U39 <| .lb m2 20 U2 rfl rfl rfl <| .gtr rfl rfl .nil) fun Az Hz => ?_
 refine bc Hz 32 ?_ ?_
 · intro hb _; exact absurd hb (by rw [decide_eq_true_eq]; omega)
 clear Hz; intro _ Hz
 refine wcf Hz ?_
 refine zss (hK4 _ _ ?_)
 refine wsk fun K5 hK5 => ?_
 replace Hz := Hz.oz [1, 2, 3, 6, 7]
 refine zsr fun K6 hK6 => ?_
 refine goCh Hz (.fa 6 rfl U39 <| .lb m2 20 U37 rfl rfl rfl <| .move rfl .nil) fun Az Hz => ?_
 obtain ⟨b45, o45, vs45, hp45, hR45, ho45, m45⟩ := m2.openR (i := 1) rfl (i) (r := [.l 2 (h9.map itD)]) (hD_get hes) 21 rfl
 revert Hz
 cases hp45; clear m2 ho45
 rcases hR45 with _ | ⟨hd45_0, _ | _⟩
 obtain ⟨p46, c46, hv46, hc46⟩ := hd45_0.l_shape; subst hv46
 intro Hz
 have m46 := m45.dat 22 rfl (hd45_0.cast (fun _ h => (free_add rfl h))); clear m45 hd45_0
 refine goCh Hz (.c rfl (fun _ h_ => y_idx h_ rfl rfl U37 fct12 (i) rfl hi) <| .loadC0 m46 (i := 21) rfl rfl U94 rfl <| .move rfl .nil) fun Az Hz => ?_
 refine plz (ecl Hz Tryz.func79 rfl (hat_some h9 t _ _ _ _ hh9.1 hh9.2 hrs hA (m46.into [(1, 22)] (by decide) rfl)) ?_)
 rintro e w50 ⟨p50, c50, rfl, hm50⟩
 have mx50 := m46.back hm50 [(22, 1), (23, 9)] (by decide); clear hm50 m46
 have m50 := mx50.oz [22, 23, 1, 20, 21]
 refine ⟨_, rfl, ?_⟩; intro Az Hz
 refine gz hK6 Hz (.move rfl <| .extract rfl rfl <| .extract rfl rfl <| .assign rfl <| .assign rfl <| .nil) fun Az Hz => ?_
 replace Hz := Hz.oz [3, 6, 7, 8, 9]
 refine regS Hz (.move rfl .nil) fun Az Hz => ?_
 refine wct Hz ?_
 refine regS Hz (.move rfl <| .assign rfl <| .assign rfl .nil) fun Az Hz => ?_
 refine rt2 Hz ?_
 rw [hA]
 exact ⟨_, _, rfl, m50.ren [(1, 1), (9, 23)] (by decide)⟩
theorem cread_none (X : Cx) (vo ch cn sz mk fl : Int) (H : List (List Ver)) (i : Nat) (t : Int) (p : Option Addr) (c : Nat) (w0 : World) (hl : H.length ≤ 1000000) (hok : HsOk H) (hri : ∀ h ∈ H, Rise h) (hi : i < H.length) (hcn : (i : Int) < cn) (hsz : 0 ≤ sz ∧ sz ≤ 32) (hf : fl ≤ t) (hm : t ≤ mk) (hA : atF (H.getD i []) t = none) (m0 : MemOk X w0 [(1, .dat (.slice p H.length c) (.l 1 (H.map hD)))] w0) :
   Calls Tryz.prog 33 #[.agg #[.int .i64 vo, .int .i64 ch, .int .i64 cn, .int .i64 sz, .int .i64 mk, .int .i64 fl, .slice p H.length c], .int .i64 i, .int .i64 t] w0 fun e w' => ∃ (p9 : Option Addr) (c9 : Nat), e = .returned (.tuple #[.slice p9 ((atF (H.getD i []) t).getD (List.replicate sz.toNat 0)).length c9, .int .i64 0]) ∧ MemOk X w0 [(1, .dat (.slice p H.length c) (.l 1 (H.map hD))), (9, .dat (.slice p9 ((atF (H.getD i []) t).getD (List.replicate sz.toNat 0)).length c9) (.ns .u8 ((atF (H.getD i []) t).getD (List.replicate sz.toNat 0))))] w' := by
 refine ent3 Tryz.func33 rfl Tryz.ntmps33 fun Az Hz => ?_
 obtain ⟨h9, hes⟩ : ∃ e, H[i]? = some e := ⟨_, List.getElem?_eq_getElem hi⟩
 have hx9 : H.getD i [] = h9 := by rw [List.getD, hes]; rfl
 have hh9 := hok _ (List.mem_of_getElem? hes)
 have hrs := hri _ (List.mem_of_getElem? hes)
 rw [hx9] at hA ⊢
 refine zsr fun K0 hK0 => ?_
 refine plz (e_box Hz m0 20 (cs := [_, _, _, _, _, _, _]) rfl rfl rfl fun g1 Az w2 Hz m2 _ _ => ?_)
 refine gz hK0 Hz (.assign rfl <| .assign rfl <| .nil) fun Az Hz => ?_
 refine wsk fun K1 hK1 => ?_
 refine zsr fun K2 hK2 => ?_
 refine goCh Hz (.move rfl <| .lss rfl rfl <| .move rfl .nil) fun Az Hz => ?_
 refine bc Hz 12 ?_ ?_
 · intro hb _; exact absurd hb (by rw [decide_eq_true_eq]; omega)
 clear Hz; intro _ Hz
 refine goCh Hz (.moveZ rfl <| .faZ 2 rfl U39 <| .loadB1Z m2 (i := 20) rfl rfl rfl U3 rfl <| .geqZ rfl rfl <| .pickF rfl rfl <| .move rfl .nil) fun Az Hz => ?_
 refine bc Hz 18 ?_ ?_
 · intro hb _; exact absurd hb (by rw [decide_eq_true_eq]; omega)
 clear Hz; intro _ Hz
 refine gz hK2 Hz (.moveZ rfl <| .faZ 6 rfl U39 <| .loadB1Z m2 (i := 20) rfl rfl rfl U37 rfl <| .lenZ rfl U37 <| .geqZ rfl rfl <| .pickF rfl rfl <| .nil) fun Az Hz => ?_
 refine bc Hz 24 ?_ ?_
 · intro hb _; exact absurd hb (by rw [decide_eq_true_eq]; omega)
 clear Hz; intro _ Hz
 refine wcf Hz ?_
 refine zss (hK1 _ _ ?_)
 refine wsk fun K3 hK3 => ?_
 replace Hz := Hz.oz [1, 2, 3, 6, 7]
 refine regS Hz (.move rfl <| .fa 5 rfl U39 <| .lb m2 20 U2 rfl rfl rfl <| .lss rfl rfl .nil) fun Az Hz => ?_
 refine bc Hz 28 ?_ ?_
 · intro hb _; exact absurd hb (by rw [decide_eq_true_eq]; omega)
 clear Hz; intro _ Hz
 refine wcf Hz ?_
 refine zss (hK3 _ _ ?_)
 refine wsk fun K4 hK4 => ?_
 refine regS Hz (.move rfl <| .fa 4 rfl U39 <| .lb m2 20 U2 rfl rfl rfl <| .gtr rfl rfl .nil) fun Az Hz => ?_
 refine bc Hz 32 ?_ ?_
 · intro hb _; exact absurd hb (by rw [decide_eq_true_eq]; omega)
 clear Hz; intro _ Hz
 refine wcf Hz ?_
 refine zss (hK4 _ _ ?_)
 refine wsk fun K5 hK5 => ?_
 replace Hz := Hz.oz [1, 2, 3, 6, 7]
 refine zsr fun K6 hK6 => ?_
 refine goCh Hz (.fa 6 rfl U39 <| .lb m2 20 U37 rfl rfl rfl <| .move rfl .nil) fun Az Hz => ?_
 obtain ⟨b45, o45, vs45, hp45, hR45, ho45, m45⟩ := m2.openR (i := 1) rfl (i) (r := [.l 2 (h9.map itD)]) (hD_get hes) 21 rfl
 revert Hz
 cases hp45; clear m2 ho45
 rcases hR45 with _ | ⟨hd45_0, _ | _⟩
 obtain ⟨p46, c46, hv46, hc46⟩ := hd45_0.l_shape; subst hv46
 intro Hz
 have m46 := m45.dat 22 rfl (hd45_0.cast (fun _ h => (free_add rfl h))); clear m45 hd45_0
 refine goCh Hz (.c rfl (fun _ h_ => y_idx h_ rfl rfl U37 fct12 (i) rfl hi) <| .loadC0 m46 (i := 21) rfl rfl U94 rfl <| .move rfl .nil) fun Az Hz => ?_
 refine plz (ecl Hz Tryz.func79 rfl (hat_none h9 t _ _ _ _ hh9.1 hh9.2 hrs hA (m46.into [(1, 22)] (by decide) rfl)) ?_)
 rintro e w50 ⟨rfl, hm50⟩
 have mx50 := m46.back hm50 [(22, 1)] (by decide); clear hm50 m46
 have m50 := mx50.oz [22, 1, 20, 21]
 refine ⟨_, rfl, ?_⟩; intro Az Hz
 refine gz hK6 Hz (.move rfl <| .extract rfl rfl <| .extract rfl rfl <| .assign rfl <| .assign rfl <| .nil) fun Az Hz => ?_
 replace Hz := Hz.oz [3, 6, 7, 8, 9]
 refine regS Hz (.move rfl .nil) fun Az Hz => ?_
 refine wcf Hz ?_
 refine zss (hK5 _ _ ?_)
 refine zsr fun K7 hK7 => ?_
 refine goCh Hz (.fa 3 rfl U39 <| .lb m50 20 U3 rfl rfl rfl <| .c rfl (fun _ h_ => y_max h_ rfl rfl (r := sz) (by omega)) <| .c rfl (fun _ h_ => y_min h_ rfl rfl (r := sz) (by omega)) .nil) fun Az Hz => ?_
 refine plz (e_makeN Hz m50 23 (sz.toNat) rfl rfl (by omega) (by omega) U22 fct13 (by decide) (by omega) rfl fun p67 c67 Az w68 Hz m68 => ?_)
 refine gz hK7 Hz (.assign rfl <| .assign rfl <| .nil) fun Az Hz => ?_
 refine rt2 Hz ?_
 have m71 := m68.freezeN 23 rfl
 have hE : sz.toNat = (List.replicate sz.toNat (0 : Int)).length := List.length_replicate.symm
 rw [hA]
 simp only [Option.getD_none]
 rw [← hE]
 exact ⟨_, _, rfl, m71.ren [(1, 1), (9, 23)] (by decide)⟩
theorem cread_28 (vo ch cn sz mk fl : Int) (i t : Int) (p : Option Addr) (nn c : Nat) (w0 : World) (hi : i < 0 ∨ cn ≤ i ∨ (nn : Int) ≤ i) :
   Calls Tryz.prog 33 #[.agg #[.int .i64 vo, .int .i64 ch, .int .i64 cn, .int .i64 sz, .int .i64 mk, .int .i64 fl, .slice p nn c], .int .i64 i, .int .i64 t] w0 fun e w' => e = .returned (.tuple #[.slice none 0 0, .int .i64 28]) ∧ Below w0.heap.size w0 w' := by
 refine ent3 Tryz.func33 rfl Tryz.ntmps33 fun Az Hz => ?_
 have m0 := MemOk.start (fun _ => False) w0
 refine zsr fun K0 hK0 => ?_
 refine plz (e_box Hz m0 20 (cs := [_, _, _, _, _, _, _]) rfl rfl rfl fun g1 Az w2 Hz m2 _ _ => ?_)
 refine gz hK0 Hz (.assign rfl <| .assign rfl <| .nil) fun Az Hz => ?_
 refine wsk fun K1 hK1 => ?_
 refine zsr fun K2 hK2 => ?_
 refine goCh Hz (.move rfl <| .lss rfl rfl <| .move rfl .nil) fun Az Hz => ?_
 refine bc Hz 12 ?_ ?_
 ·
  intro hb11 Hz; try simp only [QQ, Qax] at hb11
  refine gz hK2 Hz (.sk <| .sk <| .sk <| .sk <| .pickT rfl rfl <| .move rfl <| .sk <| .sk <| .sk <| .sk <| .sk <| .pickT rfl rfl <| .nil) fun Az Hz => ?_
  refine wct Hz ?_
  replace Hz := Hz.oz [1, 2, 3, 6, 7]
  refine regS Hz (.assign rfl <| .assign rfl .nil) fun Az Hz => ?_
  refine rt2 Hz ?_
  exact ⟨rfl, m2.below⟩
 intro hb11 Hz; try simp only [QQ, Qax] at hb11
 have h12 := hb11
 refine goCh Hz (.moveZ rfl <| .faZ 2 rfl U39 <| .loadB1Z m2 (i := 20) rfl rfl rfl U3 rfl <| .geqZ rfl rfl <| .pickF rfl rfl <| .move rfl .nil) fun Az Hz => ?_
 refine bc Hz 18 ?_ ?_
 ·
  intro hb33 Hz; try simp only [QQ, Qax] at hb33
  refine gz hK2 Hz (.sk <| .sk <| .sk <| .sk <| .sk <| .pickT rfl rfl <| .nil) fun Az Hz => ?_
  refine wct Hz ?_
  replace Hz := Hz.oz [1, 2, 3, 6, 7]
  refine regS Hz (.assign rfl <| .assign rfl .nil) fun Az Hz => ?_
  refine rt2 Hz ?_
  exact ⟨rfl, m2.below⟩
 intro hb33 Hz; try simp only [QQ, Qax] at hb33
 have h18 := hb33
 refine gz hK2 Hz (.moveZ rfl <| .faZ 6 rfl U39 <| .loadB1Z m2 (i := 20) rfl rfl rfl U37 rfl <| .lenZ rfl U37 <| .geqZ rfl rfl <| .pickF rfl rfl <| .nil) fun Az Hz => ?_
 refine bc Hz 24 ?_ ?_
 rotate_left
 · intro hb _; exact absurd hb (by simp at *; omega)
 clear Hz; intro _ Hz
 refine wct Hz ?_
 replace Hz := Hz.oz [1, 2, 3, 6, 7]
 refine regS Hz (.assign rfl <| .assign rfl .nil) fun Az Hz => ?_
 refine rt2 Hz ?_
 exact ⟨rfl, m2.below⟩
theorem cread_32 (vo ch cn sz mk fl : Int) (i t : Int) (p : Option Addr) (nn c : Nat) (w0 : World) (hi : 0 ≤ i ∧ i < cn ∧ i < nn) (hf : fl ≤ t) (hm : mk < t) :
   Calls Tryz.prog 33 #[.agg #[.int .i64 vo, .int .i64 ch, .int .i64 cn, .int .i64 sz, .int .i64 mk, .int .i64 fl, .slice p nn c], .int .i64 i, .int .i64 t] w0 fun e w' => e = .returned (.tuple #[.slice none 0 0, .int .i64 32]) ∧ Below w0.heap.size w0 w' := by
 refine ent3 Tryz.func33 rfl Tryz.ntmps33 fun Az Hz => ?_
 have m0 := MemOk.start (fun _ => False) w0
 refine zsr fun K0 hK0 => ?_
 refine plz (e_box Hz m0 20 (cs := [_, _, _, _, _, _, _]) rfl rfl rfl fun g1 Az w2 Hz m2 _ _ => ?_)
 refine gz hK0 Hz (.assign rfl <| .assign rfl <| .nil) fun Az Hz => ?_
 refine wsk fun K1 hK1 => ?_
 refine zsr fun K2 hK2 => ?_
 refine goCh Hz (.move rfl <| .lss rfl rfl <| .move rfl .nil) fun Az Hz => ?_
 refine bc Hz 12 ?_ ?_
 · intro hb _; exact absurd hb (by rw [decide_eq_true_eq]; omega)
 clear Hz; intro _ Hz
 refine goCh Hz (.moveZ rfl <| .faZ 2 rfl U39 <| .loadB1Z m2 (i := 20) rfl rfl rfl U3 rfl <| .geqZ rfl rfl <| .pickF rfl rfl <| .move rfl .nil) fun Az Hz => ?_
 refine bc Hz 18 ?_ ?_
 · intro hb _; exact absurd hb (by rw [decide_eq_true_eq]; omega)
 clear Hz; intro _ Hz
 refine gz hK2 Hz (.moveZ rfl <| .faZ 6 rfl U39 <| .loadB1Z m2 (i := 20) rfl rfl rfl U37 rfl <| .lenZ rfl U37 <| .geqZ rfl rfl <| .pickF rfl rfl <| .nil) fun Az Hz => ?_
 refine bc Hz 24 ?_ ?_
 · intro hb _; exact absurd hb (by rw [decide_eq_true_eq]; omega)
 clear Hz; intro _ Hz
 refine wcf Hz ?_
 refine zss (hK1 _ _ ?_)
 refine wsk fun K3 hK3 => ?_
 replace Hz := Hz.oz [1, 2, 3, 6, 7]
 refine regS Hz (.move rfl <| .fa 5 rfl U39 <| .lb m2 20 U2 rfl rfl rfl <| .lss rfl rfl .nil) fun Az Hz => ?_
 refine bc Hz 28 ?_ ?_
 · intro hb _; exact absurd hb (by rw [decide_eq_true_eq]; omega)
 clear Hz; intro _ Hz
 refine wcf Hz ?_
 refine zss (hK3 _ _ ?_)
 refine wsk fun K4 hK4 => ?_
 refine regS Hz (.move rfl <| .fa 4 rfl U39 <| .lb m2 20 U2 rfl rfl rfl <| .gtr rfl rfl .nil) fun Az Hz => ?_
 refine bc Hz 32 ?_ ?_
 rotate_left
 · intro hb _; exact absurd hb (by rw [decide_eq_false_iff_not, Decidable.not_not]; omega)
 clear Hz; intro _ Hz
 refine wct Hz ?_
 replace Hz := Hz.oz [1, 2, 3, 6, 7]
 refine regS Hz (.assign rfl <| .assign rfl .nil) fun Az Hz => ?_
 refine rt2 Hz ?_
 exact ⟨rfl, m2.below⟩
end Go.Proofs.YteglmahnkfgelaaGreat.K
