/- General laws of walks: Ab23, Vol33, Vol34, Vol13, Vol20, VolSm, Vol39, Int1, Ab24, Crc5o, LisIn. -/
import Derived.Test.YtcccomafnmdlfaaDoorG4
import Derived.Test.YtcccomafnmdlfaaDoorG3
import Derived.Test.YtcccomafnmdlfaaDoorG2
import Derived.Test.YtcccomafnmdlfaaDoorG1
import Derived.Deep.Matrix
import Derived.OpenShut
section
namespace Go.Proofs.YtcccomafnmdlfaaDoor.K
open Go.ChangeShapes Go.WideShapes Go.ChangeAt Go.RowKit
set_option linter.unusedVariables false
set_option linter.unusedSimpArgs false
section
variable {P : Program} {ops : Array Oper} {Q : Exit → Act → World → Prop} {md : Region.Mode} {listed : Array Bool} {fuel e : Nat} {S : World → Prop} {a : Act} {w : World}
theorem d_three (i j k : Nat) {oi oj ok : Oper} (hi : ops[i]? = some oi) (hj : ops[j]? = some oj) (hk : ops[k]? = some ok) (hr : Region.ready md ops listed = [i, j, k])
   (hwi : Region.wanted oi (Go.yielded ops a.tmps) = true) (hwj : Region.wanted oj (Go.yielded ops a.tmps) = true) (hwk : Region.wanted ok (Go.yielded ops a.tmps) = true)
   (h1 : ∀ K' : Act → World → Prop, (∀ a' w', ((listed.setIfInBounds i true).getD e false = false → S w') → wpAnyE P md ops Q e S fuel (listed.setIfInBounds i true) a' w' → K' a' w') → Oper.wp P oi a w K' Q)
   (h2 : ∀ K' : Act → World → Prop, (∀ a' w', ((listed.setIfInBounds j true).getD e false = false → S w') → wpAnyE P md ops Q e S fuel (listed.setIfInBounds j true) a' w' → K' a' w') → Oper.wp P oj a w K' Q)
   (h3 : ∀ K' : Act → World → Prop, (∀ a' w', ((listed.setIfInBounds k true).getD e false = false → S w') → wpAnyE P md ops Q e S fuel (listed.setIfInBounds k true) a' w' → K' a' w') → Oper.wp P ok a w K' Q) :
   wpAnyE P md ops Q e S (fuel + 1) listed a w := by
 refine ⟨fun h0 => absurd (hr ▸ h0) (by simp), fun q hq => ?_⟩
 rw [hr] at hq
 rcases List.mem_cons.1 hq with rfl | hq
 · refine wpOp_step hi (fun K' hK => ?_)
   rw [if_pos hwi]
   exact h1 K' (fun a' w' h hn => hK a' w' ⟨h, hn⟩)
 rcases List.mem_cons.1 hq with rfl | hq
 · refine wpOp_step hj (fun K' hK => ?_)
   rw [if_pos hwj]
   exact h2 K' (fun a' w' h hn => hK a' w' ⟨h, hn⟩)
 obtain rfl : q = k := by simpa using hq
 refine wpOp_step hk (fun K' hK => ?_)
 rw [if_pos hwk]
 exact h3 K' (fun a' w' h hn => hK a' w' ⟨h, hn⟩)
end
section
variable {P : Program} {n : Nat} {T : List (Nat × Value)} {a : Act} {w w0 : World} {X : Cx} {M : Mm} {tt : TypeId} {pos : String} {af : Array Edge} {gd : Option (Nat × Bool)} {Q : Exit → Act → World → Prop} {K : Act → World → Prop}
theorem e_storeRW (ha : Has n T a) (m : MemOk X w0 M w) (i : Nat) {g l c mm : Nat} {t e : TypeId} {x y : Operand} {rows : List (List D)} {xs : Array Value} {dd : List D} (hm : lk M i = some (.row (.slice (some ⟨g, 0, none⟩) l c) e mm rows)) (J : Nat) (hJ : J < rows.length) {q' : Nat} (hx : evT T x = some (.pointer (some ⟨g, q', none⟩))) (hq' : q' = 0 + J * mm) (hy : evT T y = some (.agg xs)) (hv : xs.toList.all (fun v => v.oneCell') = true) (hl : xs.size = mm) (hs : (P.info? t).map (·.size) = some xs.size) (hdd : RdL (Free X M) w xs.toList dd)
   (h : ∀ w', MemOk X w0 ((i, .row (.slice (some ⟨g, 0, none⟩) l c) e mm (rows.set J dd)) :: M) w' → K a w') : Oper.wp P ⟨none, .store t x y, tt, pos, af, gd⟩ a w K Q := by
 obtain ⟨cs, h1, h2, h3, h4, h5⟩ := m.ok i _ hm
 subst hq'
 have hJc : cs[J]? = some cs[J] := List.getElem?_eq_getElem (by omega)
 rcases h1.2 with ⟨e1, _⟩ | ⟨g', cap, cur, e1, hg', hbk, hnc, hcm, hcs, htk⟩
 · cases e1
 injection e1 with e1 e2 e3
 injection e1 with e1
 injection e1 with e1 e4
 subst e1; subst e2; subst e3
 obtain ⟨o, ho⟩ : ∃ o : Nat, o = 0 := ⟨0, rfl⟩
 have htk : (cur.toList.drop o).take (rows.length * mm) = cs.flatten := by rw [ho]; simpa using htk
 have hJm : J * mm + mm ≤ rows.length * mm := by
   calc J * mm + mm = (J + 1) * mm := by rw [Nat.add_mul]; omega
     _ ≤ rows.length * mm := Nat.mul_le_mul_right _ (by omega)
 have hcapm : rows.length * mm ≤ c * mm := Nat.mul_le_mul_right _ hnc
 have hb : Blk w g e cur.toList := by unfold Blk; rw [Array.toArray_toList]; exact hbk
 have hcl : cur.toList.length = cur.size := Array.length_toList
 have hxl : xs.toList.length = mm := by rw [Array.length_toList, hl]
 obtain ⟨w', hrn, hb', hk⟩ := run_storeVar_blk (P := P) hb (o + J * mm) t xs.toList (by rw [hxl]; omega) (by simpa using hs) (List.all_eq_true.1 hv)
 have hrun : (execOp a.eval ⟨none, .store t x y, tt, pos, af, gd⟩).run P w = .ok .skip w' := by
   have hr' : (Instr.storeAt t (.pointer (some ⟨g, J * mm, none⟩)) (.agg xs)).run P w = .ok () w' := by rw [ho, Nat.zero_add] at hrn; simpa using hrn
   have hx' : evT T x = some (.pointer (some ⟨g, J * mm, none⟩)) := by rw [hx, Nat.zero_add]
   simp [execOp, ha.ev hx', ha.ev hy, hr']
 show Oper.upon P _ a K Q _
 rw [hrun]
 rw [hxl] at hb'
 have hlen : (rows.set J dd).length = rows.length := List.length_set ..
 have hdl : dd.length = mm := by rw [← hdd.len, hxl]
 have hkeep : Keep (fun b => ∃ r, lk M i = some r ∧ r.blk = some b) w w' := (hk (fun b => b = g) rfl).mono (fun b e => ⟨_, hm, by rw [show b = g from e]; rfl⟩)
 refine h w' (m.upd i _ hkeep (fun b hb => .inl ⟨_, hm, hb⟩) (fun hf _ => ⟨cs.set J xs.toList, ?_, by rw [List.length_set, h2, hlen], fun c' hc' => ?_, fun r' hr' => ?_, fun j q2 c' r' x' d a1 a2 a3 a4 => ?_⟩))
 · have hfl : cs.flatten.length = rows.length * mm := h1.1
   rw [hlen, ← flatten_put xs.toList hxl cs J (fun c hc => (h3 c hc).1) (by omega)]
   refine ⟨by simp only [List.length_append, List.length_take, List.length_drop, hxl, hfl]; omega, .inr ⟨g, c, (cur.toList.take (o + J * mm) ++ xs.toList ++ cur.toList.drop (o + J * mm + mm)).toArray, rfl, hg', hb', hnc, hcm, ?_, ?_⟩⟩
   · simp only [List.size_toArray, List.length_append, List.length_take, List.length_drop, hxl, hcl]; omega
   rw [← htk]
   show List.take (rows.length * mm) (cur.toList.take (o + J * mm) ++ xs.toList ++ cur.toList.drop (o + J * mm + mm)) = _
   rw [show (cur.toList.take (o + J * mm) ++ xs.toList ++ cur.toList.drop (o + J * mm + mm)) = (cur.toList.take (o + J * mm) ++ xs.toList ++ cur.toList.drop (o + J * mm + mm)).drop o by rw [ho, List.drop_zero]]
   generalize rows.length * mm = N at *
   generalize J * mm = j at *
   apply List.ext_getElem?
   intro k
   rw [List.getElem?_take]
   by_cases hkN : k < N
   · rw [if_pos hkN, List.getElem?_drop]
     by_cases k1 : k < j
     · rw [List.getElem?_append_left (by simp; omega), List.getElem?_append_left (by simp; omega), List.getElem?_take_of_lt (by omega)]
       rw [List.getElem?_append_left (by simp; omega), List.getElem?_append_left (by simp; omega), List.getElem?_take_of_lt (by omega), List.getElem?_take_of_lt (by omega), List.getElem?_drop]
     by_cases k2 : k < j + mm
     · rw [List.getElem?_append_left (by simp; omega), List.getElem?_append_right (by simp; omega)]
       rw [List.getElem?_append_left (by simp; omega), List.getElem?_append_right (by simp; omega)]
       congr 1; simp; omega
     rw [List.getElem?_append_right (by simp; omega), List.getElem?_append_right (by simp; omega)]
     simp only [List.getElem?_drop, List.length_append, List.length_take, List.length_drop, hxl, hcl]
     rw [List.getElem?_take_of_lt (by omega), List.getElem?_drop]
     congr 1; omega
   rw [if_neg hkN, List.getElem?_eq_none]
   simp only [List.length_append, List.length_take, List.length_drop, hxl, hcl]
   omega
 · rcases List.mem_or_eq_of_mem_set hc' with hc' | rfl
   · exact h3 c' hc'
   exact ⟨hxl, List.all_eq_true.1 hv⟩
 · rcases List.mem_or_eq_of_mem_set hr' with hr' | rfl
   · exact h4 r' hr'
   exact hdl
 have hmono : ∀ b, b < w.heap.size → Free X M b → w'.heap[b]? = w.heap[b]? ∧ Free X ((i, Res.row (.slice (some ⟨g, 0, none⟩) rows.length c) e mm (rows.set J dd)) :: M) b := fun b hlt hF => ⟨(hk (fun b => b = g) rfl).2.2.2.2 b hlt (fun e => hF.2 ⟨i, _, hm, by rw [show b = g from e]; rfl⟩), hf b hlt hF⟩
 have hsz := hkeep.size
 by_cases hjJ : j = J
 · subst hjJ
   rw [List.getElem?_set_self (by omega)] at a1
   rw [List.getElem?_set_self (by omega)] at a2
   cases a1; cases a2
   exact (hdd.get _ _ _ a3 a4).mono hsz hmono
 rw [List.getElem?_set_ne (by omega)] at a1
 rw [List.getElem?_set_ne (by omega)] at a2
 exact (h5 j q2 c' r' x' d a1 a2 a3 a4).mono hsz hmono
end
section
variable {w w0 : World} {X : Cx} {M : Mm}
theorem MemOk.callF2 (m : MemOk X w0 M w) (i j : Nat) {w' : World} {u v : Value} {d e : D} (hi : lk M i = none) (hj : lk ((i, .dat u d) :: M) j = none) (hb : Below w.heap.size w w') (h1 : Rd (New w) w' u d) (h2 : Rd (New w) w' v e) : MemOk X w0 ((j, .dat v e) :: (i, .dat u d) :: M) w' :=
 (m.callF i hi hb h1).dat j hj (h2.cast (fun b hb => free_add rfl (m.free_out (.inr hb))))
theorem MemOk.callF3 (m : MemOk X w0 M w) (i j k : Nat) {w' : World} {u v t : Value} {d e f : D} (hi : lk M i = none) (hj : lk ((i, .dat u d) :: M) j = none) (hk : lk ((j, .dat v e) :: (i, .dat u d) :: M) k = none) (hb : Below w.heap.size w w') (h1 : Rd (New w) w' u d) (h2 : Rd (New w) w' v e) (h3 : Rd (New w) w' t f) : MemOk X w0 ((k, .dat t f) :: (j, .dat v e) :: (i, .dat u d) :: M) w' :=
 (m.callF2 i j hi hj hb h1 h2).dat k hk (h3.cast (fun b hb => free_add rfl (free_add rfl (m.free_out (.inr hb)))))
end
section
variable {P : Program} {ops : Array Oper} {Q : Exit → Act → World → Prop} {a : Act} {w : World} {md : Region.Mode} {e fuel : Nat} {S : World → Prop} {listed : Array Bool}
theorem dth (i j k : Nat) {oi oj ok : Oper} (h1 : Oper.wp P oi a w (fun a' w' => ((listed.setIfInBounds i true).getD e false = false → S w') ∧ wpAnyE P md ops Q e S fuel (listed.setIfInBounds i true) a' w') Q) (h2 : Oper.wp P oj a w (fun a' w' => ((listed.setIfInBounds j true).getD e false = false → S w') ∧ wpAnyE P md ops Q e S fuel (listed.setIfInBounds j true) a' w') Q) (h3 : Oper.wp P ok a w (fun a' w' => ((listed.setIfInBounds k true).getD e false = false → S w') ∧ wpAnyE P md ops Q e S fuel (listed.setIfInBounds k true) a' w') Q) (hi : ops[i]? = some oi := by rfl) (hj : ops[j]? = some oj := by rfl) (hk : ops[k]? = some ok := by rfl) (hr : Region.ready md ops listed = [i, j, k] := by kernel_rfl) (hwi : Region.wanted oi (Go.yielded ops a.tmps) = true := by rfl) (hwj : Region.wanted oj (Go.yielded ops a.tmps) = true := by rfl) (hwk : Region.wanted ok (Go.yielded ops a.tmps) = true := by rfl) : wpAnyE P md ops Q e S (fuel + 1) listed a w :=
  d_three i j k hi hj hk hr hwi hwj hwk (fun _ hK => Oper.wp_mono (fun a' w' h => hK a' w' h.1 h.2) h1) (fun _ hK => Oper.wp_mono (fun a' w' h => hK a' w' h.1 h.2) h2) (fun _ hK => Oper.wp_mono (fun a' w' h => hK a' w' h.1 h.2) h3)
end
end Go.Proofs.YtcccomafnmdlfaaDoor.K
end
section
namespace Go.Proofs.YtcccomafnmdlfaaDoor.K
open Go.ChangeShapes Go.WideShapes Go.ChangeAt Go.RowKit
set_option linter.unusedVariables false
set_option linter.unusedSimpArgs false
theorem fl31mV : flatS Tryd.prog 31 [.int .i64 0, .int .i64 0, .int .i64 0, .int .i64 0, .slice none 0 0, .int .i64 0, .int .i64 0, .bool false, .int .i64 0, .slice none 0 0, .slice none 0 0] = true := by kernel_rfl
theorem fl85mA : flatS Tryd.prog 85 [.int .i64 0, .int .i64 0, .int .i64 0, .int .i64 0, .slice none 0 0] = true := by kernel_rfl
def volZ : VolV := ⟨0, 0, 0, 0, [], 0, 0, false, 0, [], []⟩
def newV (vo bl sz pe to : Int) (place : List Int) : VolV := ⟨vo, bl, sz, pe, place, to, 0, decide (0 < to), 0, [], []⟩
theorem newV_s {n : Nat} {vo bl sz pe to : Int} {place : List Int} (hN : NewOk vo bl sz pe to place) : VolS n (newV vo bl sz pe to place) := ⟨VolR.new hN, fun _ => rfl, Nat.zero_le _, Nat.zero_le _, fun _ h => by cases h⟩
theorem Rd.capL {S : Nat → Prop} {w : World} {p : Option Addr} {l c m : Nat} {rows : List (List D)} (h : Rd S w (.slice p l c) (.l m rows)) : rows.length ≤ c := by
 obtain ⟨pq, cq, hv, hc⟩ := h.l_shape
 injection hv with _ _ e3; omega
theorem itok {d : List Int} (h : d.length ≤ 32) : d.length ≤ 140737488351232 := by omega
theorem rnew_non (kd vo bl sz pe to at0 ix : Int) (place : List Int) (pp pi : Option Addr) (cp ni ci : Nat) (w0 : World) (h0 : Rd (fun _ => True) w0 (.slice pp place.length cp) (.ns .i64 place)) (hn : place.length ≤ 1000000) (hN : ¬ NewOk vo bl sz pe to place) :
   Calls Tryd.prog 37 #[.agg #[.int .i64 kd, .int .i64 vo, .int .i64 bl, .int .i64 sz, .int .i64 pe, .slice pp place.length cp, .int .i64 to, .int .i64 at0, .int .i64 ix, .slice pi ni ci]] w0 fun e w' => e = .returned (.tuple #[.agg #[.int .i64 0, .int .i64 0, .int .i64 0, .int .i64 0, .slice none 0 0, .int .i64 0, .int .i64 0, .bool false, .int .i64 0, .slice none 0 0, .slice none 0 0], .int .i64 23]) ∧ Below w0.heap.size w0 w' :=
 (rnew_any kd vo bl sz pe to at0 ix place pp pi cp ni ci w0 h0 hn).mono (fun _ _ h => h.elim (fun h => absurd h.1 hN) (fun h => h.2))
set_option maxRecDepth 100000
set_option maxHeartbeats 4000000
theorem rmVol (X : Cx) (B : Nat) (L : List VolV) (p : Option Addr) (c : Nat) (vo : Int) (w0 : World) (hl : L.length ≤ 1000000) (m0 : MemOk X w0 [(1, .box B 77 [.slice p (L.map volD).length c]), (2, .dat (.slice p (L.map volD).length c) (.l 11 (L.map volD)))] w0) :
   Calls Tryd.prog 33 #[.pointer (some ⟨B, 0, none⟩), .int .i64 vo] w0 fun e w' => ∃ (x : VolV) (there : Bool) (p1 p2 p3 : Option Addr) (d1 d2 d3 : Nat), e = .returned (.tuple #[.agg #[.int .i64 x.vo, .int .i64 x.bl, .int .i64 x.sz, .int .i64 x.pe, .slice p1 x.place.length d1, .int .i64 x.to, .int .i64 x.ne, .bool x.hi, .int .i64 x.fl, .slice p2 x.pins.length d2, .slice p3 (x.ws.map wrD).length d3], .bool there]) ∧ (there = true → x ∈ L) ∧ (there = false → x = volZ) ∧ MemOk X w0 [(1, .box B 77 [.slice p (L.map volD).length c]), (2, .dat (.slice p (L.map volD).length c) (.l 11 (L.map volD))), (3, .dat (.slice p1 x.place.length d1) (.ns .i64 x.place)), (4, .dat (.slice p2 x.pins.length d2) (.ns .i64 x.pins)), (5, .dat (.slice p3 (x.ws.map wrD).length d3) (.l 2 (x.ws.map wrD)))] w' := by
 refine ent2 Tryd.func33 rfl Tryd.ntmps33 fun Az Hz => ?_
 refine zsr fun K0 hK0 => ?_
 refine plz (e_alloc Hz m0 20 fct11 rfl fun g1 Az w2 Hz m2 _ _ => ?_)
 refine gz hK0 Hz (.assign rfl .nil) fun Az Hz => ?_
 refine zsr fun K1 hK1 => ?_
 refine goCh Hz (.move rfl <| .move rfl .nil) fun Az Hz => ?_
 refine plz (ecl Hz Tryd.func52 rfl (rfind _ _ L _ _ _ _ hl (m2.into [(1, 1), (2, 2)] (by decide) rfl)) ?_)
 rintro e w8 ⟨j, rfl, hj1, hj2, hm8⟩
 have mx8 := m2.back hm8 [(1, 1), (2, 2)] (by decide); clear hm8 m2
 have m8 := mx8.oz [1, 2, 20]
 refine ⟨_, rfl, ?_⟩; intro Az Hz
 refine gz hK1 Hz (.assign rfl .nil) fun Az Hz => ?_
 refine wsk fun K2 hK2 => ?_
 refine regS Hz (.move rfl <| .lss rfl rfl .nil) fun Az Hz => ?_
 refine bc Hz 11 ?_ ?_
 ·
  intro hb13 Hz; try simp only [QQ, Qax] at hb13
  refine wct Hz ?_
  replace Hz := Hz.oz [0, 4, 5, 6]
  refine zsr fun K3 hK3 => ?_
  refine goCh Hz (.build rfl fct11 fl31mV rfl (by dsimp only [setL, List.set] <;> rfl) .nil) fun Az Hz => ?_
  refine plz (stw Hz m8 20 fct10 fun w17 m17 _ => ?_)
  refine gz hK3 Hz (.assign rfl .nil) fun Az Hz => ?_
  refine rtd (retCT (fn := Tryd.f33) Hz m17 (i := 20) rfl rfl rfl rfl U31 rfl fct10 ?_)
  have mA := m17.dat 91 rfl (Rd.nilN _ _ .i64 none)
  have mB := mA.dat 92 rfl (Rd.nilN _ _ .i64 none)
  have mC := mB.dat 93 rfl (Rd.l0 none 0 2)
  exact ⟨volZ, false, _, _, _, _, _, _, rfl, (fun h => by cases h), (fun _ => rfl), mC.ren [(1, 1), (2, 2), (3, 91), (4, 92), (5, 93)] (by decide)⟩
 intro hb13 Hz; try simp only [QQ, Qax] at hb13
 revert Hz
 obtain ⟨jn, rfl⟩ : ∃ jn : Nat, j = (jn : Int) := ⟨j.toNat, by omega⟩
 intro Hz
 have hjl : jn < L.length := by omega
 obtain ⟨x, hes⟩ : ∃ x, L[jn]? = some x := ⟨_, List.getElem?_eq_getElem hjl⟩
 refine wcf Hz ?_
 refine zss (hK2 _ _ ?_)
 replace Hz := Hz.oz [0, 4, 5, 6]
 refine zsr fun K4 hK4 => ?_
 refine goCh Hz (.move rfl <| .nilCheck rfl <| .fa 0 rfl U77 <| .lb m8 1 U75 rfl rfl rfl <| .move rfl .nil) fun Az Hz => ?_
 obtain ⟨b31, o31, vs31, hp31, hR31, ho31, m31⟩ := m8.openR (i := 2) rfl (jn) (r := [.v (.int .i64 x.vo), .v (.int .i64 x.bl), .v (.int .i64 x.sz), .v (.int .i64 x.pe), .ns .i64 x.place, .v (.int .i64 x.to), .v (.int .i64 x.ne), .v (.bool x.hi), .v (.int .i64 x.fl), .ns .i64 x.pins, .l 2 (x.ws.map wrD)]) (volD_get hes) 21 rfl
 revert Hz
 cases hp31; clear m8 ho31
 rcases hR31 with _ | ⟨hd31_0, _ | ⟨hd31_1, _ | ⟨hd31_2, _ | ⟨hd31_3, _ | ⟨hd31_4, _ | ⟨hd31_5, _ | ⟨hd31_6, _ | ⟨hd31_7, _ | ⟨hd31_8, _ | ⟨hd31_9, _ | ⟨hd31_10, _ | _⟩⟩⟩⟩⟩⟩⟩⟩⟩⟩⟩
 obtain rfl := hd31_0.v_out
 clear hd31_0
 obtain rfl := hd31_1.v_out
 clear hd31_1
 obtain rfl := hd31_2.v_out
 clear hd31_2
 obtain rfl := hd31_3.v_out
 clear hd31_3
 obtain ⟨p32, c32, hv32, hc32⟩ := hd31_4.ns_shape; subst hv32
 intro Hz
 have m32 := m31.dat 22 rfl (hd31_4.cast (fun _ h => (free_add rfl h))); clear m31 hd31_4
 revert Hz
 obtain rfl := hd31_5.v_out
 clear hd31_5
 obtain rfl := hd31_6.v_out
 clear hd31_6
 obtain rfl := hd31_7.v_out
 clear hd31_7
 obtain rfl := hd31_8.v_out
 clear hd31_8
 obtain ⟨p33, c33, hv33, hc33⟩ := hd31_9.ns_shape; subst hv33
 intro Hz
 have m33 := m32.dat 23 rfl (hd31_9.cast (fun _ h => (free_add rfl (free_add rfl h)))); clear m32 hd31_9
 revert Hz
 obtain ⟨p34, c34, hv34, hc34⟩ := hd31_10.l_shape; subst hv34
 intro Hz
 have m34 := m33.dat 24 rfl (hd31_10.cast (fun _ h => (free_add rfl (free_add rfl (free_add rfl h))))); clear m33 hd31_10
 refine goCh Hz (.c rfl (fun _ h => y_idx h rfl rfl U75 fct10 (jn) rfl (by simpa using hjl)) <| .loadCR m34 (i := 21) rfl rfl U31 rfl fct10 .nil) fun Az Hz => ?_
 refine plz (stw Hz m34 20 fct10 fun w37 m37 _ => ?_)
 refine gz hK4 Hz (.assign rfl .nil) fun Az Hz => ?_
 refine rtd (retCT (fn := Tryd.f33) Hz m37 (i := 20) rfl rfl rfl rfl U31 rfl fct10 ?_)
 exact ⟨x, true, _, _, _, _, _, _, rfl, (fun _ => List.mem_of_getElem? hes), (fun h => by cases h), m37.ren [(1, 1), (2, 2), (3, 22), (4, 23), (5, 24)] (by decide)⟩
theorem rmApply (X : Cx) (B n : Nat) (L : List VolV) (p : Option Addr) (c : Nat) (b : List Int) (pb : Option Addr) (cb : Nat) (w0 : World) (hM : MacS n L) (hn : n ≤ 800000) (hb : b.length ≤ 1000000) (hbb : BytesL b) (m0 : MemOk X w0 [(1, .box B 77 [.slice p (L.map volD).length c]), (2, .dat (.slice p (L.map volD).length c) (.l 11 (L.map volD))), (3, .dat (.slice pb b.length cb) (.ns .u8 b))] w0) :
   Calls Tryd.prog 36 #[.pointer (some ⟨B, 0, none⟩), .slice pb b.length cb] w0 fun e w' => ∃ (e9 rl rf rn : Int) (L' : List VolV) (p' : Option Addr) (c' : Nat), e = .returned (.agg #[.int .i64 e9, .int .i64 rl, .int .i64 rf, .int .i64 rn, .slice none 0 0]) ∧ MacS (n + 1) L' ∧ MemOk X w0 [(1, .box B 77 [.slice p' (L'.map volD).length c']), (2, .dat (.slice p' (L'.map volD).length c') (.l 11 (L'.map volD)))] w' := by
 refine ent2 Tryd.func36 rfl Tryd.ntmps36 fun Az Hz => ?_
 have hl : L.length ≤ 1000000 := by have := hM.1; omega
 have hlm : (L.map volD).length ≤ 1000000 := by simpa using hl
 refine zsr fun K0 hK0 => ?_
 refine plz (e_alloc Hz m0 20 fct30 rfl fun g1 Az w2 Hz m2 _ _ => ?_)
 refine znl (hK0 _ _ ?_)
 refine zsr fun K1 hK1 => ?_
 refine goCh Hz (.move rfl .nil) fun Az Hz => ?_
 refine plz (ecl Hz Tryd.func58 rfl (rreadCmd _ b _ _ _ hb hbb (m2.into [(1, 3)] (by decide) rfl)) ?_)
 rintro e w5 ⟨kd, vo, bl, sz, pe, to, at0, ix, place, items, pp5, cp5, pi5, ci5, er, rfl, hpl, hil, hii, hm5⟩
 have mx5 := m2.back hm5 [(21, 1), (22, 2)] (by decide); clear hm5 m2
 have m5 := mx5.oz [21, 22, 1, 2, 20]
 refine ⟨_, rfl, ?_⟩; intro Az Hz
 refine goCh Hz (.move rfl <| .extract rfl rfl <| .extract rfl rfl .nil) fun Az Hz => ?_
 refine plz (e_alloc Hz m5 23 fct21 rfl fun g10 Az w11 Hz m11 _ _ => ?_)
 refine plz (stw Hz m11 23 fct20 fun w12 m12 _ => ?_)
 refine gz hK1 Hz (.assign rfl .nil) fun Az Hz => ?_
 refine wsk fun K2 hK2 => ?_
 replace Hz := Hz.oz [0, 4, 5, 6]
 refine regS Hz (.move rfl <| .neq rfl rfl .nil) fun Az Hz => ?_
 refine bc Hz 19 ?_ ?_
 ·
  intro hb17 Hz; try simp only [QQ, Qax] at hb17
  refine wct Hz ?_
  refine zsr fun K3 hK3 => ?_
  refine goCh Hz (.build rfl fct30 fl85mA rfl (by dsimp only [setL, List.set] <;> rfl) .nil) fun Az Hz => ?_
  refine plz (stw Hz m12 20 fct29 fun w20 m20 _ => ?_)
  refine znl (hK3 _ _ ?_)
  refine rtd (retC (fn := Tryd.f36) Hz m20 (i := 20) rfl rfl rfl U85 rfl fct29 ?_)
  exact ⟨_, _, _, _, L, _, _, rfl, hM.up (by omega), m20.only [1, 2]⟩
 intro hb17 Hz; try simp only [QQ, Qax] at hb17
 refine wcf Hz ?_
 refine zss (hK2 _ _ ?_)
 refine zsr fun K4 hK4 => ?_
 refine goCh Hz (.move rfl <| .fa 1 rfl U82 <| .lb m12 23 U3 rfl rfl rfl .nil) fun Az Hz => ?_
 refine plz (ecl Hz Tryd.func52 rfl (rfind _ _ L _ _ _ _ hl (m12.into [(1, 1), (2, 2)] (by decide) rfl)) ?_)
 rintro e w27 ⟨j, rfl, hj1, hj2, hm27⟩
 have mx27 := m12.back hm27 [(1, 1), (2, 2)] (by decide); clear hm27 m12
 have m27 := mx27.oz [1, 2, 20, 21, 22, 23]
 refine ⟨_, rfl, ?_⟩; intro Az Hz
 refine gz hK4 Hz (.assign rfl .nil) fun Az Hz => ?_
 replace Hz := Hz.oz [0, 4, 5, 7]
 refine zsr fun K5 hK5 => ?_
 refine goCh Hz (.move rfl <| .nilCheck rfl <| .fa 0 rfl U77 <| .lb m27 1 U75 rfl rfl rfl .nil) fun Az Hz => ?_
 have m39 := m27.nilR 24 31 11
 refine plz (e_appR Hz m39 24 rfl rfl rfl (m39.rd (i := 2) rfl) U75 fct35 rfl rfl (by decide) (by simp; omega) rfl fun p40 c40 Az w41 Hz m41 => ?_)
 refine gz hK5 Hz (.assign rfl .nil) fun Az Hz => ?_
 refine wsk fun K6 hK6 => ?_
 refine regS Hz (.fa 0 rfl U82 <| .lb m41 23 U3 rfl rfl rfl <| .eql rfl rfl .nil) fun Az Hz => ?_
 refine bc Hz 32 ?_ ?_
 ·
  intro hb46 Hz; try simp only [QQ, Qax] at hb46
  have hkd : kd = 1 := by simpa using hb46
  refine wct Hz ?_
  refine wsk fun K7 hK7 => ?_
  replace Hz := Hz.oz [0, 4, 5, 7, 8]
  refine zsr fun K8 hK8 => ?_
  have m49 := m41.freezeR 24 rfl
  refine gz hK8 Hz (.move rfl <| .geq rfl rfl <| .nil) fun Az Hz => ?_
  refine bc Hz 34 ?_ ?_
  ·
   intro hb52 Hz; try simp only [QQ, Qax] at hb52
   refine wct Hz ?_
   refine zsr fun K9 hK9 => ?_
   refine goCh Hz (.build rfl fct30 fl85mA rfl (by dsimp only [setL, List.set] <;> rfl) .nil) fun Az Hz => ?_
   refine plz (stw Hz m49 20 fct29 fun w55 m55 _ => ?_)
   refine znl (hK9 _ _ ?_)
   refine rtd (retC (fn := Tryd.f36) Hz m55 (i := 20) rfl rfl rfl U85 rfl fct29 ?_)
   exact ⟨_, _, _, _, L, _, _, rfl, hM.up (by omega), m55.only [1, 2]⟩
  intro hb52 Hz; try simp only [QQ, Qax] at hb52
  refine wcf Hz ?_
  refine zss (hK7 _ _ ?_)
  refine wsk fun K10 hK10 => ?_
  by_cases hN : NewOk vo bl sz pe to place
  ·
   refine wp_region_lit ?_
   refine goCh Hz (.loadBR m49 (i := 23) rfl rfl U82 rfl fct20 (by simp) (by dsimp only [List.drop, List.take] <;> rfl) .nil) fun Az Hz => ?_
   refine plz (ecl Hz Tryd.func37 rfl (rnew_yes _ vo bl sz pe to _ _ place _ _ _ _ _ _ ((m49.rd (i := 21) rfl).any) (by omega) hN) ?_)
   rintro e w57 ⟨p57, c57, rfl, hd57, hb57⟩
   have m58 := m49.callF 25 rfl hb57 hd57
   refine ⟨_, rfl, ?_⟩; intro Az Hz
   refine goCh Hz (.move rfl <| .extract rfl rfl <| .extract rfl rfl .nil) fun Az Hz => ?_
   refine plz (e_alloc Hz m58 26 fct11 rfl fun g63 Az w64 Hz m64 _ _ => ?_)
   refine plz (stw Hz m64 26 fct10 fun w65 m65 _ => ?_)
   refine gz hK10 Hz (.assign rfl .nil) fun Az Hz => ?_
   refine wsk fun K11 hK11 => ?_
   replace Hz := Hz.oz [0, 4, 5, 7, 8, 9, 10]
   refine regS Hz (.move rfl <| .neq rfl rfl .nil) fun Az Hz => ?_
   refine bc Hz 42 ?_ ?_
   · intro hb _; exact absurd hb (by simp)
   clear Hz; intro _ Hz
   refine wcf Hz ?_
   refine zss (hK11 _ _ ?_)
   refine regS Hz (.assign rfl .nil) fun Az Hz => ?_
   refine wsk fun K12 hK12 => ?_
   refine wp_block ?_
   refine wp_loop_ghost (fun g a w => ∃ (k B4 B5 B9 c8 c9 n1 d1 n2 d2 : Nat) (p8 p9 q1 q2 : Option Addr), k ≤ (L.map volD).length ∧ g = (L.map volD).length - k ∧ Has 97 [(0, .pointer (some ⟨B, 0, none⟩)), (4, .pointer (some ⟨B4, 0, none⟩)), (5, .pointer (some ⟨B5, 0, none⟩)), (7, .int .i64 k), (8, .slice p8 (L.map volD).length c8), (9, .pointer (some ⟨B9, 0, none⟩))] a ∧ MemOk X w0 [(1, .box B 77 [.slice p (L.map volD).length c]), (2, .dat (.slice p (L.map volD).length c) (.l 11 (L.map volD))), (4, .box B4 85 [.int .i64 0, .int .i64 0, .int .i64 0, .int .i64 0, .slice none 0 0]), (5, .box B5 82 [.int .i64 kd, .int .i64 vo, .int .i64 bl, .int .i64 sz, .int .i64 pe, .slice q1 n1 d1, .int .i64 to, .int .i64 at0, .int .i64 ix, .slice q2 n2 d2]), (9, .box B9 31 [.int .i64 vo, .int .i64 bl, .int .i64 sz, .int .i64 pe, .slice p9 place.length c9, .int .i64 to, .int .i64 0, .bool (decide (0 < to)), .int .i64 0, .slice none 0 0, .slice none 0 0]), (8, .dat (.slice p8 (L.map volD).length c8) (.l 11 (L.map volD))), (10, .dat (.slice p9 place.length c9) (.ns .i64 place))] w) ((L.map volD).length) ?_ ?_
   · exact ⟨0, _, _, _, _, _, _, _, _, _, _, _, _, _, Nat.zero_le _, rfl, Hz.only [0, 4, 5, 7, 8, 9], m65.ren [(1, 1), (2, 2), (4, 20), (5, 23), (9, 26), (8, 24), (10, 25)] (by decide)⟩
   clear Hz m65
   rintro g Az w72 ⟨k, B4, B5, B9, c8, c9, n1, d1, n2, d2, p8, p9, q1, q2, hkl, hg, Hz, m72⟩
   refine wsk fun K13 hK13 => ?_
   refine wsk fun K14 hK14 => ?_
   by_cases hk : k < (L.map volD).length
   ·
    obtain ⟨z9, hes9⟩ : ∃ x, L[k]? = some x := ⟨_, List.getElem?_eq_getElem (by simpa using hk)⟩
    obtain ⟨b73, o73, vs73, hp73, hR73, ho73, m73⟩ := m72.openR (i := 8) rfl (k) (r := [.v (.int .i64 z9.vo), .v (.int .i64 z9.bl), .v (.int .i64 z9.sz), .v (.int .i64 z9.pe), .ns .i64 z9.place, .v (.int .i64 z9.to), .v (.int .i64 z9.ne), .v (.bool z9.hi), .v (.int .i64 z9.fl), .ns .i64 z9.pins, .l 2 (z9.ws.map wrD)]) (volD_get hes9) 100 rfl
    revert Hz
    cases hp73; clear m72 ho73
    rcases hR73 with _ | ⟨hd73_0, _ | ⟨hd73_1, _ | ⟨hd73_2, _ | ⟨hd73_3, _ | ⟨hd73_4, _ | ⟨hd73_5, _ | ⟨hd73_6, _ | ⟨hd73_7, _ | ⟨hd73_8, _ | ⟨hd73_9, _ | ⟨hd73_10, _ | _⟩⟩⟩⟩⟩⟩⟩⟩⟩⟩⟩
    obtain rfl := hd73_0.v_out
    clear hd73_0
    obtain rfl := hd73_1.v_out
    clear hd73_1
    obtain rfl := hd73_2.v_out
    clear hd73_2
    obtain rfl := hd73_3.v_out
    clear hd73_3
    obtain ⟨p74, c74, hv74, hc74⟩ := hd73_4.ns_shape; subst hv74
    intro Hz
    have m74 := m73.dat 101 rfl (hd73_4.cast (fun _ h => (free_add rfl h))); clear m73 hd73_4
    revert Hz
    obtain rfl := hd73_5.v_out
    clear hd73_5
    obtain rfl := hd73_6.v_out
    clear hd73_6
    obtain rfl := hd73_7.v_out
    clear hd73_7
    obtain rfl := hd73_8.v_out
    clear hd73_8
    obtain ⟨p75, c75, hv75, hc75⟩ := hd73_9.ns_shape; subst hv75
    intro Hz
    have m75 := m74.dat 102 rfl (hd73_9.cast (fun _ h => (free_add rfl (free_add rfl h)))); clear m74 hd73_9
    revert Hz
    obtain ⟨p76, c76, hv76, hc76⟩ := hd73_10.l_shape; subst hv76
    intro Hz
    have m76 := m75.dat 103 rfl (hd73_10.cast (fun _ h => (free_add rfl (free_add rfl (free_add rfl h))))); clear m75 hd73_10
    have m77 := m76.oz [1, 2, 4, 5, 8, 9, 10, 100, 101, 102, 103]
    refine region_p 14 (B := [(1, _), (2, _), (4, _), (5, _), (8, _), (9, _), (10, _), (100, _), (101, _), (102, _), (103, _)]) (m77.to ⟨il, il, il, il, il, il, il, il, il, il, il, trivial⟩) m77 (by kernel_rfl) (fun w78 hP78 m78 => ?_); clear m77
    refine goA hP78 [0, 1, 2, 3, 4] 5 0 31 Hz (m78.to ⟨il, il, il, il, il, il, il, il, il, il, il, trivial⟩) (.move rfl <| .move rfl <| .len rfl U75 <| .lss rfl rfl <| .move rfl .nil) fun Az Hz => ?_
    refine bc Hz 49 ?_ ?_
    rotate_left
    · intro hb _; exact absurd hb (by simpa using hk)
    clear Hz; intro _ Hz
    refine goR hP78 [5, 6, 7, 8, 9, 10, 11, 12, 13] [9, 11] 9 31 16383 Hz (m78.to ⟨il, il, il, il, il, il, il, il, il, il, il, trivial⟩) (.move rfl <| .move rfl <| .p (fun _ _ h => y_idx h rfl rfl U75 fct10 (k) rfl hk) <| .fieldAddrQ 0 rfl U31 rfl (s := 0) (by kernel_rfl) rfl <| .loadC0 hh (i := 100) rfl rfl U3 rfl <| .fa 1 rfl U82 <| .lb hh 5 U3 rfl rfl rfl <| .lss rfl rfl <| .pickT rfl rfl .nil) fun Az Hz => ?_
    refine wpAnyE_done (by kernel_rfl) ?_ _
    refine hK14 _ _ ?_
    refine bc Hz 58 ?_ ?_
    ·
     intro hb94 Hz; try simp only [QQ, Qax] at hb94
     refine wct Hz ?_
     refine zss (hK13 _ _ ?_)
     refine wp_block ?_
     replace Hz := Hz.oz [0, 4, 5, 7, 8, 9]
     refine wp_region_lit ?_
     refine goCh Hz (.move rfl <| .inc (k + 1) <| .assign rfl .nil) fun Az Hz => ?_
     refine wpList_nil ?_
     show ∃ n', n' < _ ∧ _
     exact ⟨(L.map volD).length - (k + 1), by omega, k + 1, _, _, _, _, _, _, _, _, _, _, _, _, _, by omega, rfl, Hz.only [0, 4, 5, 7, 8, 9], m78.only [1, 2, 4, 5, 9, 8, 10]⟩
    intro hb94 Hz; try simp only [QQ, Qax] at hb94
    refine wcf Hz ?_
    refine wp_exit ?_
    refine hK12 _ _ ?_
    refine wsk fun K15 hK15 => ?_
    replace Hz := Hz.oz [0, 4, 5, 7, 8, 9]
    have m100 := m78.oz [1, 2, 4, 5, 8, 9, 10, 100, 101, 102, 103]
    refine region_p 14 (B := [(1, _), (2, _), (4, _), (5, _), (8, _), (9, _), (10, _), (100, _), (101, _), (102, _), (103, _)]) (m100.to ⟨il, il, il, il, il, il, il, il, il, il, il, trivial⟩) m100 (by kernel_rfl) (fun w101 hP101 m101 => ?_); clear m100
    refine goA hP101 [0, 1, 2] 3 0 7 Hz (m101.to ⟨il, il, il, il, il, il, il, il, il, il, il, trivial⟩) (.move rfl <| .move rfl <| .move rfl .nil) fun Az Hz => ?_
    have hcap106 := Rd.capL (m101.rd (i := 8) rfl)
    have m105 := m101.takeR (i := 8) rfl k hkl 104 rfl
    refine goR hP101 [3, 5, 8, 9] [5] 4 7 815 Hz (m105.to ⟨il, il, il, il, il, il, il, il, il, il, il, trivial⟩) (.p (fun _ _ h => y_sliceHn h k rfl rfl U75 fct10 rfl (Nat.le_trans hkl hcap106)) <| .loadBR hh (i := 9) rfl rfl U31 rfl fct10 (by simp) (by dsimp only [List.drop, List.take] <;> rfl) <| .move rfl <| .move rfl .nil) fun Az Hz => ?_
    have m111 := m105.dropR (i := 8) rfl k hkl 105 rfl
    refine goA hP101 [10] 1 815 1839 Hz (m111.to ⟨il, il, il, il, il, il, il, il, il, il, il, trivial⟩) (.p (fun _ _ h => y_sliceLn h k rfl rfl U75 fct10 rfl hkl) .nil) fun Az Hz => ?_
    refine d_two 4 6 rfl rfl (by kernel_rfl) rfl rfl (fun K hK => ?_) (fun K hK => ?_)
    ·
     have m113 := m111.nilR 106 31 11
     refine e_appR Hz m113 106 rfl rfl rfl (m113.rd (i := 104) rfl) U75 fct35 rfl rfl (by decide) (by simp; omega) rfl ?_
     intro p114 c114 Az w115 Hz m115
     refine hK _ _ (fun _ => (m115.to ⟨il, il, il, il, il, il, il, il, il, il, il, trivial⟩)) ?_; clear hK K
     refine so 6 ?_
     refine e_litR Hz m115 107 (mm := 11) rfl (.cons rfl rfl (.cons (.v _) (.cons (.v _) (.cons (.v _) (.cons (.v _) (.cons (m115.rd (i := 10) rfl) (.cons (.v _) (.cons (.v _) (.cons (.v _) (.cons (.v _) (.cons (Rd.nilN _ _ .i64 _) (.cons (.l0 _ _ 2) .nil))))))))))) .nil) U75 fct35 rfl rfl rfl rfl rfl fun g116 Az w117 Hz m117 => ?_
     refine ⟨m117.to ⟨il, il, il, il, il, il, il, il, il, il, il, trivial⟩, ?_⟩
     have m119 := m117.freezeR 107 rfl
     refine so 7 ?_
     refine e_appR Hz m119 106 rfl rfl rfl (m119.rd (i := 107) rfl) U75 fct35 rfl rfl (by decide) (by simp; omega) rfl fun p118 c118 Az w120 Hz m120 => ?_
     refine ⟨m120.to ⟨il, il, il, il, il, il, il, il, il, il, il, trivial⟩, ?_⟩
     refine so 11 ?_
     refine e_appR Hz m120 106 rfl rfl rfl (m120.rd (i := 105) rfl) U75 fct35 rfl rfl (by decide) (by simp; omega) rfl fun p121 c121 Az w122 Hz m122 => ?_
     refine ⟨m122.to ⟨il, il, il, il, il, il, il, il, il, il, il, trivial⟩, ?_⟩
     refine goA hP101 [12, 13] 2 4095 16383 Hz (m122.to ⟨il, il, il, il, il, il, il, il, il, il, il, trivial⟩) (.nilCheck rfl <| .fa 0 rfl U77 .nil) fun Az Hz => ?_
     refine se 14 ?_
     refine st1 Hz m122 1 fct36 fun w125 m125 _ => ?_
     refine wpAnyE_done (by kernel_rfl) ?_ _
     refine hK15 _ _ ?_
     replace Hz := Hz.oz [0, 4, 5, 7, 8, 9]
     refine zsr fun K16 hK16 => ?_
     refine goCh Hz (.build rfl fct30 fl85mA rfl (by dsimp only [setL, List.set] <;> rfl) .nil) fun Az Hz => ?_
     refine plz (stw Hz m125 4 fct29 fun w129 m129 _ => ?_)
     refine znl (hK16 _ _ ?_)
     refine rtd (retC (fn := Tryd.f36) Hz m129 (i := 4) rfl rfl rfl U85 rfl fct29 ?_)
     have m130 := m129.freezeR 106 rfl
     have hrw : [] ++ List.take k (L.map volD) ++ [[.v (.int .i64 (newV vo bl sz pe to place).vo), .v (.int .i64 (newV vo bl sz pe to place).bl), .v (.int .i64 (newV vo bl sz pe to place).sz), .v (.int .i64 (newV vo bl sz pe to place).pe), .ns .i64 (newV vo bl sz pe to place).place, .v (.int .i64 (newV vo bl sz pe to place).to), .v (.int .i64 (newV vo bl sz pe to place).ne), .v (.bool (newV vo bl sz pe to place).hi), .v (.int .i64 (newV vo bl sz pe to place).fl), .ns .i64 (newV vo bl sz pe to place).pins, .l 2 ((newV vo bl sz pe to place).ws.map wrD)]] ++ List.drop k (L.map volD) = (L.take k ++ [newV vo bl sz pe to place] ++ L.drop k).map volD := by simp [volD, newV]
     simp only [newV] at hrw
     erw [hrw] at m130
     exact ⟨_, _, _, _, L.take k ++ [newV vo bl sz pe to place] ++ L.drop k, _, _, rfl, hM.ins (newV_s hN) k, m130.ren [(1, 1), (2, 106)] (by decide)⟩
    refine e_litR Hz m111 106 (mm := 11) rfl (.cons rfl rfl (.cons (.v _) (.cons (.v _) (.cons (.v _) (.cons (.v _) (.cons (m111.rd (i := 10) rfl) (.cons (.v _) (.cons (.v _) (.cons (.v _) (.cons (.v _) (.cons (Rd.nilN _ _ .i64 _) (.cons (.l0 _ _ 2) .nil))))))))))) .nil) U75 fct35 rfl rfl rfl rfl rfl ?_
    intro g131 Az w132 Hz m132
    refine hK _ _ (fun _ => (m132.to ⟨il, il, il, il, il, il, il, il, il, il, il, trivial⟩)) ?_; clear hK K
    have m133 := m132.nilR 107 31 11
    refine so 4 ?_
    refine e_appR Hz m133 107 rfl rfl rfl (m133.rd (i := 104) rfl) U75 fct35 rfl rfl (by decide) (by simp; omega) rfl fun p134 c134 Az w135 Hz m135 => ?_
    refine ⟨m135.to ⟨il, il, il, il, il, il, il, il, il, il, il, trivial⟩, ?_⟩
    have m137 := m135.freezeR 106 rfl
    refine so 7 ?_
    refine e_appR Hz m137 107 rfl rfl rfl (m137.rd (i := 106) rfl) U75 fct35 rfl rfl (by decide) (by simp; omega) rfl fun p136 c136 Az w138 Hz m138 => ?_
    refine ⟨m138.to ⟨il, il, il, il, il, il, il, il, il, il, il, trivial⟩, ?_⟩
    refine so 11 ?_
    refine e_appR Hz m138 107 rfl rfl rfl (m138.rd (i := 105) rfl) U75 fct35 rfl rfl (by decide) (by simp; omega) rfl fun p139 c139 Az w140 Hz m140 => ?_
    refine ⟨m140.to ⟨il, il, il, il, il, il, il, il, il, il, il, trivial⟩, ?_⟩
    refine goA hP101 [12, 13] 2 4095 16383 Hz (m140.to ⟨il, il, il, il, il, il, il, il, il, il, il, trivial⟩) (.nilCheck rfl <| .fa 0 rfl U77 .nil) fun Az Hz => ?_
    refine se 14 ?_
    refine st1 Hz m140 1 fct36 fun w143 m143 _ => ?_
    refine wpAnyE_done (by kernel_rfl) ?_ _
    refine hK15 _ _ ?_
    replace Hz := Hz.oz [0, 4, 5, 7, 8, 9]
    refine zsr fun K17 hK17 => ?_
    refine goCh Hz (.build rfl fct30 fl85mA rfl (by dsimp only [setL, List.set] <;> rfl) .nil) fun Az Hz => ?_
    refine plz (stw Hz m143 4 fct29 fun w147 m147 _ => ?_)
    refine znl (hK17 _ _ ?_)
    refine rtd (retC (fn := Tryd.f36) Hz m147 (i := 4) rfl rfl rfl U85 rfl fct29 ?_)
    have m148 := m147.freezeR 107 rfl
    have hrw : [] ++ List.take k (L.map volD) ++ [[.v (.int .i64 (newV vo bl sz pe to place).vo), .v (.int .i64 (newV vo bl sz pe to place).bl), .v (.int .i64 (newV vo bl sz pe to place).sz), .v (.int .i64 (newV vo bl sz pe to place).pe), .ns .i64 (newV vo bl sz pe to place).place, .v (.int .i64 (newV vo bl sz pe to place).to), .v (.int .i64 (newV vo bl sz pe to place).ne), .v (.bool (newV vo bl sz pe to place).hi), .v (.int .i64 (newV vo bl sz pe to place).fl), .ns .i64 (newV vo bl sz pe to place).pins, .l 2 ((newV vo bl sz pe to place).ws.map wrD)]] ++ List.drop k (L.map volD) = (L.take k ++ [newV vo bl sz pe to place] ++ L.drop k).map volD := by simp [volD, newV]
    simp only [newV] at hrw
    erw [hrw] at m148
    exact ⟨_, _, _, _, L.take k ++ [newV vo bl sz pe to place] ++ L.drop k, _, _, rfl, hM.ins (newV_s hN) k, m148.ren [(1, 1), (2, 107)] (by decide)⟩
   have m149 := m72.oz [1, 2, 4, 5, 8, 9, 10]
   refine region_p 14 (B := [(1, _), (2, _), (4, _), (5, _), (8, _), (9, _), (10, _)]) (m149.to ⟨il, il, il, il, il, il, il, trivial⟩) m149 (by kernel_rfl) (fun w150 hP150 m150 => ?_); clear m149
   refine goA hP150 [0, 1, 2, 3, 4] 5 0 31 Hz (m150.to ⟨il, il, il, il, il, il, il, trivial⟩) (.move rfl <| .move rfl <| .len rfl U75 <| .lss rfl rfl <| .move rfl .nil) fun Az Hz => ?_
   refine bc Hz 49 ?_ ?_
   · intro hb _; exact absurd hb (by simpa using hk)
   clear Hz; intro _ Hz
   refine goA hP150 [5, 6, 7, 8, 9, 10, 11, 12, 13] 9 31 16383 Hz (m150.to ⟨il, il, il, il, il, il, il, trivial⟩) (.s <| .s <| .s <| .s <| .s <| .s <| .s <| .s <| .pickF rfl rfl .nil) fun Az Hz => ?_
   refine wpAnyE_done (by kernel_rfl) ?_ _
   refine hK14 _ _ ?_
   refine wcf Hz ?_
   refine wp_exit ?_
   refine hK12 _ _ ?_
   refine wsk fun K18 hK18 => ?_
   replace Hz := Hz.oz [0, 4, 5, 7, 8, 9]
   have m167 := m150.oz [1, 2, 4, 5, 8, 9, 10]
   refine region_p 14 (B := [(1, _), (2, _), (4, _), (5, _), (8, _), (9, _), (10, _)]) (m167.to ⟨il, il, il, il, il, il, il, trivial⟩) m167 (by kernel_rfl) (fun w168 hP168 m168 => ?_); clear m167
   refine goA hP168 [0, 1, 2] 3 0 7 Hz (m168.to ⟨il, il, il, il, il, il, il, trivial⟩) (.move rfl <| .move rfl <| .move rfl .nil) fun Az Hz => ?_
   have hcap173 := Rd.capL (m168.rd (i := 8) rfl)
   have m172 := m168.takeR (i := 8) rfl k hkl 100 rfl
   refine goR hP168 [3, 5, 8, 9] [5] 4 7 815 Hz (m172.to ⟨il, il, il, il, il, il, il, trivial⟩) (.p (fun _ _ h => y_sliceHn h k rfl rfl U75 fct10 rfl (Nat.le_trans hkl hcap173)) <| .loadBR hh (i := 9) rfl rfl U31 rfl fct10 (by simp) (by dsimp only [List.drop, List.take] <;> rfl) <| .move rfl <| .move rfl .nil) fun Az Hz => ?_
   have m178 := m172.dropR (i := 8) rfl k hkl 101 rfl
   refine goA hP168 [10] 1 815 1839 Hz (m178.to ⟨il, il, il, il, il, il, il, trivial⟩) (.p (fun _ _ h => y_sliceLn h k rfl rfl U75 fct10 rfl hkl) .nil) fun Az Hz => ?_
   refine d_two 4 6 rfl rfl (by kernel_rfl) rfl rfl (fun K hK => ?_) (fun K hK => ?_)
   ·
    have m180 := m178.nilR 102 31 11
    refine e_appR Hz m180 102 rfl rfl rfl (m180.rd (i := 100) rfl) U75 fct35 rfl rfl (by decide) (by simp; omega) rfl ?_
    intro p181 c181 Az w182 Hz m182
    refine hK _ _ (fun _ => (m182.to ⟨il, il, il, il, il, il, il, trivial⟩)) ?_; clear hK K
    refine so 6 ?_
    refine e_litR Hz m182 103 (mm := 11) rfl (.cons rfl rfl (.cons (.v _) (.cons (.v _) (.cons (.v _) (.cons (.v _) (.cons (m182.rd (i := 10) rfl) (.cons (.v _) (.cons (.v _) (.cons (.v _) (.cons (.v _) (.cons (Rd.nilN _ _ .i64 _) (.cons (.l0 _ _ 2) .nil))))))))))) .nil) U75 fct35 rfl rfl rfl rfl rfl fun g183 Az w184 Hz m184 => ?_
    refine ⟨m184.to ⟨il, il, il, il, il, il, il, trivial⟩, ?_⟩
    have m186 := m184.freezeR 103 rfl
    refine so 7 ?_
    refine e_appR Hz m186 102 rfl rfl rfl (m186.rd (i := 103) rfl) U75 fct35 rfl rfl (by decide) (by simp; omega) rfl fun p185 c185 Az w187 Hz m187 => ?_
    refine ⟨m187.to ⟨il, il, il, il, il, il, il, trivial⟩, ?_⟩
    refine so 11 ?_
    refine e_appR Hz m187 102 rfl rfl rfl (m187.rd (i := 101) rfl) U75 fct35 rfl rfl (by decide) (by simp; omega) rfl fun p188 c188 Az w189 Hz m189 => ?_
    refine ⟨m189.to ⟨il, il, il, il, il, il, il, trivial⟩, ?_⟩
    refine goA hP168 [12, 13] 2 4095 16383 Hz (m189.to ⟨il, il, il, il, il, il, il, trivial⟩) (.nilCheck rfl <| .fa 0 rfl U77 .nil) fun Az Hz => ?_
    refine se 14 ?_
    refine st1 Hz m189 1 fct36 fun w192 m192 _ => ?_
    refine wpAnyE_done (by kernel_rfl) ?_ _
    refine hK18 _ _ ?_
    replace Hz := Hz.oz [0, 4, 5, 7, 8, 9]
    refine zsr fun K19 hK19 => ?_
    refine goCh Hz (.build rfl fct30 fl85mA rfl (by dsimp only [setL, List.set] <;> rfl) .nil) fun Az Hz => ?_
    refine plz (stw Hz m192 4 fct29 fun w196 m196 _ => ?_)
    refine znl (hK19 _ _ ?_)
    refine rtd (retC (fn := Tryd.f36) Hz m196 (i := 4) rfl rfl rfl U85 rfl fct29 ?_)
    have m197 := m196.freezeR 102 rfl
    have hrw : [] ++ List.take k (L.map volD) ++ [[.v (.int .i64 (newV vo bl sz pe to place).vo), .v (.int .i64 (newV vo bl sz pe to place).bl), .v (.int .i64 (newV vo bl sz pe to place).sz), .v (.int .i64 (newV vo bl sz pe to place).pe), .ns .i64 (newV vo bl sz pe to place).place, .v (.int .i64 (newV vo bl sz pe to place).to), .v (.int .i64 (newV vo bl sz pe to place).ne), .v (.bool (newV vo bl sz pe to place).hi), .v (.int .i64 (newV vo bl sz pe to place).fl), .ns .i64 (newV vo bl sz pe to place).pins, .l 2 ((newV vo bl sz pe to place).ws.map wrD)]] ++ List.drop k (L.map volD) = (L.take k ++ [newV vo bl sz pe to place] ++ L.drop k).map volD := by simp [volD, newV]
    simp only [newV] at hrw
    erw [hrw] at m197
    exact ⟨_, _, _, _, L.take k ++ [newV vo bl sz pe to place] ++ L.drop k, _, _, rfl, hM.ins (newV_s hN) k, m197.ren [(1, 1), (2, 102)] (by decide)⟩
   refine e_litR Hz m178 102 (mm := 11) rfl (.cons rfl rfl (.cons (.v _) (.cons (.v _) (.cons (.v _) (.cons (.v _) (.cons (m178.rd (i := 10) rfl) (.cons (.v _) (.cons (.v _) (.cons (.v _) (.cons (.v _) (.cons (Rd.nilN _ _ .i64 _) (.cons (.l0 _ _ 2) .nil))))))))))) .nil) U75 fct35 rfl rfl rfl rfl rfl ?_
   intro g198 Az w199 Hz m199
   refine hK _ _ (fun _ => (m199.to ⟨il, il, il, il, il, il, il, trivial⟩)) ?_; clear hK K
   have m200 := m199.nilR 103 31 11
   refine so 4 ?_
   refine e_appR Hz m200 103 rfl rfl rfl (m200.rd (i := 100) rfl) U75 fct35 rfl rfl (by decide) (by simp; omega) rfl fun p201 c201 Az w202 Hz m202 => ?_
   refine ⟨m202.to ⟨il, il, il, il, il, il, il, trivial⟩, ?_⟩
   have m204 := m202.freezeR 102 rfl
   refine so 7 ?_
   refine e_appR Hz m204 103 rfl rfl rfl (m204.rd (i := 102) rfl) U75 fct35 rfl rfl (by decide) (by simp; omega) rfl fun p203 c203 Az w205 Hz m205 => ?_
   refine ⟨m205.to ⟨il, il, il, il, il, il, il, trivial⟩, ?_⟩
   refine so 11 ?_
   refine e_appR Hz m205 103 rfl rfl rfl (m205.rd (i := 101) rfl) U75 fct35 rfl rfl (by decide) (by simp; omega) rfl fun p206 c206 Az w207 Hz m207 => ?_
   refine ⟨m207.to ⟨il, il, il, il, il, il, il, trivial⟩, ?_⟩
   refine goA hP168 [12, 13] 2 4095 16383 Hz (m207.to ⟨il, il, il, il, il, il, il, trivial⟩) (.nilCheck rfl <| .fa 0 rfl U77 .nil) fun Az Hz => ?_
   refine se 14 ?_
   refine st1 Hz m207 1 fct36 fun w210 m210 _ => ?_
   refine wpAnyE_done (by kernel_rfl) ?_ _
   refine hK18 _ _ ?_
   replace Hz := Hz.oz [0, 4, 5, 7, 8, 9]
   refine zsr fun K20 hK20 => ?_
   refine goCh Hz (.build rfl fct30 fl85mA rfl (by dsimp only [setL, List.set] <;> rfl) .nil) fun Az Hz => ?_
   refine plz (stw Hz m210 4 fct29 fun w214 m214 _ => ?_)
   refine znl (hK20 _ _ ?_)
   refine rtd (retC (fn := Tryd.f36) Hz m214 (i := 4) rfl rfl rfl U85 rfl fct29 ?_)
   have m215 := m214.freezeR 103 rfl
   have hrw : [] ++ List.take k (L.map volD) ++ [[.v (.int .i64 (newV vo bl sz pe to place).vo), .v (.int .i64 (newV vo bl sz pe to place).bl), .v (.int .i64 (newV vo bl sz pe to place).sz), .v (.int .i64 (newV vo bl sz pe to place).pe), .ns .i64 (newV vo bl sz pe to place).place, .v (.int .i64 (newV vo bl sz pe to place).to), .v (.int .i64 (newV vo bl sz pe to place).ne), .v (.bool (newV vo bl sz pe to place).hi), .v (.int .i64 (newV vo bl sz pe to place).fl), .ns .i64 (newV vo bl sz pe to place).pins, .l 2 ((newV vo bl sz pe to place).ws.map wrD)]] ++ List.drop k (L.map volD) = (L.take k ++ [newV vo bl sz pe to place] ++ L.drop k).map volD := by simp [volD, newV]
   simp only [newV] at hrw
   erw [hrw] at m215
   exact ⟨_, _, _, _, L.take k ++ [newV vo bl sz pe to place] ++ L.drop k, _, _, rfl, hM.ins (newV_s hN) k, m215.ren [(1, 1), (2, 103)] (by decide)⟩
  refine wp_region_lit ?_
  refine goCh Hz (.loadBR m49 (i := 23) rfl rfl U82 rfl fct20 (by simp) (by dsimp only [List.drop, List.take] <;> rfl) .nil) fun Az Hz => ?_
  refine plz (ecb Hz Tryd.func37 rfl m49 (rnew_non _ vo bl sz pe to _ _ place _ _ _ _ _ _ ((m49.rd (i := 21) rfl).any) (by omega) hN) fun Az w217 Hz m218 => ?_)
  refine goCh Hz (.move rfl <| .extract rfl rfl <| .extract rfl rfl .nil) fun Az Hz => ?_
  refine plz (e_alloc Hz m218 25 fct11 rfl fun g223 Az w224 Hz m224 _ _ => ?_)
  refine plz (stw Hz m224 25 fct10 fun w225 m225 _ => ?_)
  refine gz hK10 Hz (.assign rfl .nil) fun Az Hz => ?_
  refine wsk fun K21 hK21 => ?_
  replace Hz := Hz.oz [0, 4, 5, 7, 8, 9, 10]
  refine regS Hz (.move rfl <| .neq rfl rfl .nil) fun Az Hz => ?_
  refine bc Hz 42 ?_ ?_
  rotate_left
  · intro hb _; exact absurd hb (by simp)
  clear Hz; intro _ Hz
  refine wct Hz ?_
  refine zsr fun K22 hK22 => ?_
  refine goCh Hz (.move rfl <| .build rfl fct30 fl85mA rfl (by dsimp only [setL, List.set] <;> rfl) .nil) fun Az Hz => ?_
  refine plz (stw Hz m225 20 fct29 fun w235 m235 _ => ?_)
  refine znl (hK22 _ _ ?_)
  refine rtd (retC (fn := Tryd.f36) Hz m235 (i := 20) rfl rfl rfl U85 rfl fct29 ?_)
  exact ⟨_, _, _, _, L, _, _, rfl, hM.up (by omega), m235.only [1, 2]⟩
 intro hb46 Hz; try simp only [QQ, Qax] at hb46
 refine wcf Hz ?_
 refine zss (hK6 _ _ ?_)
 refine wsk fun K23 hK23 => ?_
 replace Hz := Hz.oz [0, 4, 5, 7, 8]
 refine regS Hz (.move rfl <| .lss rfl rfl .nil) fun Az Hz => ?_
 refine bc Hz 77 ?_ ?_
 ·
  intro hb239 Hz; try simp only [QQ, Qax] at hb239
  refine wct Hz ?_
  refine zsr fun K24 hK24 => ?_
  refine goCh Hz (.build rfl fct30 fl85mA rfl (by dsimp only [setL, List.set] <;> rfl) .nil) fun Az Hz => ?_
  refine plz (stw Hz m41 20 fct29 fun w242 m242 _ => ?_)
  refine znl (hK24 _ _ ?_)
  refine rtd (retC (fn := Tryd.f36) Hz m242 (i := 20) rfl rfl rfl U85 rfl fct29 ?_)
  exact ⟨_, _, _, _, L, _, _, rfl, hM.up (by omega), m242.only [1, 2]⟩
 intro hb239 Hz; try simp only [QQ, Qax] at hb239
 revert Hz
 obtain ⟨jn, rfl⟩ : ∃ jn : Nat, j = (jn : Int) := ⟨j.toNat, by omega⟩
 intro Hz
 have hjl : jn < L.length := by omega
 obtain ⟨x, hes⟩ : ∃ x, L[jn]? = some x := ⟨_, List.getElem?_eq_getElem hjl⟩
 refine wcf Hz ?_
 refine zss (hK23 _ _ ?_)
 refine wsk fun K25 hK25 => ?_
 have hC25 : ∀ (a : Act) (w : World), (∃ (y : VolV) (e9 rl rf rn : Int) (B4 B11 B12 c8 d1 d2 d3 : Nat) (p8 p1 p2 p3 : Option Addr), VolS (n + 1) y ∧ Has 97 [(0, .pointer (some ⟨B, 0, none⟩)), (4, .pointer (some ⟨B4, 0, none⟩)), (7, .int .i64 jn), (8, .slice p8 ([] ++ (L.map volD)).length c8), (11, .pointer (some ⟨B11, 0, none⟩)), (12, .pointer (some ⟨B12, 0, none⟩))] a ∧ MemOk X w0 [(1, .box B 77 [.slice p (L.map volD).length c]), (2, .dat (.slice p (L.map volD).length c) (.l 11 (L.map volD))), (4, .box B4 85 [.int .i64 0, .int .i64 0, .int .i64 0, .int .i64 0, .slice none 0 0]), (8, .row (.slice p8 ([] ++ (L.map volD)).length c8) 31 11 ([] ++ (L.map volD))), (11, .box B11 31 [.int .i64 y.vo, .int .i64 y.bl, .int .i64 y.sz, .int .i64 y.pe, .slice p1 y.place.length d1, .int .i64 y.to, .int .i64 y.ne, .bool y.hi, .int .i64 y.fl, .slice p2 y.pins.length d2, .slice p3 (y.ws.map wrD).length d3]), (12, .box B12 85 [.int .i64 e9, .int .i64 rl, .int .i64 rf, .int .i64 rn, .slice none 0 0]), (13, .dat (.slice p1 y.place.length d1) (.ns .i64 y.place)), (14, .dat (.slice p2 y.pins.length d2) (.ns .i64 y.pins)), (15, .dat (.slice p3 (y.ws.map wrD).length d3) (.l 2 (y.ws.map wrD)))] w) → K25 a w := by
   clear Hz m41
   rintro Az w243 ⟨y, e9, rl, rf, rn, B4, B11, B12, c8, d1, d2, d3, p8, p1, p2, p3, hyS, Hz, m243⟩
   refine hK25 _ _ ?_
   refine zsr fun K26 hK26 => ?_
   refine goCh Hz (.move rfl <| .move rfl <| .loadBR m243 (i := 11) rfl rfl U31 rfl fct10 (by simp) (by dsimp only [List.drop, List.take] <;> rfl) .nil) fun Az Hz => ?_
   obtain ⟨gr251, cr251, hp251, _⟩ := m243.openC (i := 8) rfl (Nat.lt_of_le_of_lt (Nat.zero_le jn) (by simpa using hjl)); cases hp251
   refine goCh Hz (.c rfl (fun _ h => y_idx h rfl rfl U75 fct10 (jn) rfl (by simpa using hjl)) .nil) fun Az Hz => ?_
   refine plz (e_storeRW Hz m243 8 rfl (jn) (by simpa using hjl) rfl rfl rfl rfl rfl fct10 (.cons (.v _) (.cons (.v _) (.cons (.v _) (.cons (.v _) (.cons (m243.rd (i := 13) rfl) (.cons (.v _) (.cons (.v _) (.cons (.v _) (.cons (.v _) (.cons (m243.rd (i := 14) rfl) (.cons (m243.rd (i := 15) rfl) .nil))))))))))) fun w253 m253 => ?_)
   refine znl (hK26 _ _ ?_)
   replace Hz := Hz.oz [0, 4, 8, 12]
   refine zsr fun K27 hK27 => ?_
   refine goCh Hz (.move rfl <| .move rfl <| .nilCheck rfl <| .fa 0 rfl U77 .nil) fun Az Hz => ?_
   refine plz (st1 Hz m253 1 fct36 fun w263 m263 _ => ?_)
   refine znl (hK27 _ _ ?_)
   replace Hz := Hz.oz [4, 12]
   refine zsr fun K28 hK28 => ?_
   refine goCh Hz (.loadBR m263 (i := 12) rfl rfl U85 rfl fct29 (by simp) (by dsimp only [List.drop, List.take] <;> rfl) .nil) fun Az Hz => ?_
   refine plz (stw Hz m263 4 fct29 fun w267 m267 _ => ?_)
   refine znl (hK28 _ _ ?_)
   refine rtd (retC (fn := Tryd.f36) Hz m267 (i := 4) rfl rfl rfl U85 rfl fct29 ?_)
   have m268 := m267.freezeR 8 rfl
   have hrw : ([] ++ (L.map volD)).set jn [.v (.int .i64 y.vo), .v (.int .i64 y.bl), .v (.int .i64 y.sz), .v (.int .i64 y.pe), .ns .i64 y.place, .v (.int .i64 y.to), .v (.int .i64 y.ne), .v (.bool y.hi), .v (.int .i64 y.fl), .ns .i64 y.pins, .l 2 (y.ws.map wrD)] = (L.set jn y).map volD := by rw [List.nil_append, List.map_set]; rfl
   have hln : ([] ++ (L.map volD)).length = ((L.set jn y).map volD).length := by simp
   rw [hrw, hln] at m268
   exact ⟨_, _, _, _, L.set jn y, _, _, rfl, hM.set hyS jn, m268.ren [(1, 1), (2, 8)] (by decide)⟩
 obtain ⟨gr270, cr270, hp270, m270⟩ := m41.openC (i := 24) rfl (Nat.lt_of_le_of_lt (Nat.zero_le _) (by simpa using hjl))
 revert Hz
 cases hp270
 intro Hz
 obtain ⟨vs271, hc271, hR271⟩ := m270.eltC (i := 24) rfl (jn) (r := [.v (.int .i64 x.vo), .v (.int .i64 x.bl), .v (.int .i64 x.sz), .v (.int .i64 x.pe), .ns .i64 x.place, .v (.int .i64 x.to), .v (.int .i64 x.ne), .v (.bool x.hi), .v (.int .i64 x.fl), .ns .i64 x.pins, .l 2 (x.ws.map wrD)]) (by simpa using volD_get hes)
 revert Hz
 rcases hR271 with _ | ⟨hd271_0, _ | ⟨hd271_1, _ | ⟨hd271_2, _ | ⟨hd271_3, _ | ⟨hd271_4, _ | ⟨hd271_5, _ | ⟨hd271_6, _ | ⟨hd271_7, _ | ⟨hd271_8, _ | ⟨hd271_9, _ | ⟨hd271_10, _ | _⟩⟩⟩⟩⟩⟩⟩⟩⟩⟩⟩
 obtain rfl := hd271_0.v_out
 clear hd271_0
 obtain rfl := hd271_1.v_out
 clear hd271_1
 obtain rfl := hd271_2.v_out
 clear hd271_2
 obtain rfl := hd271_3.v_out
 clear hd271_3
 obtain ⟨p272, c272, hv272, hw272⟩ := hd271_4.ns_shape; subst hv272
 intro Hz
 have m272 := m270.dat 25 rfl (hd271_4.cast (fun _ h => h)); clear m270 hd271_4
 revert Hz
 obtain rfl := hd271_5.v_out
 clear hd271_5
 obtain rfl := hd271_6.v_out
 clear hd271_6
 obtain rfl := hd271_7.v_out
 clear hd271_7
 obtain rfl := hd271_8.v_out
 clear hd271_8
 obtain ⟨p273, c273, hv273, hw273⟩ := hd271_9.ns_shape; subst hv273
 intro Hz
 have m273 := m272.dat 26 rfl (hd271_9.cast (fun _ h => (free_add rfl h))); clear m272 hd271_9
 revert Hz
 obtain ⟨p274, c274, hv274, hw274⟩ := hd271_10.l_shape; subst hv274
 intro Hz
 have m274 := m273.dat 27 rfl (hd271_10.cast (fun _ h => (free_add rfl (free_add rfl h)))); clear m273 hd271_10
 have m275 := m274.oz [1, 2, 20, 21, 22, 23, 24, 25, 26, 27]
 refine region_p 5 (B := [(1, _), (2, _), (20, _), (21, _), (22, _), (23, _), (24, _), (25, _), (26, _), (27, _)]) (m275.to ⟨il, il, il, il, il, il, il, il, il, il, trivial⟩) m275 (by kernel_rfl) (fun w276 hP276 m276 => ?_); clear m275
 refine goR hP276 [0, 1, 2, 3, 4] [3, 4] 5 0 31 Hz (m276.to ⟨il, il, il, il, il, il, il, il, il, il, trivial⟩) (.move rfl <| .move rfl <| .p (fun _ _ h => y_idx h rfl rfl U75 fct10 (jn) rfl (by simpa using hjl)) <| .c (fun _ hW _ h => y_loadRC h hW (i := 24) rfl (jn) hc271 rfl U31 rfl fct10) <| .loadBR hh (i := 23) rfl rfl U82 rfl fct20 (by simp) (by dsimp only [List.drop, List.take] <;> rfl) .nil) fun Az Hz => ?_
 refine dth 5 9 10 ?_ ?_ ?_
 ·
  refine ecl Hz Tryd.func59 rfl (rDoAny _ x n (hM.2 _ (List.mem_of_getElem? hes)) hn items _ _ _ _ _ _ _ _ _ _ _ _ _ _ _ _ _ _ _ _ (by omega) (fun e he => itok (hii e he).1) (fun e he => (hii e he).2) (m276.into [(1, 25), (2, 26), (3, 27), (4, 22)] (by decide) rfl)) ?_
  rintro e w282 ⟨y, e9, rl, rf, rn, p1282, p2282, p3282, d1282, d2282, d3282, rfl, hyo, hyS, hm282⟩
  have mx282 := m276.back hm282 [(28, 1), (29, 2), (30, 3)] (by decide); clear hm282 m276
  have m282 := mx282.oz [28, 29, 30, 1, 2, 20, 21, 23, 24]
  refine ⟨_, rfl, ?_⟩; intro Az Hz
  refine ⟨fun h => (Bool.false_ne_true (h.symm.trans (by rfl))).elim, ?_⟩
  refine goB hP276 [6, 7, 8] 3 63 511 Hz (.move rfl <| .extract rfl rfl <| .extract rfl rfl .nil) fun Az Hz => ?_
  refine dtw 9 10 ?_ ?_
  ·
   refine e_alloc Hz m282 31 fct11 rfl fun g287 Az w288 Hz m288 _ _ => ?_
   refine ⟨fun h => (Bool.false_ne_true (h.symm.trans (by rfl))).elim, ?_⟩
   refine se 10 ?_
   refine e_alloc Hz m288 32 fct30 rfl fun g289 Az w290 Hz m290 _ _ => ?_
   refine se 11 ?_
   refine stw Hz m290 31 fct10 fun w291 m291 _ => ?_
   refine se 12 ?_
   refine stw Hz m291 32 fct29 fun w292 m292 _ => ?_
   refine wpAnyE_done (by kernel_rfl) ?_ _
   have m293 := m292.closeC 24 rfl
   show K25 _ _
   exact hC25 _ _ ⟨y, _, _, _, _, _, _, _, _, _, _, _, _, _, _, _, hyS, Hz.only [0, 4, 7, 8, 11, 12], m293.ren [(1, 1), (2, 2), (4, 20), (8, 24), (11, 31), (12, 32), (13, 28), (14, 29), (15, 30)] (by decide)⟩
  refine e_alloc Hz m282 31 fct30 rfl fun g294 Az w295 Hz m295 _ _ => ?_
  refine ⟨fun h => (Bool.false_ne_true (h.symm.trans (by rfl))).elim, ?_⟩
  refine se 9 ?_
  refine e_alloc Hz m295 32 fct11 rfl fun g296 Az w297 Hz m297 _ _ => ?_
  refine se 11 ?_
  refine stw Hz m297 32 fct10 fun w298 m298 _ => ?_
  refine se 12 ?_
  refine stw Hz m298 31 fct29 fun w299 m299 _ => ?_
  refine wpAnyE_done (by kernel_rfl) ?_ _
  have m300 := m299.closeC 24 rfl
  show K25 _ _
  exact hC25 _ _ ⟨y, _, _, _, _, _, _, _, _, _, _, _, _, _, _, _, hyS, Hz.only [0, 4, 7, 8, 11, 12], m300.ren [(1, 1), (2, 2), (4, 20), (8, 24), (11, 32), (12, 31), (13, 28), (14, 29), (15, 30)] (by decide)⟩
 ·
  refine e_alloc Hz m276 28 fct11 rfl fun g301 Az w302 Hz m302 _ _ => ?_
  refine ⟨fun _ => (m302.to ⟨il, il, il, il, il, il, il, il, il, il, trivial⟩), ?_⟩
  refine dtw 5 10 ?_ ?_
  ·
   refine ecl Hz Tryd.func59 rfl (rDoAny _ x n (hM.2 _ (List.mem_of_getElem? hes)) hn items _ _ _ _ _ _ _ _ _ _ _ _ _ _ _ _ _ _ _ _ (by omega) (fun e he => itok (hii e he).1) (fun e he => (hii e he).2) (m302.into [(1, 25), (2, 26), (3, 27), (4, 22)] (by decide) rfl)) ?_
   rintro e w303 ⟨y, e9, rl, rf, rn, p1303, p2303, p3303, d1303, d2303, d3303, rfl, hyo, hyS, hm303⟩
   have mx303 := m302.back hm303 [(29, 1), (30, 2), (31, 3)] (by decide); clear hm303 m302
   have m303 := mx303.oz [29, 30, 31, 1, 2, 20, 21, 23, 24, 28]
   refine ⟨_, rfl, ?_⟩; intro Az Hz
   refine ⟨fun h => (Bool.false_ne_true (h.symm.trans (by rfl))).elim, ?_⟩
   refine goB hP276 [6, 7, 8] 3 575 1023 Hz (.move rfl <| .extract rfl rfl <| .extract rfl rfl .nil) fun Az Hz => ?_
   refine se 10 ?_
   refine e_alloc Hz m303 32 fct30 rfl fun g308 Az w309 Hz m309 _ _ => ?_
   refine se 11 ?_
   refine stw Hz m309 28 fct10 fun w310 m310 _ => ?_
   refine se 12 ?_
   refine stw Hz m310 32 fct29 fun w311 m311 _ => ?_
   refine wpAnyE_done (by kernel_rfl) ?_ _
   have m312 := m311.closeC 24 rfl
   show K25 _ _
   exact hC25 _ _ ⟨y, _, _, _, _, _, _, _, _, _, _, _, _, _, _, _, hyS, Hz.only [0, 4, 7, 8, 11, 12], m312.ren [(1, 1), (2, 2), (4, 20), (8, 24), (11, 28), (12, 32), (13, 29), (14, 30), (15, 31)] (by decide)⟩
  refine e_alloc Hz m302 29 fct30 rfl fun g313 Az w314 Hz m314 _ _ => ?_
  refine ⟨fun _ => (m314.to ⟨il, il, il, il, il, il, il, il, il, il, trivial⟩), ?_⟩
  refine se 5 ?_
  refine ecl Hz Tryd.func59 rfl (rDoAny _ x n (hM.2 _ (List.mem_of_getElem? hes)) hn items _ _ _ _ _ _ _ _ _ _ _ _ _ _ _ _ _ _ _ _ (by omega) (fun e he => itok (hii e he).1) (fun e he => (hii e he).2) (m314.into [(1, 25), (2, 26), (3, 27), (4, 22)] (by decide) rfl)) ?_
  rintro e w315 ⟨y, e9, rl, rf, rn, p1315, p2315, p3315, d1315, d2315, d3315, rfl, hyo, hyS, hm315⟩
  have mx315 := m314.back hm315 [(30, 1), (31, 2), (32, 3)] (by decide); clear hm315 m314
  have m315 := mx315.oz [30, 31, 32, 1, 2, 20, 21, 23, 24, 28, 29]
  refine ⟨_, rfl, ?_⟩; intro Az Hz
  refine goB hP276 [6, 7, 8] 3 1599 2047 Hz (.move rfl <| .extract rfl rfl <| .extract rfl rfl .nil) fun Az Hz => ?_
  refine se 11 ?_
  refine stw Hz m315 28 fct10 fun w320 m320 _ => ?_
  refine se 12 ?_
  refine stw Hz m320 29 fct29 fun w321 m321 _ => ?_
  refine wpAnyE_done (by kernel_rfl) ?_ _
  have m322 := m321.closeC 24 rfl
  show K25 _ _
  exact hC25 _ _ ⟨y, _, _, _, _, _, _, _, _, _, _, _, _, _, _, _, hyS, Hz.only [0, 4, 7, 8, 11, 12], m322.ren [(1, 1), (2, 2), (4, 20), (8, 24), (11, 28), (12, 29), (13, 30), (14, 31), (15, 32)] (by decide)⟩
 refine e_alloc Hz m276 28 fct30 rfl fun g323 Az w324 Hz m324 _ _ => ?_
 refine ⟨fun _ => (m324.to ⟨il, il, il, il, il, il, il, il, il, il, trivial⟩), ?_⟩
 refine dtw 5 9 ?_ ?_
 ·
  refine ecl Hz Tryd.func59 rfl (rDoAny _ x n (hM.2 _ (List.mem_of_getElem? hes)) hn items _ _ _ _ _ _ _ _ _ _ _ _ _ _ _ _ _ _ _ _ (by omega) (fun e he => itok (hii e he).1) (fun e he => (hii e he).2) (m324.into [(1, 25), (2, 26), (3, 27), (4, 22)] (by decide) rfl)) ?_
  rintro e w325 ⟨y, e9, rl, rf, rn, p1325, p2325, p3325, d1325, d2325, d3325, rfl, hyo, hyS, hm325⟩
  have mx325 := m324.back hm325 [(29, 1), (30, 2), (31, 3)] (by decide); clear hm325 m324
  have m325 := mx325.oz [29, 30, 31, 1, 2, 20, 21, 23, 24, 28]
  refine ⟨_, rfl, ?_⟩; intro Az Hz
  refine ⟨fun h => (Bool.false_ne_true (h.symm.trans (by rfl))).elim, ?_⟩
  refine goB hP276 [6, 7, 8] 3 1087 1535 Hz (.move rfl <| .extract rfl rfl <| .extract rfl rfl .nil) fun Az Hz => ?_
  refine se 9 ?_
  refine e_alloc Hz m325 32 fct11 rfl fun g330 Az w331 Hz m331 _ _ => ?_
  refine se 11 ?_
  refine stw Hz m331 32 fct10 fun w332 m332 _ => ?_
  refine se 12 ?_
  refine stw Hz m332 28 fct29 fun w333 m333 _ => ?_
  refine wpAnyE_done (by kernel_rfl) ?_ _
  have m334 := m333.closeC 24 rfl
  show K25 _ _
  exact hC25 _ _ ⟨y, _, _, _, _, _, _, _, _, _, _, _, _, _, _, _, hyS, Hz.only [0, 4, 7, 8, 11, 12], m334.ren [(1, 1), (2, 2), (4, 20), (8, 24), (11, 32), (12, 28), (13, 29), (14, 30), (15, 31)] (by decide)⟩
 refine e_alloc Hz m324 29 fct11 rfl fun g335 Az w336 Hz m336 _ _ => ?_
 refine ⟨fun _ => (m336.to ⟨il, il, il, il, il, il, il, il, il, il, trivial⟩), ?_⟩
 refine se 5 ?_
 refine ecl Hz Tryd.func59 rfl (rDoAny _ x n (hM.2 _ (List.mem_of_getElem? hes)) hn items _ _ _ _ _ _ _ _ _ _ _ _ _ _ _ _ _ _ _ _ (by omega) (fun e he => itok (hii e he).1) (fun e he => (hii e he).2) (m336.into [(1, 25), (2, 26), (3, 27), (4, 22)] (by decide) rfl)) ?_
 rintro e w337 ⟨y, e9, rl, rf, rn, p1337, p2337, p3337, d1337, d2337, d3337, rfl, hyo, hyS, hm337⟩
 have mx337 := m336.back hm337 [(30, 1), (31, 2), (32, 3)] (by decide); clear hm337 m336
 have m337 := mx337.oz [30, 31, 32, 1, 2, 20, 21, 23, 24, 28, 29]
 refine ⟨_, rfl, ?_⟩; intro Az Hz
 refine goB hP276 [6, 7, 8] 3 1599 2047 Hz (.move rfl <| .extract rfl rfl <| .extract rfl rfl .nil) fun Az Hz => ?_
 refine se 11 ?_
 refine stw Hz m337 29 fct10 fun w342 m342 _ => ?_
 refine se 12 ?_
 refine stw Hz m342 28 fct29 fun w343 m343 _ => ?_
 refine wpAnyE_done (by kernel_rfl) ?_ _
 have m344 := m343.closeC 24 rfl
 show K25 _ _
 exact hC25 _ _ ⟨y, _, _, _, _, _, _, _, _, _, _, _, _, _, _, _, hyS, Hz.only [0, 4, 7, 8, 11, 12], m344.ren [(1, 1), (2, 2), (4, 20), (8, 24), (11, 29), (12, 28), (13, 30), (14, 31), (15, 32)] (by decide)⟩
end Go.Proofs.YtcccomafnmdlfaaDoor.K
end
section
namespace Go.Proofs.YtcccomafnmdlfaaDoor.K
open Go.ChangeShapes Go.WideShapes Go.ChangeAt Go.RowKit
set_option linter.unusedVariables false
set_option linter.unusedSimpArgs false
theorem fl77sV : flatS Tryd.prog 77 [.slice none 0 0] = true := by kernel_rfl
set_option maxRecDepth 100000
set_option maxHeartbeats 4000000
theorem scmd_no (vo bl sz pe to ne fl : Int) (hi : Bool) (pp pn pw : Option Addr) (np cp nn9 cn9 nw cw : Nat) (wh xa xb xc : Int) (w0 : World) (hvo : 0 ≤ vo ∧ vo ≤ 255) (hw9 : 0 ≤ wh ∧ wh ≤ 255) (ha9 : 0 ≤ xa ∧ xa ≤ 255) (hb9 : 0 ≤ xb ∧ xb ≤ 255) (hc9 : 0 ≤ xc ∧ xc ≤ 255) :
   Calls Tryd.prog 35 #[.agg #[.int .i64 vo, .int .i64 bl, .int .i64 sz, .int .i64 pe, .slice pp np cp, .int .i64 to, .int .i64 ne, .bool hi, .int .i64 fl, .slice pn nn9 cn9, .slice pw nw cw], .bool false, .int .u8 wh, .int .u8 xa, .int .u8 xb, .int .u8 xc] w0 fun e w' => ∃ (vo2 bl2 sz2 pe2 to2 : Int) (place : List Int) (pp : Option Addr) (cp : Nat), e = .returned (.agg #[.int .i64 1, .int .i64 vo2, .int .i64 bl2, .int .i64 sz2, .int .i64 pe2, .slice pp place.length cp, .int .i64 to2, .int .i64 0, .int .i64 0, .slice none 0 0]) ∧ place.length ≤ 9 ∧ Rd (New w0) w' (.slice pp place.length cp) (.ns .i64 place) ∧ Below w0.heap.size w0 w' := by
 refine ent6 Tryd.func35 rfl Tryd.ntmps35 fun Az Hz => ?_
 have m0 := MemOk.start (fun _ => False) w0
 obtain ⟨tq, htq, htq0, htq3⟩ : ∃ x : Int, (xc / 4).tmod 3 = x ∧ 0 ≤ x ∧ x ≤ 2 := ⟨_, rfl, by rw [Int.tmod_eq_emod_of_nonneg (by omega)]; omega, by rw [Int.tmod_eq_emod_of_nonneg (by omega)]; omega⟩
 refine zsr fun K0 hK0 => ?_
 refine plz (e_box Hz m0 20 (cs := [_, _, _, _, _, _, _, _, _, _, _]) rfl rfl rfl fun g1 Az w2 Hz m2 _ _ => ?_)
 refine plz (e_alloc Hz m2 21 fct21 rfl fun g3 Az w4 Hz m4 _ _ => ?_)
 refine znl (hK0 _ _ ?_)
 refine wsk fun K1 hK1 => ?_
 refine regS Hz (.move rfl <| .not rfl .nil) fun Az Hz => ?_
 refine wct Hz ?_
 refine regS Hz (.assign rfl .nil) fun Az Hz => ?_
 refine wsk fun K2 hK2 => ?_
 refine regS Hz (.move rfl <| .rem rfl rfl (by decide) rfl <| .eql rfl rfl .nil) fun Az Hz => ?_
 refine bc Hz 19 ?_ ?_
 ·
  intro hb11 Hz; try simp only [QQ, Qax] at hb11
  refine wct Hz ?_
  replace Hz := Hz.oz [2, 3, 4, 5, 6, 12, 13]
  refine wp_region_lit ?_
  refine gz hK2 Hz (.move rfl <| .quo rfl rfl (by decide) (r := xc / 4) (by rw [Int.tdiv_eq_ediv_of_nonneg (by omega)]; exact IntWalk.u8_in _ (by omega)) <| .rem rfl rfl (by decide) (r := tq) htq <| .conv rfl U5 U3 (r := tq) (IntWalk.i64_in _ (by omega)) <| .add rfl rfl (IntWalk.i64_in _ (by omega)) <| .assign rfl <| .nil) fun Az Hz => ?_
  refine zsr fun K3 hK3 => ?_
  refine goCh Hz (.fa 0 rfl U31 <| .lb m4 20 U3 rfl rfl rfl <| .conv rfl U3 U5 (r := vo) (IntWalk.u8_in _ (by omega)) <| .move rfl <| .move rfl <| .move rfl <| .move rfl .nil) fun Az Hz => ?_
  refine plz (ecl Hz Tryd.func38 rfl (create_any vo xa xb xc _ _ hvo ha9 hb9 hc9) ?_)
  rintro e w33 ⟨bl2, sz2, pe2, place, p33, c33, rfl, -, -, -, -, -, -, -, hpl9, hd33, hb33⟩
  have m34 := m4.callF 22 rfl hb33 hd33
  refine ⟨_, rfl, ?_⟩; intro Az Hz
  refine plz (stw Hz m34 21 fct20 fun w36 m36 _ => ?_)
  refine znl (hK3 _ _ ?_)
  refine rtd (retC (fn := Tryd.f35) Hz m36 (i := 21) rfl rfl rfl U82 rfl fct20 ?_)
  exact ⟨_, _, _, _, _, place, _, _, rfl, hpl9, m36.outF (i := 22) rfl, m36.below⟩
 intro hb11 Hz; try simp only [QQ, Qax] at hb11
 refine wcf Hz ?_
 refine zss (hK2 _ _ ?_)
 replace Hz := Hz.oz [2, 3, 4, 5, 6, 12, 13]
 refine zsr fun K4 hK4 => ?_
 refine goCh Hz (.fa 0 rfl U31 <| .lb m4 20 U3 rfl rfl rfl <| .conv rfl U3 U5 (r := vo) (IntWalk.u8_in _ (by omega)) <| .move rfl <| .move rfl <| .move rfl <| .move rfl .nil) fun Az Hz => ?_
 refine plz (ecl Hz Tryd.func38 rfl (create_any vo xa xb xc _ _ hvo ha9 hb9 hc9) ?_)
 rintro e w52 ⟨bl2, sz2, pe2, place, p52, c52, rfl, -, -, -, -, -, -, -, hpl9, hd52, hb52⟩
 have m53 := m4.callF 22 rfl hb52 hd52
 refine ⟨_, rfl, ?_⟩; intro Az Hz
 refine plz (stw Hz m53 21 fct20 fun w55 m55 _ => ?_)
 refine znl (hK4 _ _ ?_)
 refine rtd (retC (fn := Tryd.f35) Hz m55 (i := 21) rfl rfl rfl U82 rfl fct20 ?_)
 exact ⟨_, _, _, _, _, place, _, _, rfl, hpl9, m55.outF (i := 22) rfl, m55.below⟩
theorem scmd_q (n : Nat) (x : VolV) (there : Bool) (p1 p2 p3 : Option Addr) (d1 d2 d3 : Nat) (wh xa xb xc : Int) (w0 : World) (hx : there = true → VolS n x) (hx0 : there = false → x = volZ) (hn : n ≤ 800000) (hw9 : 0 ≤ wh ∧ wh ≤ 255) (ha9 : 0 ≤ xa ∧ xa ≤ 255) (hb9 : 0 ≤ xb ∧ xb ≤ 255) (hc9 : 0 ≤ xc ∧ xc ≤ 255) :
   Calls Tryd.prog 35 #[.agg #[.int .i64 x.vo, .int .i64 x.bl, .int .i64 x.sz, .int .i64 x.pe, .slice p1 x.place.length d1, .int .i64 x.to, .int .i64 x.ne, .bool x.hi, .int .i64 x.fl, .slice p2 x.pins.length d2, .slice p3 (x.ws.map wrD).length d3], .bool there, .int .u8 wh, .int .u8 xa, .int .u8 xb, .int .u8 xc] w0 fun e w' => ∃ (kd vo2 bl2 sz2 pe2 to2 at0 ix : Int) (place : List Int) (it : List (Int × List Int)) (pp : Option Addr) (cp : Nat) (pi : Option Addr) (ci : Nat), e = .returned (.agg #[.int .i64 kd, .int .i64 vo2, .int .i64 bl2, .int .i64 sz2, .int .i64 pe2, .slice pp place.length cp, .int .i64 to2, .int .i64 at0, .int .i64 ix, .slice pi it.length ci]) ∧ place.length ≤ 9 ∧ it.length ≤ 8 ∧ ItsB it ∧ Rd (New w0) w' (.slice pp place.length cp) (.ns .i64 place) ∧ Rd (New w0) w' (.slice pi it.length ci) (.l 2 (it.map itD)) ∧ Below w0.heap.size w0 w' := by
 cases there
 · obtain rfl := hx0 rfl
   refine (scmd_no 0 0 0 0 0 0 0 false p1 p2 p3 0 d1 0 d2 0 d3 wh xa xb xc w0 (by omega) hw9 ha9 hb9 hc9).mono ?_
   rintro e w' ⟨vo2, bl2, sz2, pe2, to2, place, pp, cp, rfl, hp, hd, hb⟩
   exact ⟨1, vo2, bl2, sz2, pe2, to2, 0, 0, place, [], pp, cp, none, 0, rfl, hp, by simp, (fun e h => by cases h), hd, Rd.l0 none 0 2, hb⟩
 obtain ⟨h1, h2, h3, h4, -⟩ := hx rfl
 obtain ⟨vo, bl, sz, pe, place0, to, ne, hi, fl, pins, ws⟩ := x
 simp only at *
 obtain ⟨⟨a1, a2, a3, a4, a5, a6, a7, a8, a9, a10, a11⟩, b1, b2, b3⟩ := h1
 obtain ⟨z, rfl⟩ : ∃ z : Nat, sz = (z : Int) := ⟨sz.toNat, by omega⟩
 refine (scmd_any vo bl z pe to ne fl hi p1 p2 p3 place0.length d1 pins.length d2 (ws.map wrD).length d3 wh xa xb xc w0 (by omega) (by rw [List.length_map]; omega) (by omega) hw9 ha9 hb9 hc9).mono ?_
 rintro e w' ⟨kd, bl2, sz2, pe2, to2, at0, ix, vo2, it, pi, ci, dd, rfl, hkd, hit, hib, hd, hb⟩
 exact ⟨kd, vo2, bl2, sz2, pe2, to2, at0, ix, [], it, none, 0, pi, ci, rfl, by simp, hit, hib, Rd.nilN _ _ .i64 none, hd, hb⟩
theorem svol_any (l : List Int) (pl : Option Addr) (cl : Nat) (w0 : World) (h0 : Rd (fun _ => True) w0 (.slice pl l.length cl) (.ns .u8 l)) (hl : l.length ≤ 100000) (hlb : ∀ j, j < l.length → 0 ≤ l.getD j 0 ∧ l.getD j 0 ≤ 255) :
   Calls Tryd.prog 15 #[.slice pl l.length cl] w0 fun e w' => ∃ (x : VolV) (p1 p2 p3 : Option Addr) (d1 d2 d3 : Nat), e = .returned (.agg #[.int .i64 x.vo, .int .i64 x.bl, .int .i64 x.sz, .int .i64 x.pe, .slice p1 x.place.length d1, .int .i64 x.to, .int .i64 x.ne, .bool x.hi, .int .i64 x.fl, .slice p2 x.pins.length d2, .slice p3 (x.ws.map wrD).length d3]) ∧ VolS l.length x ∧ Rd (New w0) w' (.slice p1 x.place.length d1) (.ns .i64 x.place) ∧ Rd (New w0) w' (.slice p2 x.pins.length d2) (.ns .i64 x.pins) ∧ Rd (New w0) w' (.slice p3 (x.ws.map wrD).length d3) (.l 2 (x.ws.map wrD)) ∧ Below w0.heap.size w0 w' := by
 refine ent1 Tryd.func15 rfl Tryd.ntmps15 fun Az Hz => ?_
 have m0 := MemOk.start (fun _ => False) w0
 refine zsr fun K0 hK0 => ?_
 refine plz (e_alloc Hz m0 20 fct11 rfl fun g1 Az w2 Hz m2 _ _ => ?_)
 refine znl (hK0 _ _ ?_)
 refine zsr fun K1 hK1 => ?_
 refine goCh Hz (.build rfl fct37 fl77sV rfl (by dsimp only [setL, List.set] <;> rfl) .nil) fun Az Hz => ?_
 refine plz (e_box Hz m2 21 (cs := [_]) rfl rfl rfl fun g5 Az w6 Hz m6 _ _ => ?_)
 refine gz hK1 Hz (.assign rfl .nil) fun Az Hz => ?_
 refine wsk fun K2 hK2 => ?_
 refine regS Hz (.assign rfl .nil) fun Az Hz => ?_
 refine wp_block ?_
 refine wp_loop_ghost (fun g a w => ∃ (i k B2 B c : Nat) (L : List VolV) (p : Option Addr), i ≤ l.length ∧ k ≤ i ∧ g = l.length - i ∧ MacS k L ∧ Has 72 [(0, .slice pl l.length cl), (2, .pointer (some ⟨B2, 0, none⟩)), (3, .pointer (some ⟨B, 0, none⟩)), (4, .int .i64 i)] a ∧ MemOk (cn w0) w0 [(1, .box B 77 [.slice p (L.map volD).length c]), (2, .dat (.slice p (L.map volD).length c) (.l 11 (L.map volD))), (3, .box B2 31 [.int .i64 0, .int .i64 0, .int .i64 0, .int .i64 0, .slice none 0 0, .int .i64 0, .int .i64 0, .bool false, .int .i64 0, .slice none 0 0, .slice none 0 0])] w) (l.length) ?_ ?_
 · have mz := m6.dat 2 rfl (Rd.l0 none 0 11)
   exact ⟨0, 0, _, _, _, [], _, Nat.zero_le _, Nat.zero_le _, rfl, ⟨Nat.zero_le _, fun x h => by cases h⟩, Hz.only [0, 2, 3, 4], mz.ren [(1, 21), (2, 2), (3, 20)] (by decide)⟩
 clear Hz m6
 rintro g Az w9 ⟨i, k, B2, B, c, L, p, hil, hki, hg, hM, Hz, m9⟩
 refine wsk fun K3 hK3 => ?_
 refine regS Hz (.move rfl <| .inc (i + 3) <| .move rfl <| .len rfl U22 <| .lss rfl rfl .nil) fun Az Hz => ?_
 refine bc Hz 17 ?_ ?_
 ·
  intro hb15 Hz; try simp only [QQ, Qax] at hb15
  have hi9 : i + 3 < l.length := by omega
  refine wct Hz ?_
  refine zss (hK3 _ _ ?_)
  refine wsk fun K4 hK4 => ?_
  refine wp_block ?_
  refine zsr fun K5 hK5 => ?_
  refine goCh Hz (.move rfl .nil) fun Az Hz => ?_
  refine plz (ecl Hz Tryd.func33 rfl (rmVol _ _ L _ _ _ _ (by have := hM.1; omega) (m9.into [(1, 1), (2, 2)] (by decide) rfl)) ?_)
  rintro e w18 ⟨x, th, p118, p218, p318, d118, d218, d318, rfl, hx1, hx0, hm18⟩
  have mx18 := m9.back hm18 [(1, 1), (2, 2), (100, 3), (101, 4), (102, 5)] (by decide); clear hm18 m9
  have m18 := mx18.oz [1, 2, 100, 101, 102, 3]
  refine ⟨_, rfl, ?_⟩; intro Az Hz
  refine goCh Hz (.move rfl <| .extract rfl rfl <| .extract rfl rfl .nil) fun Az Hz => ?_
  refine plz (e_alloc Hz m18 103 fct11 rfl fun g23 Az w24 Hz m24 _ _ => ?_)
  refine plz (stw Hz m24 103 fct10 fun w25 m25 _ => ?_)
  refine gz hK5 Hz (.assign rfl .nil) fun Az Hz => ?_
  refine wsk fun K6 hK6 => ?_
  replace Hz := Hz.oz [0, 2, 3, 4, 5, 6]
  obtain ⟨gx29, ox29, hp29, hl29, hrg29⟩ := h0.extN (i) (by omega)
  revert Hz
  cases hp29
  intro Hz
  obtain ⟨gx31, ox31, hp31, hl31, hrg31⟩ := h0.extN (i + 1) (by omega)
  revert Hz
  cases hp31
  intro Hz
  obtain ⟨gx33, ox33, hp33, hl33, hrg33⟩ := h0.extN (i + 2) (by omega)
  revert Hz
  cases hp33
  intro Hz
  obtain ⟨gx35, ox35, hp35, hl35, hrg35⟩ := h0.extN (i + 3) (by omega)
  revert Hz
  cases hp35
  intro Hz
  have m36 := m25.oz [1, 2, 3, 100, 101, 102, 103]
  refine region_p 21 (B := [(1, _), (2, _), (3, _), (100, _), (101, _), (102, _), (103, _)]) (m36.to ⟨il, il, il, il, il, il, il, trivial⟩) m36 (by kernel_rfl) (fun w37 hP37 m37 => ?_); clear m36
  refine goR hP37 [0, 1, 2, 3, 4, 5, 6, 7, 8, 9, 10, 11, 12, 13, 14, 15, 16, 17, 18, 19, 20] [0, 5, 10, 15, 20] 21 0 2097151 Hz (m37.to ⟨il, il, il, il, il, il, il, trivial⟩) (.loadBR hh (i := 103) rfl rfl U31 rfl fct10 (by simp) (by dsimp only [List.drop, List.take] <;> rfl) <| .move rfl <| .move rfl <| .move rfl <| .p (fun _ _ h => y_idx h rfl rfl U22 fct7 (i) rfl (by omega)) <| .loadAt1 (fun _ h => (hrg29 h rfl)) (q := 0) rfl rfl rfl U5 rfl <| .move rfl <| .move rfl <| .add rfl rfl (r := ((i + 1 : Nat) : Int)) (by rw [IntWalk.i64_in _ (by omega)]; omega) <| .p (fun _ _ h => y_idx h rfl rfl U22 fct7 (i + 1) rfl (by omega)) <| .loadAt1 (fun _ h => (hrg31 h rfl)) (q := 0) rfl rfl rfl U5 rfl <| .move rfl <| .move rfl <| .add rfl rfl (r := ((i + 2 : Nat) : Int)) (by rw [IntWalk.i64_in _ (by omega)]; omega) <| .p (fun _ _ h => y_idx h rfl rfl U22 fct7 (i + 2) rfl (by omega)) <| .loadAt1 (fun _ h => (hrg33 h rfl)) (q := 0) rfl rfl rfl U5 rfl <| .move rfl <| .move rfl <| .add rfl rfl (r := ((i + 3 : Nat) : Int)) (by rw [IntWalk.i64_in _ (by omega)]; omega) <| .p (fun _ _ h => y_idx h rfl rfl U22 fct7 (i + 3) rfl (by omega)) <| .loadAt1 (fun _ h => (hrg35 h rfl)) (q := 0) rfl rfl rfl U5 rfl .nil) fun Az Hz => ?_
  refine se 21 ?_
  refine ecl Hz Tryd.func35 rfl (scmd_q k x th _ _ _ _ _ _ _ _ _ _ _ (fun h => hM.2 _ (hx1 h)) hx0 (by omega) (hlb _ (by omega)) (hlb _ (by omega)) (hlb _ (by omega)) (hlb _ (by omega))) ?_
  rintro e w59 ⟨kd, vo2, bl2, sz2, pe2, to2, at0, ix, place, it, pp59, cp59, pi59, ci59, rfl, hpl9, hit8, hitb, hd59, he59, hb59⟩
  have m60 := m37.callF2 104 105 rfl rfl hb59 hd59 he59
  refine ⟨_, rfl, ?_⟩; intro Az Hz
  refine se 22 ?_
  refine ecl Hz Tryd.func34 rfl (rputCmd _ _ _ _ _ _ _ _ place it _ _ _ _ _ _ ((m60.rd (i := 104) rfl).any) ((m60.rd (i := 105) rfl).any) (by omega) (by omega) (fun e he => (hitb e he).2)) ?_
  rintro e w62 ⟨bs, p62, c62, e9, rfl, hbs, hbb, hd62, hb62⟩
  have m63 := m60.callF 106 rfl hb62 hd62
  refine ⟨_, rfl, ?_⟩; intro Az Hz
  refine goB hP37 [23, 24, 25, 26, 27] 5 8388607 268435455 Hz (.move rfl <| .extract rfl rfl <| .extract rfl rfl <| .assign rfl <| .assign rfl .nil) fun Az Hz => ?_
  refine wpAnyE_done (by kernel_rfl) ?_ _
  refine hK6 _ _ ?_
  replace Hz := Hz.oz [0, 2, 3, 4, 31, 7]
  refine wp_region_lit ?_
  refine goCh Hz (.move rfl <| .move rfl .nil) fun Az Hz => ?_
  refine plz (ecl Hz Tryd.func36 rfl (rmApply _ _ k L _ _ bs _ _ _ hM (by omega) (by omega) hbb (m63.into [(1, 1), (2, 2), (3, 106)] (by decide) rfl)) ?_)
  rintro e w73 ⟨e1, rl1, rf1, rn1, L2, p73, c73, rfl, hM2, hm73⟩
  have mx73 := m63.back hm73 [(1, 1), (2, 2)] (by decide); clear hm73 m63
  have m73 := mx73.oz [1, 2, 3, 100, 101, 102, 103, 104, 105]
  refine ⟨_, rfl, ?_⟩; intro Az Hz
  refine znl (hK4 _ _ ?_)
  refine wp_region_lit ?_
  refine goCh Hz (.move rfl <| .inc (i + 4) <| .assign rfl .nil) fun Az Hz => ?_
  refine wpList_nil ?_
  show ∃ n', n' < _ ∧ _
  exact ⟨l.length - (i + 4), by omega, i + 4, k + 1, _, _, _, L2, _, by omega, by omega, rfl, hM2, Hz.only [0, 2, 3, 4], m73.ren [(1, 1), (2, 2), (3, 3)] (by decide)⟩
 intro hb15 Hz; try simp only [QQ, Qax] at hb15
 refine wcf Hz ?_
 refine wp_exit ?_
 refine hK2 _ _ ?_
 refine wsk fun K7 hK7 => ?_
 refine regS Hz (.move rfl <| .nilCheck rfl <| .fa 0 rfl U77 <| .lb m9 1 U75 rfl rfl rfl <| .len rfl U75 <| .eql rfl rfl .nil) fun Az Hz => ?_
 refine bc Hz 59 ?_ ?_
 ·
  intro hb84 Hz; try simp only [QQ, Qax] at hb84
  refine wct Hz ?_
  replace Hz := Hz.oz [0, 2, 3, 4]
  refine zsr fun K8 hK8 => ?_
  refine plz (ecl Hz Tryd.func38 rfl (create_any 0 3 1 1 0 _ (by omega) (by omega) (by omega) (by omega)) ?_)
  rintro e w86 ⟨bl2, sz2, pe2, place, p86, c86, rfl, hbl1, hbl9, hsz1, hsz3, hpe1, hpeb, hplc, hpl9, hd86, hb86⟩
  have m87 := m9.callF 100 rfl hb86 hd86
  refine ⟨_, rfl, ?_⟩; intro Az Hz
  have hN : NewOk (Int.tmod 0 3) bl2 sz2 pe2 0 place := ⟨by decide, by decide, by omega, by omega, by omega, by omega, by omega, by omega, hplc, by omega, by omega⟩
  refine plz (ecl Hz Tryd.func37 rfl (rnew_yes _ _ bl2 sz2 pe2 0 _ _ place _ _ _ _ _ _ ((m87.rd (i := 100) rfl).any) (by omega) hN) ?_)
  rintro e w89 ⟨p89, c89, rfl, hd89, hb89⟩
  have m90 := m87.callF 101 rfl hb89 hd89
  refine ⟨_, rfl, ?_⟩; intro Az Hz
  refine goCh Hz (.move rfl <| .extract rfl rfl <| .extract rfl rfl .nil) fun Az Hz => ?_
  refine plz (e_alloc Hz m90 102 fct11 rfl fun g95 Az w96 Hz m96 _ _ => ?_)
  refine plz (stw Hz m96 102 fct10 fun w97 m97 _ => ?_)
  refine gz hK8 Hz (.assign rfl .nil) fun Az Hz => ?_
  replace Hz := Hz.oz [0, 2, 3, 4, 9]
  refine zsr fun K9 hK9 => ?_
  refine goCh Hz (.loadBR m97 (i := 102) rfl rfl U31 rfl fct10 (by simp) (by dsimp only [List.drop, List.take] <;> rfl) .nil) fun Az Hz => ?_
  refine plz (stw Hz m97 3 fct10 fun w102 m102 _ => ?_)
  refine znl (hK9 _ _ ?_)
  refine rtd (retC (fn := Tryd.f15) Hz m102 (i := 3) rfl rfl rfl U31 rfl fct10 ?_)
  exact ⟨newV (Int.tmod 0 3) bl2 sz2 pe2 0 place, _, _, _, _, _, _, rfl, newV_s hN, m102.outF (i := 101) rfl, Rd.nilN _ _ .i64 none, Rd.l0 none 0 2, m102.below⟩
 intro hb84 Hz; try simp only [QQ, Qax] at hb84
 have hL0 : 0 < L.length := by simp at hb84; exact List.length_pos_iff.2 hb84
 obtain ⟨x, hes⟩ : ∃ x, L[0]? = some x := ⟨_, List.getElem?_eq_getElem hL0⟩
 refine wcf Hz ?_
 refine zss (hK7 _ _ ?_)
 replace Hz := Hz.oz [0, 2, 3, 4]
 refine zsr fun K10 hK10 => ?_
 refine goCh Hz (.move rfl <| .nilCheck rfl <| .fa 0 rfl U77 <| .lb m9 1 U75 rfl rfl rfl .nil) fun Az Hz => ?_
 obtain ⟨b113, o113, vs113, hp113, hR113, ho113, m113⟩ := m9.openR (i := 2) rfl (0) (r := [.v (.int .i64 x.vo), .v (.int .i64 x.bl), .v (.int .i64 x.sz), .v (.int .i64 x.pe), .ns .i64 x.place, .v (.int .i64 x.to), .v (.int .i64 x.ne), .v (.bool x.hi), .v (.int .i64 x.fl), .ns .i64 x.pins, .l 2 (x.ws.map wrD)]) (volD_get hes) 100 rfl
 revert Hz
 cases hp113; clear m9 ho113
 rcases hR113 with _ | ⟨hd113_0, _ | ⟨hd113_1, _ | ⟨hd113_2, _ | ⟨hd113_3, _ | ⟨hd113_4, _ | ⟨hd113_5, _ | ⟨hd113_6, _ | ⟨hd113_7, _ | ⟨hd113_8, _ | ⟨hd113_9, _ | ⟨hd113_10, _ | _⟩⟩⟩⟩⟩⟩⟩⟩⟩⟩⟩
 obtain rfl := hd113_0.v_out
 clear hd113_0
 obtain rfl := hd113_1.v_out
 clear hd113_1
 obtain rfl := hd113_2.v_out
 clear hd113_2
 obtain rfl := hd113_3.v_out
 clear hd113_3
 obtain ⟨p114, c114, hv114, hc114⟩ := hd113_4.ns_shape; subst hv114
 intro Hz
 have m114 := m113.dat 101 rfl (hd113_4.cast (fun _ h => (free_add rfl h))); clear m113 hd113_4
 revert Hz
 obtain rfl := hd113_5.v_out
 clear hd113_5
 obtain rfl := hd113_6.v_out
 clear hd113_6
 obtain rfl := hd113_7.v_out
 clear hd113_7
 obtain rfl := hd113_8.v_out
 clear hd113_8
 obtain ⟨p115, c115, hv115, hc115⟩ := hd113_9.ns_shape; subst hv115
 intro Hz
 have m115 := m114.dat 102 rfl (hd113_9.cast (fun _ h => (free_add rfl (free_add rfl h)))); clear m114 hd113_9
 revert Hz
 obtain ⟨p116, c116, hv116, hc116⟩ := hd113_10.l_shape; subst hv116
 intro Hz
 have m116 := m115.dat 103 rfl (hd113_10.cast (fun _ h => (free_add rfl (free_add rfl (free_add rfl h))))); clear m115 hd113_10
 refine goCh Hz (.c rfl (fun _ h => y_idx h rfl rfl U75 fct10 (0) rfl (by simpa using hL0)) <| .loadCR m116 (i := 100) rfl rfl U31 rfl fct10 .nil) fun Az Hz => ?_
 refine plz (stw Hz m116 3 fct10 fun w119 m119 _ => ?_)
 refine znl (hK10 _ _ ?_)
 refine rtd (retC (fn := Tryd.f15) Hz m119 (i := 3) rfl rfl rfl U31 rfl fct10 ?_)
 exact ⟨x, _, _, _, _, _, _, rfl, (hM.2 _ (List.mem_of_getElem? hes)).up (by omega), m119.outF (i := 101) rfl, m119.outF (i := 102) rfl, m119.outF (i := 103) rfl, m119.below⟩
end Go.Proofs.YtcccomafnmdlfaaDoor.K
end
section
namespace Go.Proofs.YtcccomafnmdlfaaDoor.K
open Go.ChangeShapes Go.WideShapes Go.ChangeAt Go.RowKit
set_option linter.unusedVariables false
set_option linter.unusedSimpArgs false
def WrsB (ws : List (Int × List (Int × List Int))) : Prop := ∀ e ∈ ws, e.2.length ≤ 8 ∧ ItsB e.2
theorem WrsB.ok {ws : List (Int × List (Int × List Int))} (h : WrsB ws) : WrsOk ws := fun e he => ⟨Nat.le_trans (h e he).1 (by decide), (h e he).2.ok⟩
set_option maxRecDepth 100000
set_option maxHeartbeats 4000000
end Go.Proofs.YtcccomafnmdlfaaDoor.K
end
section
namespace Go.Proofs.YtcccomafnmdlfaaDoor.K
open Go.ChangeShapes Go.WideShapes Go.ChangeAt Go.RowKit
set_option linter.unusedVariables false
set_option linter.unusedSimpArgs false
set_option maxRecDepth 100000
set_option maxHeartbeats 4000000
end Go.Proofs.YtcccomafnmdlfaaDoor.K
end
section
namespace Go.Proofs.YtcccomafnmdlfaaDoor.K
open Go.ChangeShapes Go.WideShapes Go.ChangeAt Go.RowKit
set_option linter.unusedVariables false
set_option linter.unusedSimpArgs false
theorem VolS.sm {n : Nat} {x : VolV} (h : VolS n x) : x.place.length ≤ 256 ∧ x.pins.length ≤ n ∧ x.ws.length ≤ n ∧ ∀ e ∈ x.ws, e.2.length ≤ 8 := by
 obtain ⟨h1, h2, h3, h4, -⟩ := h
 refine ⟨?_, h3, h4, h1.its.2⟩
 obtain ⟨⟨a1, a2, a3, a4, a5, a6, a7, a8, a9, a10, a11⟩, b1, b2, b3⟩ := h1
 have h9 := a9.2
 have : (x.bl + x.pe - 1) / x.pe ≤ x.bl + x.pe - 1 := Int.ediv_le_self _ (by omega)
 have h8 : (x.bl + x.pe - 1) / x.pe ≤ x.bl := by
   have := Int.ediv_lt_of_lt_mul (a := x.bl + x.pe - 1) (b := x.bl + 1) (c := x.pe) (by omega) (by
     have : x.bl * 1 ≤ x.bl * x.pe := Int.mul_le_mul_of_nonneg_left (by omega) (by omega)
     rw [Int.add_mul]; omega)
   omega
 omega
def pinT (fl n : Int) (z : Int) : Int := fl + z % (n - fl + 1)
abbrev stZ (bl sz : Int) : List (List Int) := List.replicate bl.toNat (List.replicate sz.toNat 0)
abbrev stL (bl sz : Int) (ws : List PWr) (t : Nat) : List (List Int) := (ws.take t).foldl stW (stZ bl sz)
theorem stStep_len (L : List (List Int)) (x : PI) : (stStep L x).length = L.length := by unfold stStep; split <;> simp
theorem stSteps_len (l : List PI) : ∀ L : List (List Int), (l.foldl stStep L).length = L.length := by
 induction l with
 | nil => intro L; rfl
 | cons x l ih => intro L; rw [List.foldl_cons, ih, stStep_len]
theorem stW_len (L : List (List Int)) (x : PWr) : (stW L x).length = L.length := stSteps_len _ _
theorem stWs_len (l : List PWr) : ∀ L : List (List Int), (l.foldl stW L).length = L.length := by
 induction l with
 | nil => intro L; rfl
 | cons x l ih => intro L; rw [List.foldl_cons, ih, stW_len]
theorem stL_len (bl sz : Int) (ws : List PWr) (t : Nat) : (stL bl sz ws t).length = bl.toNat := by rw [stWs_len, List.length_replicate]
def wantF (i : Nat) (d : List Int) (x : PI) : List Int := if x.1 = (i : Int) then x.2 else d
theorem stStep_get (L : List (List Int)) (x : PI) (i : Nat) (hi : i < L.length) : (stStep L x).getD i [] = wantF i (L.getD i []) x := by
 unfold stStep wantF
 by_cases h : 0 ≤ x.1 ∧ x.1 ≤ (L.length : Int) - 1
 · rw [if_pos h]
   by_cases h2 : x.1 = (i : Int)
   · rw [if_pos h2, h2, Int.toNat_natCast]
     simp [List.getD, List.getElem?_set_self, hi]
   rw [if_neg h2]
   have h3 : x.1.toNat ≠ i := by omega
   simp [List.getD, List.getElem?_set_ne h3]
 rw [if_neg h, if_neg (by omega)]
theorem stSteps_get (l : List PI) (i : Nat) : ∀ (L : List (List Int)), i < L.length → (l.foldl stStep L).getD i [] = l.foldl (wantF i) (L.getD i []) := by
 induction l with
 | nil => intro L _; rfl
 | cons x l ih => intro L h; rw [List.foldl_cons, List.foldl_cons, ih _ (by rw [stStep_len]; exact h), stStep_get L x i h]
set_option maxRecDepth 100000
set_option maxHeartbeats 4000000
end Go.Proofs.YtcccomafnmdlfaaDoor.K
end
section
namespace Go.Proofs.YtcccomafnmdlfaaDoor.K
open Go.ChangeShapes Go.WideShapes Go.ChangeAt Go.RowKit
set_option linter.unusedVariables false
set_option linter.unusedSimpArgs false
set_option maxRecDepth 100000
set_option maxHeartbeats 4000000
theorem rstate_any (X : Cx) (vo bl sz pe to ne fl : Int) (hi : Bool) (pp pn pw : Option Addr) (np cp nn9 cn9 cw : Nat) (ws : List PWr) (t n z : Nat) (w0 : World) (hX : ∀ b, b ∉ X.bad) (hl : ws.length ≤ 1000000) (hok : WrsOk ws) (hib : ∀ e ∈ ws, ∀ x ∈ e.2, 0 ≤ x.1 ∧ x.1 < (n : Int)) (hn : n ≤ 256) (hz : z ≤ 32) (ht0 : fl ≤ t) (ht1 : t ≤ ws.length) (m0 : MemOk X w0 [(3, .dat (.slice pw (ws.map wrD).length cw) (.l 2 (ws.map wrD)))] w0) :
   Calls Tryd.prog 17 #[.agg #[.int .i64 vo, .int .i64 (n : Int), .int .i64 (z : Int), .int .i64 pe, .slice pp np cp, .int .i64 to, .int .i64 ne, .bool hi, .int .i64 fl, .slice pn nn9 cn9, .slice pw (ws.map wrD).length cw], .int .i64 (t : Int)] w0 fun e w' => ∃ p c, e = .returned (.tuple #[.slice p (((ws.take t).foldl stW (List.replicate n (List.replicate z 0))).map bD).length c, .int .i64 0]) ∧ MemOk X w0 [(3, .dat (.slice pw (ws.map wrD).length cw) (.l 2 (ws.map wrD))), (9, .dat (.slice p (((ws.take t).foldl stW (List.replicate n (List.replicate z 0))).map bD).length c) (.l 1 (((ws.take t).foldl stW (List.replicate n (List.replicate z 0))).map bD)))] w' := by
 refine ent2 Tryd.func17 rfl Tryd.ntmps17 fun Az Hz => ?_
 refine zsr fun K0 hK0 => ?_
 refine plz (e_box Hz m0 70 (cs := [_, _, _, _, _, _, _, _, _, _, _]) rfl rfl rfl fun g1 Az w2 Hz m2 _ _ => ?_)
 refine gz hK0 Hz (.assign rfl <| .assign rfl <| .nil) fun Az Hz => ?_
 refine wsk fun K1 hK1 => ?_
 refine regS Hz (.move rfl <| .fa 8 rfl U31 <| .lb m2 70 U2 rfl rfl rfl <| .lss rfl rfl .nil) fun Az Hz => ?_
 refine bc Hz 14 ?_ ?_
 · intro hb _; exact absurd hb (by simp; omega)
 clear Hz; intro _ Hz
 refine wcf Hz ?_
 refine zss (hK1 _ _ ?_)
 refine wsk fun K2 hK2 => ?_
 refine zsr fun K3 hK3 => ?_
 refine goCh Hz (.move rfl <| .loadBR m2 (i := 70) rfl rfl U31 rfl fct10 (by simp) (by dsimp only [List.drop, List.take] <;> rfl) .nil) fun Az Hz => ?_
 refine wpList_plain rfl (fun K hK => ?_)
 refine e_call Hz Tryd.func16 rfl rfl rfl rfl (rlen_any _ _ _ _ _ _ _ _ _ _ _ _ _ _ _ _ _ _) ?_
 rintro e w14 ⟨rfl, hb14⟩
 rw [List.length_map]
 have m15 := m2.later hb14
 refine ⟨_, rfl, ?_⟩; intro Az Hz
 refine hK _ _ ?_; clear hK
 refine gz hK3 Hz (.gtr rfl rfl .nil) fun Az Hz => ?_
 refine bc Hz 18 ?_ ?_
 · intro hb _; exact absurd hb (by simp; omega)
 clear Hz; intro _ Hz
 refine wcf Hz ?_
 refine zss (hK2 _ _ ?_)
 replace Hz := Hz.oz [1, 2, 4, 5]
 refine regS Hz (.assign rfl .nil) fun Az Hz => ?_
 refine wsk fun K4 hK4 => ?_
 refine regS Hz (.assign rfl .nil) fun Az Hz => ?_
 refine wp_block ?_
 refine wp_loop_ghost (fun g a w => ∃ (k B2 : Nat) (p : Option Addr) (c : Nat), k ≤ n ∧ g = n - k ∧ Has 63 [(1, .int .i64 (t : Int)), (2, .pointer (some ⟨B2, 0, none⟩)), (6, .slice p ((List.replicate k (List.replicate z 0)).map bD).length c), (7, .int .i64 k)] a ∧ MemOk X w0 [(1, .box B2 31 [.int .i64 vo, .int .i64 (n : Int), .int .i64 (z : Int), .int .i64 pe, .slice pp np cp, .int .i64 to, .int .i64 ne, .bool hi, .int .i64 fl, .slice pn nn9 cn9, .slice pw (ws.map wrD).length cw]), (3, .dat (.slice pw (ws.map wrD).length cw) (.l 2 (ws.map wrD))), (9, .row (.slice p ((List.replicate k (List.replicate z 0)).map bD).length c) 22 1 ((List.replicate k (List.replicate z 0)).map bD))] w) (n) ?_ ?_
 · have mz := m15.nilR 9 22 1
   exact ⟨0, _, _, _, Nat.zero_le _, rfl, Hz.only [1, 2, 6, 7], mz.ren [(1, 70), (3, 3), (9, 9)] (by decide)⟩
 clear Hz m15
 rintro g Az w22 ⟨k, B2, p, c, hkl, hg, Hz, m22⟩
 refine wsk fun K5 hK5 => ?_
 refine regS Hz (.move rfl <| .fa 1 rfl U31 <| .lb m22 1 U3 rfl rfl rfl <| .lss rfl rfl .nil) fun Az Hz => ?_
 refine bc Hz 22 ?_ ?_
 ·
  intro hb27 Hz; try simp only [QQ, Qax] at hb27
  have hk9 : k < n := by omega
  refine wct Hz ?_
  refine zss (hK5 _ _ ?_)
  refine wsk fun K6 hK6 => ?_
  refine wp_block ?_
  refine wp_region_lit ?_
  refine goCh Hz (.move rfl <| .fa 2 rfl U31 <| .lb m22 1 U3 rfl rfl rfl .nil) fun Az Hz => ?_
  refine plz (e_makeN Hz m22 100 (z) rfl rfl rfl rfl U22 fct4 (by decide) (by omega) rfl fun p31 c31 Az w32 Hz m32 => ?_)
  have m34 := m32.freezeN 100 rfl
  refine plz (e_litR Hz m34 101 (mm := 1) rfl (.cons rfl rfl (.cons (m34.rd (i := 100) rfl) .nil) .nil) U23 fct5 rfl rfl rfl rfl rfl fun g33 Az w35 Hz m35 => ?_)
  have m37 := m35.freezeR 101 rfl
  refine plz (e_appR Hz m37 9 rfl rfl rfl (m37.rd (i := 101) rfl) U23 fct5 rfl rfl (by decide) (by simp; omega) rfl fun p36 c36 Az w38 Hz m38 => ?_)
  refine gz hK6 Hz (.assign rfl .nil) fun Az Hz => ?_
  replace Hz := Hz.oz [1, 2, 6, 7]
  refine wp_region_lit ?_
  refine goCh Hz (.move rfl <| .inc (k + 1) <| .assign rfl .nil) fun Az Hz => ?_
  refine wpList_nil ?_
  show ∃ n', n' < _ ∧ _
  have hE : (List.replicate k (List.replicate z 0)).map bD ++ [[D.ns .u8 (List.replicate z 0)]] = (List.replicate (k + 1) (List.replicate z 0)).map bD := by rw [List.replicate_succ', List.map_append]; rfl
  rw [hE] at m38 Hz
  exact ⟨n - (k + 1), by omega, k + 1, _, _, _, by omega, rfl, Hz.only [1, 2, 6, 7], m38.ren [(1, 1), (3, 3), (9, 9)] (by decide)⟩
 intro hb27 Hz; try simp only [QQ, Qax] at hb27
 have hkn : k = n := by omega
 rw [hkn] at m22 Hz
 refine wcf Hz ?_
 refine wp_exit ?_
 refine hK4 _ _ ?_
 refine wsk fun K7 hK7 => ?_
 refine regS Hz (.assign rfl .nil) fun Az Hz => ?_
 refine wp_block ?_
 have m45 := m22.rowS 9 rfl
 refine wp_loop_ghost (fun g a w => ∃ (k B2 : Nat) (L : List (List Int)) (p : Option Addr) (c : Nat), k ≤ t ∧ g = t - k ∧ L = (ws.take k).foldl stW (List.replicate n (List.replicate z 0)) ∧ L.length = n ∧ Has 63 [(1, .int .i64 (t : Int)), (2, .pointer (some ⟨B2, 0, none⟩)), (6, .slice p (L.map bD).length c), (8, .int .i64 k)] a ∧ MemOk X w0 [(1, .box B2 31 [.int .i64 vo, .int .i64 (n : Int), .int .i64 (z : Int), .int .i64 pe, .slice pp np cp, .int .i64 to, .int .i64 ne, .bool hi, .int .i64 fl, .slice pn nn9 cn9, .slice pw (ws.map wrD).length cw]), (3, .dat (.slice pw (ws.map wrD).length cw) (.l 2 (ws.map wrD))), (9, .seg (.slice p (L.map bD).length c) 22 1 (L.map bD))] w) (t) ?_ ?_
 · exact ⟨0, _, _, _, _, Nat.zero_le _, rfl, rfl, List.length_replicate .., Hz.only [1, 2, 6, 8], m45.ren [(1, 1), (3, 3), (9, 9)] (by decide)⟩
 clear Hz m45
 rintro g Az w46 ⟨k, B2, L, p, c, hkl, hg, hL, hLn, Hz, m46⟩
 refine wsk fun K8 hK8 => ?_
 refine regS Hz (.move rfl <| .move rfl <| .lss rfl rfl .nil) fun Az Hz => ?_
 refine bc Hz 33 ?_ ?_
 ·
  intro hb50 Hz; try simp only [QQ, Qax] at hb50
  have hk : k < ws.length := by omega
  obtain ⟨⟨xs, xl⟩, hes⟩ : ∃ e, ws[k]? = some e := ⟨_, List.getElem?_eq_getElem hk⟩
  have hok2 := hok _ (List.mem_of_getElem? hes)
  dsimp only at hok2
  have hib2 := hib _ (List.mem_of_getElem? hes)
  dsimp only at hib2
  refine wct Hz ?_
  refine zss (hK8 _ _ ?_)
  refine wsk fun K9 hK9 => ?_
  refine wp_block ?_
  refine zsr fun K10 hK10 => ?_
  refine goCh Hz (.fa 10 rfl U31 <| .lb m46 1 U29 rfl rfl rfl <| .move rfl .nil) fun Az Hz => ?_
  obtain ⟨b58, o58, vs58, hp58, hR58, ho58, m58⟩ := m46.openR (i := 3) rfl (k) (r := [.v (.int .i64 xs), .l 2 (xl.map itD)]) (wrD_get hes) 200 rfl
  revert Hz
  cases hp58; clear m46 ho58
  rcases hR58 with _ | ⟨hd58_0, _ | ⟨hd58_1, _ | _⟩⟩
  obtain rfl := hd58_0.v_out
  clear hd58_0
  obtain ⟨p59, c59, hv59, hc59⟩ := hd58_1.l_shape; subst hv59
  intro Hz
  have m59 := m58.dat 201 rfl (hd58_1.cast (fun _ h => (free_add rfl h))); clear m58 hd58_1
  refine goCh Hz (.c rfl (fun _ h => y_idx h rfl rfl U29 fct25 (k) rfl (by rw [List.length_map]; omega)) <| .loadCR m59 (i := 200) rfl rfl U59 rfl fct25 .nil) fun Az Hz => ?_
  refine plz (e_alloc Hz m59 202 fct38 rfl fun g62 Az w63 Hz m63 _ _ => ?_)
  refine plz (stw Hz m63 202 fct25 fun w64 m64 _ => ?_)
  refine znl (hK10 _ _ ?_)
  replace Hz := Hz.oz [1, 2, 6, 8, 9]
  refine regS Hz (.assign rfl .nil) fun Az Hz => ?_
  refine wp_block ?_
  refine wp_loop_ghost (fun g a w => ∃ (j B2 B9 : Nat) (L2 : List (List Int)) (p px : Option Addr) (c cx9 : Nat), j ≤ xl.length ∧ g = xl.length - j ∧ L2 = (xl.take j).foldl stStep L ∧ L2.length = n ∧ Has 63 [(1, .int .i64 (t : Int)), (2, .pointer (some ⟨B2, 0, none⟩)), (6, .slice p (L2.map bD).length c), (8, .int .i64 k), (9, .pointer (some ⟨B9, 0, none⟩)), (10, .int .i64 j)] a ∧ MemOk X w0 [(1, .box B2 31 [.int .i64 vo, .int .i64 (n : Int), .int .i64 (z : Int), .int .i64 pe, .slice pp np cp, .int .i64 to, .int .i64 ne, .bool hi, .int .i64 fl, .slice pn nn9 cn9, .slice (some ⟨b58, o58, none⟩) (ws.map wrD).length cw]), (3, .dat (.slice (some ⟨b58, o58, none⟩) (ws.map wrD).length cw) (.l 2 (ws.map wrD))), (9, .seg (.slice p (L2.map bD).length c) 22 1 (L2.map bD)), (12, .box B9 59 [.int .i64 xs, .slice px (xl.map itD).length cx9]), (13, .dat (.slice px (xl.map itD).length cx9) (.l 2 (xl.map itD)))] w) (xl.length) ?_ ?_
  · exact ⟨0, _, _, L, _, _, _, _, Nat.zero_le _, rfl, rfl, hLn, Hz.only [1, 2, 6, 8, 9, 10], m64.ren [(1, 1), (3, 3), (9, 9), (12, 202), (13, 201)] (by decide)⟩
  clear Hz m64
  rintro g Az w67 ⟨j, B2, B9, L2, p, px, c, cx9, hjl, hg2, hL2, hL2n, Hz, m67⟩
  refine wsk fun K11 hK11 => ?_
  refine regS Hz (.move rfl <| .fa 1 rfl U59 <| .lb m67 12 U36 rfl rfl rfl <| .len rfl U36 <| .lss rfl rfl .nil) fun Az Hz => ?_
  refine bc Hz 45 ?_ ?_
  ·
   intro hb73 Hz; try simp only [QQ, Qax] at hb73
   rw [List.length_map] at hb73
   have hj : j < xl.length := by omega
   obtain ⟨⟨xb, xd⟩, hxs⟩ : ∃ e, xl[j]? = some e := ⟨_, List.getElem?_eq_getElem hj⟩
   have hxb := hib2 _ (List.mem_of_getElem? hxs)
   dsimp only at hxb
   refine wct Hz ?_
   refine zss (hK11 _ _ ?_)
   refine wsk fun K12 hK12 => ?_
   refine wp_block ?_
   obtain ⟨b74, o74, vs74, hp74, hR74, ho74, m74⟩ := m67.openR (i := 13) rfl (j) (r := [.v (.int .i64 xb), .ns .u8 xd]) (itD_get hxs) 300 rfl
   revert Hz
   cases hp74; clear m67 ho74
   rcases hR74 with _ | ⟨hd74_0, _ | ⟨hd74_1, _ | _⟩⟩
   obtain rfl := hd74_0.v_out
   clear hd74_0
   obtain ⟨p75, c75, hv75, hc75⟩ := hd74_1.ns_shape; subst hv75
   intro Hz
   have m75 := m74.dat 301 rfl (hd74_1.cast (fun _ h => (free_add rfl h))); clear m74 hd74_1
   obtain ⟨b76, o76, vs76, hp76, hR76, ho76, m76⟩ := m75.openR (i := 13) rfl (j) (r := [.v (.int .i64 xb), .ns .u8 xd]) (itD_get hxs) 302 rfl
   revert Hz
   cases hp76; clear m75 ho76
   rcases hR76 with _ | ⟨hd76_0, _ | ⟨hd76_1, _ | _⟩⟩
   obtain rfl := hd76_0.v_out
   clear hd76_0
   obtain ⟨p77, c77, hv77, hc77⟩ := hd76_1.ns_shape; subst hv77
   intro Hz
   have m77 := m76.dat 303 rfl (hd76_1.cast (fun _ h => (free_add rfl h))); clear m76 hd76_1
   obtain ⟨gs78, os78, vs78, hp78, hl78, hR78, hrg78⟩ := m77.openS (i := 9) rfl (xb.toNat) (r := [.ns .u8 (L2.getD xb.toNat [])]) (bD_get (by omega))
   revert Hz
   cases hp78; clear hl78 hR78 hrg78 vs78
   intro Hz
   have m79 := m77.oz [1, 3, 9, 12, 13, 300, 301, 302, 303]
   refine region_p 14 (B := [(1, _), (3, _), (9, _), (12, _), (13, _), (300, _), (301, _), (302, _), (303, _)]) (m79.to ⟨il, il, il, il, il, il, il, il, il, trivial⟩) m79 (by kernel_rfl) (fun w80 hP80 m80 => ?_); clear m79
   refine goR hP80 [0, 1, 2, 3, 4, 5, 6, 7, 8, 9, 10, 11, 12, 13] [2, 6, 8, 12] 14 0 16383 Hz (m80.to ⟨il, il, il, il, il, il, il, il, il, trivial⟩) (.move rfl <| .fa 1 rfl U59 <| .lb hh 12 U36 rfl rfl rfl <| .move rfl <| .p (fun _ _ h => y_idx h rfl rfl U36 fct1 (j) rfl (by simpa using hj)) <| .fieldAddrQ 0 rfl U48 rfl (s := 0) (by kernel_rfl) rfl <| .loadC0 hh (i := 300) rfl rfl U3 rfl <| .fa 1 rfl U59 <| .lb hh 12 U36 rfl rfl rfl <| .move rfl <| .p (fun _ _ h => y_idx h rfl rfl U36 fct1 (j) rfl (by simpa using hj)) <| .fieldAddrQ 1 rfl U48 rfl (s := 0) (by kernel_rfl) rfl <| .loadC1 hh (i := 302) (q := 1) rfl rfl rfl U22 rfl <| .p (fun _ _ h => y_idx h rfl rfl U23 fct8 (xb.toNat) (Int.toNat_of_nonneg (by omega)).symm (by rw [List.length_map]; omega)) .nil) fun Az Hz => ?_
   refine se 14 ?_
   refine e_storeSD Hz m80 9 rfl (xb.toNat) (r := [.ns .u8 (L2.getD xb.toNat [])]) (bD_get (by omega)) (q := 0) rfl rfl rfl rfl rfl fct8 (m80.rd (i := 303) rfl) fun w95 m95 => ?_
   have hset : (L2.map bD).set xb.toNat ([D.ns .u8 (L2.getD xb.toNat [])].set 0 (D.ns .u8 xd)) = (L2.set xb.toNat xd).map bD := by rw [List.map_set]; rfl
   rw [hset] at m95
   rw [show (List.map bD L2).length = (List.map bD (L2.set xb.toNat xd)).length from by simp] at Hz m95
   refine wpAnyE_done (by kernel_rfl) ?_ _
   refine hK12 _ _ ?_
   replace Hz := Hz.oz [1, 2, 6, 8, 9, 10]
   refine wp_region_lit ?_
   refine goCh Hz (.move rfl <| .inc (j + 1) <| .assign rfl .nil) fun Az Hz => ?_
   refine wpList_nil ?_
   show ∃ n', n' < _ ∧ _
   exact ⟨xl.length - (j + 1), by omega, j + 1, _, _, L2.set xb.toNat xd, _, _, _, _, by omega, rfl, stx_yes hxs hL2 (by omega), by rw [List.length_set]; exact hL2n, Hz.only [1, 2, 6, 8, 9, 10], m95.ren [(1, 1), (3, 3), (9, 9), (12, 12), (13, 13)] (by decide)⟩
  intro hb73 Hz; try simp only [QQ, Qax] at hb73
  rw [List.length_map] at hb73
  revert Hz
  obtain rfl : j = xl.length := by omega
  intro Hz
  rw [List.take_length] at hL2
  refine wcf Hz ?_
  refine wp_exit ?_
  refine hK9 _ _ ?_
  refine wp_region_lit ?_
  refine goCh Hz (.move rfl <| .inc (k + 1) <| .assign rfl .nil) fun Az Hz => ?_
  refine wpList_nil ?_
  show ∃ n', n' < _ ∧ _
  exact ⟨t - (k + 1), by omega, k + 1, _, L2, _, _, by omega, rfl, st_snoc hes hL hL2, hL2n, Hz.only [1, 2, 6, 8], m67.ren [(1, 1), (3, 3), (9, 9)] (by decide)⟩
 intro hb50 Hz; try simp only [QQ, Qax] at hb50
 revert Hz
 obtain rfl : k = t := by omega
 intro Hz
 refine wcf Hz ?_
 refine wp_exit ?_
 refine hK7 _ _ ?_
 refine regS Hz (.move rfl <| .assign rfl <| .assign rfl .nil) fun Az Hz => ?_
 refine rt2 Hz ?_
 have mf106 := m46.freezeS 9 rfl hX
 exact ⟨_, _, by rw [← hL], by rw [← hL]; exact mf106.ren [(3, 3), (9, 9)] (by decide)⟩
end Go.Proofs.YtcccomafnmdlfaaDoor.K
end
section
namespace Go.Proofs.YtcccomafnmdlfaaDoor.K
open Go.ChangeShapes Go.WideShapes Go.ChangeAt Go.RowKit
set_option linter.unusedVariables false
set_option linter.unusedSimpArgs false
theorem fl105sho : flatS Tryd.prog 105 [.int .i64 0, .int .i64 0, .int .i64 0, .int .i64 0] = true := by kernel_rfl
def lastB (its : List (Int × List Int)) (k : Nat) : Int := if k = 0 then -1 else (its.getD (k - 1) i0).1
theorem lastB_next {its : List (Int × List Int)} {k : Nat} {xb : Int} {xd : List Int} (h : its[k]? = some (xb, xd)) : lastB its (k + 1) = xb := by
 rw [lastB, if_neg (by omega), Nat.add_sub_cancel, List.getD, h]; rfl
structure StreamOk (bl sz fr to : Int) (its : List (Int × List Int)) : Prop where
 b : 1 ≤ bl ∧ bl ≤ 256
 z : 1 ≤ sz ∧ sz ≤ 32
 f : -1 ≤ fr
 t : 0 ≤ to ∧ to ≤ 1099511627776
 ft : fr ≤ to
 l : fr = -1 → (its.length : Int) = bl
 i : ∀ k e, its[k]? = some e → lastB its k < e.1 ∧ e.1 < bl ∧ (e.2.length : Int) = sz
 len : its.length ≤ 256
def wholeI (S : List (List Int)) (k : Nat) : List (Int × List Int) := (List.range k).map (fun j : Nat => ((j : Int), S.getD j []))
theorem VolR.dsz {vo bl sz pe to ne fl : Int} {hi : Bool} {place pins : List Int} {ws : List PWr} (h : VolR vo bl sz pe to ne fl hi place pins ws) : ∀ e ∈ ws, ∀ x ∈ e.2, (0 ≤ x.1 ∧ x.1 < bl) ∧ (x.2.length : Int) = sz := fun e he x hx => by
 obtain ⟨h1, h2, h3, h4, h5, h6, h7, h8, h9⟩ := h
 obtain ⟨j, hj, rfl⟩ := List.getElem_of_mem he
 have h10 := (h9 j hj).2
 rw [List.getD, List.getElem?_eq_getElem hj] at h10
 obtain ⟨i, hi, rfl⟩ := List.getElem_of_mem hx
 have h11 := h10.2.2 i hi
 simp only [Option.getD_some] at h11
 rw [List.getD, List.getElem?_eq_getElem hi] at h11
 simp only [Option.getD_some] at h11
 exact ⟨⟨h11.1, h11.2.1⟩, h11.2.2.1⟩
theorem stSteps_sz {sz : Int} (l : List PI) (hl : ∀ x ∈ l, (x.2.length : Int) = sz) : ∀ (L : List (List Int)), (∀ d ∈ L, (d.length : Int) = sz) → ∀ d ∈ l.foldl stStep L, (d.length : Int) = sz := by
 induction l with
 | nil => intro L h; exact h
 | cons x l ih =>
   intro L h
   rw [List.foldl_cons]
   refine ih (fun y hy => hl y (List.mem_cons_of_mem _ hy)) _ (fun d hd => ?_)
   unfold stStep at hd
   split at hd
   · rcases List.mem_or_eq_of_mem_set hd with h1 | rfl
     · exact h d h1
     exact hl x List.mem_cons_self
   exact h d hd
theorem stWs_sz {sz : Int} (l : List PWr) (hl : ∀ e ∈ l, ∀ x ∈ e.2, (x.2.length : Int) = sz) : ∀ (L : List (List Int)), (∀ d ∈ L, (d.length : Int) = sz) → ∀ d ∈ l.foldl stW L, (d.length : Int) = sz := by
 induction l with
 | nil => intro L h; exact h
 | cons e l ih => intro L h; rw [List.foldl_cons]; exact ih (fun y hy => hl y (List.mem_cons_of_mem _ hy)) _ (stSteps_sz e.2 (hl e List.mem_cons_self) L h)
theorem stL_sz {vo bl sz pe to ne fl : Int} {hi : Bool} {place pins : List Int} {ws : List PWr} (h : VolR vo bl sz pe to ne fl hi place pins ws) (t k : Nat) (hk : k < (stL bl sz ws t).length) : (((stL bl sz ws t).getD k []).length : Int) = sz := by
 have hd := h.dsz
 obtain ⟨n1, n2, n3, n4, n5, n6, n7⟩ := h.1
 rw [List.getD, List.getElem?_eq_getElem hk]
 exact stWs_sz _ (fun e he x hx => (hd e (List.mem_of_mem_take he) x hx).2) _ (fun d hd9 => by rw [(List.mem_replicate.1 hd9).2, List.length_replicate]; omega) _ (List.getElem_mem hk)
set_option maxRecDepth 100000
set_option maxHeartbeats 4000000
theorem rlen_w (vo bl sz pe to ne fl : Int) (hi : Bool) (pp pn pw : Option Addr) (np cp nn cn : Nat) (ws : List PWr) (cw : Nat) (w0 : World) :
   Calls Tryd.prog 16 #[.agg #[.int .i64 vo, .int .i64 bl, .int .i64 sz, .int .i64 pe, .slice pp np cp, .int .i64 to, .int .i64 ne, .bool hi, .int .i64 fl, .slice pn nn cn, .slice pw (ws.map wrD).length cw]] w0 fun e w' => e = .returned (.int .i64 (ws.length : Int)) ∧ Below w0.heap.size w0 w' := by
 have h := rlen_any vo bl sz pe to ne fl hi pp pn pw np cp nn cn (ws.map wrD).length cw w0
 refine h.mono (fun e w' h => ⟨?_, h.2⟩)
 have h1 := h.1
 rwa [List.length_map] at h1
theorem headR_yes (bl sz fr to : Int) (w0 : World) (hb : 1 ≤ bl ∧ bl ≤ 256) (hz : 1 ≤ sz ∧ sz ≤ 32) (hf : -1 ≤ fr) (ht : 0 ≤ to ∧ to ≤ 1099511627776) (hft : fr ≤ to) :
   Calls Tryd.prog 49 #[.agg #[.int .i64 bl, .int .i64 sz, .int .i64 fr, .int .i64 to]] w0 fun e w' => e = .returned (.bool true) ∧ Below w0.heap.size w0 w' := by
 refine ent1 Tryd.func49 rfl Tryd.ntmps49 fun Az Hz => ?_
 have m0 := MemOk.start (fun _ => False) w0
 refine zsr fun K0 hK0 => ?_
 refine plz (e_box Hz m0 20 (cs := [_, _, _, _]) rfl rfl rfl fun g1 Az w2 Hz m2 _ _ => ?_)
 refine gz hK0 Hz (.assign rfl .nil) fun Az Hz => ?_
 refine zsr fun K1 hK1 => ?_
 refine goCh Hz (.fa 0 rfl U105 <| .lb m2 20 U3 rfl rfl rfl <| .geq rfl rfl <| .move rfl .nil) fun Az Hz => ?_
 refine bc Hz 6 ?_ ?_
 rotate_left
 · intro hb _; exact absurd hb (by simp; omega)
 clear Hz; intro _ Hz
 refine goCh Hz (.faZ 0 rfl U105 <| .loadB1Z m2 (i := 20) rfl rfl rfl U3 rfl <| .leqZ rfl rfl <| .pickT rfl rfl <| .move rfl .nil) fun Az Hz => ?_
 refine bc Hz 11 ?_ ?_
 rotate_left
 · intro hb _; exact absurd hb (by simp; omega)
 clear Hz; intro _ Hz
 refine goCh Hz (.faZ 1 rfl U105 <| .loadB1Z m2 (i := 20) rfl rfl rfl U3 rfl <| .geqZ rfl rfl <| .pickT rfl rfl <| .move rfl .nil) fun Az Hz => ?_
 refine bc Hz 16 ?_ ?_
 rotate_left
 · intro hb _; exact absurd hb (by simp; omega)
 clear Hz; intro _ Hz
 refine goCh Hz (.faZ 1 rfl U105 <| .loadB1Z m2 (i := 20) rfl rfl rfl U3 rfl <| .leqZ rfl rfl <| .pickT rfl rfl <| .move rfl .nil) fun Az Hz => ?_
 refine bc Hz 21 ?_ ?_
 rotate_left
 · intro hb _; exact absurd hb (by simp; omega)
 clear Hz; intro _ Hz
 refine goCh Hz (.faZ 2 rfl U105 <| .loadB1Z m2 (i := 20) rfl rfl rfl U2 rfl <| .geqZ rfl rfl <| .pickT rfl rfl <| .move rfl .nil) fun Az Hz => ?_
 refine bc Hz 26 ?_ ?_
 rotate_left
 · intro hb _; exact absurd hb (by simp; omega)
 clear Hz; intro _ Hz
 refine goCh Hz (.faZ 3 rfl U105 <| .loadB1Z m2 (i := 20) rfl rfl rfl U2 rfl <| .geqZ rfl rfl <| .pickT rfl rfl <| .move rfl .nil) fun Az Hz => ?_
 refine bc Hz 31 ?_ ?_
 rotate_left
 · intro hb _; exact absurd hb (by simp; omega)
 clear Hz; intro _ Hz
 refine goCh Hz (.faZ 3 rfl U105 <| .loadB1Z m2 (i := 20) rfl rfl rfl U2 rfl <| .leqZ rfl rfl <| .pickT rfl rfl <| .move rfl .nil) fun Az Hz => ?_
 refine bc Hz 36 ?_ ?_
 rotate_left
 · intro hb _; exact absurd hb (by simp; omega)
 clear Hz; intro _ Hz
 refine gz hK1 Hz (.faZ 2 rfl U105 <| .loadB1Z m2 (i := 20) rfl rfl rfl U2 rfl <| .faZ 3 rfl U105 <| .loadB1Z m2 (i := 20) rfl rfl rfl U2 rfl <| .leqZ rfl rfl <| .pickT rfl rfl <| .assign rfl <| .nil) fun Az Hz => ?_
 refine rt1 Hz ?_
 exact ⟨by first | rfl | (simp; done) | (simp; omega), m2.below⟩
theorem headOf_any (bl sz fr to : Int) (pi : Option Addr) (ni ci : Nat) (w0 : World) :
   Calls Tryd.prog 48 #[.agg #[.int .i64 bl, .int .i64 sz, .int .i64 fr, .int .i64 to, .slice pi ni ci]] w0 fun e w' => e = .returned (.agg #[.int .i64 bl, .int .i64 sz, .int .i64 fr, .int .i64 to]) ∧ Below w0.heap.size w0 w' := by
 refine ent1 Tryd.func48 rfl Tryd.ntmps48 fun Az Hz => ?_
 have m0 := MemOk.start (fun _ => False) w0
 refine zsr fun K0 hK0 => ?_
 refine plz (e_box Hz m0 20 (cs := [_, _, _, _, _]) rfl rfl rfl fun g1 Az w2 Hz m2 _ _ => ?_)
 refine plz (e_alloc Hz m2 21 fct16 rfl fun g3 Az w4 Hz m4 _ _ => ?_)
 refine znl (hK0 _ _ ?_)
 refine zsr fun K1 hK1 => ?_
 refine goCh Hz (.fa 0 rfl U38 <| .lb m4 20 U3 rfl rfl rfl <| .fa 1 rfl U38 <| .lb m4 20 U3 rfl rfl rfl <| .fa 2 rfl U38 <| .lb m4 20 U2 rfl rfl rfl <| .fa 3 rfl U38 <| .lb m4 20 U2 rfl rfl rfl <| .build rfl fct16 fl105sho rfl (by dsimp only [setL, List.set] <;> rfl) .nil) fun Az Hz => ?_
 refine plz (stw Hz m4 21 fct15 fun w23 m23 _ => ?_)
 refine znl (hK1 _ _ ?_)
 refine rtd (retC (fn := Tryd.f48) Hz m23 (i := 21) rfl rfl rfl U105 rfl fct15 ?_)
 exact ⟨rfl, m23.below⟩
theorem sright_yes (bl sz fr to : Int) (its : List (Int × List Int)) (pi : Option Addr) (ni ci : Nat) (w0 : World) (h1 : Rd (fun _ => True) w0 (.slice pi ni ci) (.l 2 (its.map itD))) (hs : StreamOk bl sz fr to its) :
   Calls Tryd.prog 28 #[.agg #[.int .i64 bl, .int .i64 sz, .int .i64 fr, .int .i64 to, .slice pi ni ci]] w0 fun e w' => e = .returned (.bool true) ∧ Below w0.heap.size w0 w' := by
 obtain rfl : ni = its.length := by obtain ⟨pq, cq, hv, _⟩ := h1.l_shape; injection hv with _ e2 _; rw [List.length_map] at e2; exact e2
 refine ent1 Tryd.func28 rfl Tryd.ntmps28 fun Az Hz => ?_
 have m0 := MemOk.start (fun _ => False) w0
 have hil : its.length ≤ 256 := hs.len
 refine zsr fun K0 hK0 => ?_
 refine plz (e_box Hz m0 20 (cs := [_, _, _, _, _]) rfl rfl rfl fun g1 Az w2 Hz m2 _ _ => ?_)
 refine gz hK0 Hz (.assign rfl .nil) fun Az Hz => ?_
 refine wsk fun K1 hK1 => ?_
 refine zsr fun K2 hK2 => ?_
 refine goCh Hz (.loadBR m2 (i := 20) rfl rfl U38 rfl fct2 (by simp) (by dsimp only [List.drop, List.take] <;> rfl) .nil) fun Az Hz => ?_
 refine plz (ecb Hz Tryd.func48 rfl m2 (headOf_any _ _ _ _ _ _ _ _) fun Az w6 Hz m7 => ?_)
 refine plz (ecb Hz Tryd.func49 rfl m7 (headR_yes _ _ _ _ _ hs.b hs.z hs.f hs.t hs.ft) fun Az w9 Hz m10 => ?_)
 refine goCh Hz (.not rfl <| .move rfl <| .faZ 2 rfl U38 <| .loadB1Z m10 (i := 20) rfl rfl rfl U2 rfl <| .eqlZ rfl rfl <| .moveZ rfl .nil) fun Az Hz => ?_
 refine bc Hz 14 ?_ ?_
 ·
  intro hb18 Hz; try simp only [QQ, Qax] at hb18
  have hfl := hs.l (by omega)
  refine gz hK2 Hz (.faZ 4 rfl U38 <| .loadB1Z m10 (i := 20) rfl rfl rfl U36 rfl <| .lenZ rfl U36 <| .faZ 0 rfl U38 <| .loadB1Z m10 (i := 20) rfl rfl rfl U3 rfl <| .neqZ rfl rfl <| .pickTZ rfl rfl <| .pickF rfl rfl <| .nil) fun Az Hz => ?_
  refine bc Hz 22 ?_ ?_
  · intro hb _; exact absurd hb (by simp; omega)
  clear Hz; intro _ Hz
  refine wcf Hz ?_
  refine zss (hK1 _ _ ?_)
  replace Hz := Hz.oz [1, 2]
  refine regS Hz (.assign rfl .nil) fun Az Hz => ?_
  refine wsk fun K3 hK3 => ?_
  refine regS Hz (.fa 4 rfl U38 <| .lb m10 20 U36 rfl rfl rfl <| .len rfl U36 <| .move rfl .nil) fun Az Hz => ?_
  refine wp_block ?_
  refine wp_loop_ghost (fun g a w => ∃ (k B : Nat), k ≤ its.length ∧ g = its.length - k ∧ Has 52 [(1, .pointer (some ⟨B, 0, none⟩)), (3, .int .i64 (lastB its k)), (24, .slice pi its.length ci), (25, .int .i64 its.length), (26, .int .i64 k)] a ∧ MemOk (cn w0) w0 [(9, .box B 38 [.int .i64 bl, .int .i64 sz, .int .i64 fr, .int .i64 to, .slice pi its.length ci])] w) (its.length) ?_ ?_
  · exact ⟨0, _, Nat.zero_le _, rfl, Hz.only [1, 3, 24, 25, 26], m10.ren [(9, 20)] (by decide)⟩
  clear Hz m10
  rintro g Az w34 ⟨k, B, hkl, hg, Hz, m34⟩
  refine regS Hz (.lss rfl rfl .nil) fun Az Hz => ?_
  refine wsk fun K4 hK4 => ?_
  refine bc Hz 27 ?_ ?_
  ·
   intro hb36 Hz; try simp only [QQ, Qax] at hb36
   have hk : k < its.length := by have := hb36; first | omega | (simp at this; omega)
   obtain ⟨⟨xb, xd⟩, hes⟩ : ∃ e, its[k]? = some e := ⟨_, List.getElem?_eq_getElem hk⟩
   obtain ⟨hx1, hx2, hx3⟩ := hs.i k _ hes
   dsimp only at hx1 hx2 hx3
   refine wct Hz ?_
   refine zss (hK4 _ _ ?_)
   refine wsk fun K5 hK5 => ?_
   refine wp_block ?_
   refine zsr fun K6 hK6 => ?_
   obtain ⟨gx38, ox38, vx38, hp38, hl38, hR38, hrg38⟩ := h1.extA (k) (r := [.v (.int .i64 xb), .ns .u8 xd]) (itD_get hes)
   revert Hz
   cases hp38
   rcases hR38 with _ | ⟨hd38_0, _ | ⟨hd38_1, _ | _⟩⟩
   obtain rfl := hd38_0.v_out
   clear hd38_0
   obtain ⟨p39, c39, hv39, hw39⟩ := hd38_1.ns_shape; subst hv39
   intro Hz
   refine goCh Hz (.c rfl (fun _ h => y_idx h rfl rfl U36 fct1 (k) rfl hk) <| .loadAt (hrg38 m34 rfl) rfl U48 rfl fct1 .nil) fun Az Hz => ?_
   refine plz (e_alloc Hz m34 101 fct3 rfl fun g42 Az w43 Hz m43 _ _ => ?_)
   refine plz (stw Hz m43 101 fct1 fun w44 m44 _ => ?_)
   refine znl (hK6 _ _ ?_)
   refine wsk fun K7 hK7 => ?_
   refine zsr fun K8 hK8 => ?_
   refine goCh Hz (.fa 0 rfl U48 <| .lb m44 101 U3 rfl rfl rfl <| .move rfl <| .leq rfl rfl <| .move rfl .nil) fun Az Hz => ?_
   refine bc Hz 34 ?_ ?_
   · intro hb _; exact absurd hb (by simp; omega)
   clear Hz; intro _ Hz
   refine goCh Hz (.faZ 0 rfl U48 <| .loadB1Z m44 (i := 101) rfl rfl rfl U3 rfl <| .faZ 0 rfl U38 <| .loadB1Z m44 (i := 9) rfl rfl rfl U3 rfl <| .geqZ rfl rfl <| .pickF rfl rfl <| .move rfl .nil) fun Az Hz => ?_
   refine bc Hz 41 ?_ ?_
   · intro hb _; exact absurd hb (by simp; omega)
   clear Hz; intro _ Hz
   refine gz hK8 Hz (.faZ 1 rfl U48 <| .loadB1Z m44 (i := 101) rfl rfl rfl U22 rfl <| .lenZ rfl U22 <| .faZ 1 rfl U38 <| .loadB1Z m44 (i := 9) rfl rfl rfl U3 rfl <| .neqZ rfl rfl <| .pickF rfl rfl <| .nil) fun Az Hz => ?_
   refine bc Hz 48 ?_ ?_
   · intro hb _; exact absurd hb (by simp; omega)
   clear Hz; intro _ Hz
   refine wcf Hz ?_
   refine zss (hK7 _ _ ?_)
   replace Hz := Hz.oz [1, 3, 24, 25, 26, 5]
   refine wp_region_lit ?_
   refine gz hK5 Hz (.fa 0 rfl U48 <| .lb m44 101 U3 rfl rfl rfl <| .assign rfl <| .nil) fun Az Hz => ?_
   refine wp_region_lit ?_
   refine goCh Hz (.inc (k + 1) <| .move rfl .nil) fun Az Hz => ?_
   refine wpList_nil ?_
   show ∃ n', n' < _ ∧ _
   have hlb : xb = lastB its (k + 1) := (lastB_next hes).symm
   rw [hlb] at Hz
   exact ⟨its.length - (k + 1), by omega, k + 1, _, by omega, rfl, Hz.only [1, 3, 24, 25, 26], m44.ren [(9, 9)] (by decide)⟩
  intro hb36 Hz; try simp only [QQ, Qax] at hb36
  refine wcf Hz ?_
  refine wp_exit ?_
  refine hK3 _ _ ?_
  refine regS Hz (.assign rfl .nil) fun Az Hz => ?_
  refine rt1 Hz ?_
  exact ⟨by first | rfl | (simp; done) | (simp; omega), m34.below⟩
 intro hb18 Hz; try simp only [QQ, Qax] at hb18
 refine gz hK2 Hz (.sk <| .sk <| .sk <| .sk <| .sk <| .sk <| .pickFZ rfl rfl <| .pickF rfl rfl <| .nil) fun Az Hz => ?_
 refine wcf Hz ?_
 refine zss (hK1 _ _ ?_)
 replace Hz := Hz.oz [1, 2]
 refine regS Hz (.assign rfl .nil) fun Az Hz => ?_
 refine wsk fun K9 hK9 => ?_
 refine regS Hz (.fa 4 rfl U38 <| .lb m10 20 U36 rfl rfl rfl <| .len rfl U36 <| .move rfl .nil) fun Az Hz => ?_
 refine wp_block ?_
 refine wp_loop_ghost (fun g a w => ∃ (k B : Nat), k ≤ its.length ∧ g = its.length - k ∧ Has 52 [(1, .pointer (some ⟨B, 0, none⟩)), (3, .int .i64 (lastB its k)), (24, .slice pi its.length ci), (25, .int .i64 its.length), (26, .int .i64 k)] a ∧ MemOk (cn w0) w0 [(9, .box B 38 [.int .i64 bl, .int .i64 sz, .int .i64 fr, .int .i64 to, .slice pi its.length ci])] w) (its.length) ?_ ?_
 · exact ⟨0, _, Nat.zero_le _, rfl, Hz.only [1, 3, 24, 25, 26], m10.ren [(9, 20)] (by decide)⟩
 clear Hz m10
 rintro g Az w93 ⟨k, B, hkl, hg, Hz, m93⟩
 refine regS Hz (.lss rfl rfl .nil) fun Az Hz => ?_
 refine wsk fun K10 hK10 => ?_
 refine bc Hz 27 ?_ ?_
 ·
  intro hb95 Hz; try simp only [QQ, Qax] at hb95
  have hk : k < its.length := by have := hb95; first | omega | (simp at this; omega)
  obtain ⟨⟨xb, xd⟩, hes⟩ : ∃ e, its[k]? = some e := ⟨_, List.getElem?_eq_getElem hk⟩
  obtain ⟨hx1, hx2, hx3⟩ := hs.i k _ hes
  dsimp only at hx1 hx2 hx3
  refine wct Hz ?_
  refine zss (hK10 _ _ ?_)
  refine wsk fun K11 hK11 => ?_
  refine wp_block ?_
  refine zsr fun K12 hK12 => ?_
  obtain ⟨gx97, ox97, vx97, hp97, hl97, hR97, hrg97⟩ := h1.extA (k) (r := [.v (.int .i64 xb), .ns .u8 xd]) (itD_get hes)
  revert Hz
  cases hp97
  rcases hR97 with _ | ⟨hd97_0, _ | ⟨hd97_1, _ | _⟩⟩
  obtain rfl := hd97_0.v_out
  clear hd97_0
  obtain ⟨p98, c98, hv98, hw98⟩ := hd97_1.ns_shape; subst hv98
  intro Hz
  refine goCh Hz (.c rfl (fun _ h => y_idx h rfl rfl U36 fct1 (k) rfl hk) <| .loadAt (hrg97 m93 rfl) rfl U48 rfl fct1 .nil) fun Az Hz => ?_
  refine plz (e_alloc Hz m93 101 fct3 rfl fun g101 Az w102 Hz m102 _ _ => ?_)
  refine plz (stw Hz m102 101 fct1 fun w103 m103 _ => ?_)
  refine znl (hK12 _ _ ?_)
  refine wsk fun K13 hK13 => ?_
  refine zsr fun K14 hK14 => ?_
  refine goCh Hz (.fa 0 rfl U48 <| .lb m103 101 U3 rfl rfl rfl <| .move rfl <| .leq rfl rfl <| .move rfl .nil) fun Az Hz => ?_
  refine bc Hz 34 ?_ ?_
  · intro hb _; exact absurd hb (by simp; omega)
  clear Hz; intro _ Hz
  refine goCh Hz (.faZ 0 rfl U48 <| .loadB1Z m103 (i := 101) rfl rfl rfl U3 rfl <| .faZ 0 rfl U38 <| .loadB1Z m103 (i := 9) rfl rfl rfl U3 rfl <| .geqZ rfl rfl <| .pickF rfl rfl <| .move rfl .nil) fun Az Hz => ?_
  refine bc Hz 41 ?_ ?_
  · intro hb _; exact absurd hb (by simp; omega)
  clear Hz; intro _ Hz
  refine gz hK14 Hz (.faZ 1 rfl U48 <| .loadB1Z m103 (i := 101) rfl rfl rfl U22 rfl <| .lenZ rfl U22 <| .faZ 1 rfl U38 <| .loadB1Z m103 (i := 9) rfl rfl rfl U3 rfl <| .neqZ rfl rfl <| .pickF rfl rfl <| .nil) fun Az Hz => ?_
  refine bc Hz 48 ?_ ?_
  · intro hb _; exact absurd hb (by simp; omega)
  clear Hz; intro _ Hz
  refine wcf Hz ?_
  refine zss (hK13 _ _ ?_)
  replace Hz := Hz.oz [1, 3, 24, 25, 26, 5]
  refine wp_region_lit ?_
  refine gz hK11 Hz (.fa 0 rfl U48 <| .lb m103 101 U3 rfl rfl rfl <| .assign rfl <| .nil) fun Az Hz => ?_
  refine wp_region_lit ?_
  refine goCh Hz (.inc (k + 1) <| .move rfl .nil) fun Az Hz => ?_
  refine wpList_nil ?_
  show ∃ n', n' < _ ∧ _
  have hlb : xb = lastB its (k + 1) := (lastB_next hes).symm
  rw [hlb] at Hz
  exact ⟨its.length - (k + 1), by omega, k + 1, _, by omega, rfl, Hz.only [1, 3, 24, 25, 26], m103.ren [(9, 9)] (by decide)⟩
 intro hb95 Hz; try simp only [QQ, Qax] at hb95
 refine wcf Hz ?_
 refine wp_exit ?_
 refine hK9 _ _ ?_
 refine regS Hz (.assign rfl .nil) fun Az Hz => ?_
 refine rt1 Hz ?_
 exact ⟨by first | rfl | (simp; done) | (simp; omega), m93.below⟩
end Go.Proofs.YtcccomafnmdlfaaDoor.K
end
section
namespace Go.Proofs.YtcccomafnmdlfaaDoor.K
open Go.ChangeShapes Go.WideShapes Go.ChangeAt Go.RowKit
set_option linter.unusedVariables false
set_option linter.unusedSimpArgs false
section
variable {P : Program} {ops : Array Oper} {Q : Exit → Act → World → Prop} {md : Region.Mode} {listed : Array Bool} {fuel e : Nat} {S : World → Prop} {a : Act} {w : World}
theorem dsuf {I : Act → World → Prop} (k m' : Nat) (h : ∀ a w, I a w → wpAnyE P md ops Q e S k (lst ops.size m') a w) (g : (∀ a w, I a w → wpAnyE P md ops Q e S k (lst ops.size m') a w) → wpAnyE P md ops Q e S fuel listed a w) : wpAnyE P md ops Q e S fuel listed a w := g h
theorem ldl (m : Nat) (h : wpAnyE P md ops Q e S fuel (lst ops.size m) a w) (hl : listed = lst ops.size m := by kernel_rfl) : wpAnyE P md ops Q e S fuel listed a w := hl ▸ h
end
end Go.Proofs.YtcccomafnmdlfaaDoor.K
end
section
namespace Go.Proofs.YtcccomafnmdlfaaDoor.K
open Go.ChangeShapes Go.WideShapes Go.ChangeAt Go.RowKit
set_option linter.unusedVariables false
def OpenOwn (bs : List Int) (w : World) (e : Ending) (w' : World) : Prop :=
 ∃ u, e = .returned (.tuple #[u, .bool (openB bs)]) ∧ w'.ownsRow w.heap.size 5 1 u (openC bs).length ((openC bs).map (Value.int .u8)) ∧ Below w.heap.size w w'
set_option maxRecDepth 100000 in
set_option maxHeartbeats 2000000 in
theorem open_own (p : Option Addr) (n cc : Nat) (bs : List Int) (w : World) (hT : TabOk w) (h1 : 1 ≤ w.heap.size) (hv : IsNums .u8 w (.slice p (n + 4) cc) bs) (hl : bs.length = n + 4) (hcc : n + 4 ≤ cc) (hb : Bytes bs) (hn : n ≤ 10000) : Calls Tryd.prog 40 #[.slice p (n + 4 : Nat) cc] w (OpenOwn bs w) := by
 obtain ⟨b, off, rfl⟩ : ∃ b off, p = some ⟨b, off, none⟩ := by
   obtain ⟨a, c', hv1, h⟩ := hv
   simp only [Value.slice.injEq] at hv1
   obtain ⟨rfl, hl1, rfl⟩ := hv1
   rcases h with h | ⟨b', off', hh, -, -⟩
   · omega
   exact ⟨b', off', hh⟩
 have HV := Lib.hid hv
 have HT := Lib.hid (show TabOk w.drew from hT)
 have HP := Lib.hid (show IsNums .u8 w.drew (.slice (some ⟨b, off, none⟩) n cc) (bs.take n) from by have := (hv.part 0 n (by omega) (by omega) cc n (by omega)).drew; simpa using this)
 have HQ := Lib.hid (show IsNums .u8 w.drew (.slice (some ⟨b, off + n, none⟩) 4 (cc - n)) (bs.drop n) from by have := (hv.part n (n + 4) (by omega) (by omega) (cc - n) 4 (by omega)).drew; rw [← hl, List.take_length] at this; exact this)
 have HF1 := Lib.hid (show ∀ j, j < [bs.take n].length → Bytes ([bs.take n].getD j []) ∧ ([bs.take n].getD j []).length ≤ 1000000 from by
   intro j hj
   obtain rfl : j = 0 := by simpa using hj
   refine ⟨fun i hi => ?_, ?_⟩
   · have hi' : i < (bs.take n).length := hi
     simp only [List.length_take] at hi'
     have := hb i (by omega)
     have e : (bs.take n).getD i 0 = bs.getD i 0 := by simp only [List.getD, List.getElem?_take]; rw [if_pos (by omega)]
     show 0 ≤ (bs.take n).getD i 0 ∧ (bs.take n).getD i 0 ≤ 255
     rw [e]; exact this
   show (bs.take n).length ≤ _
   simp; omega)
 have HBB := Lib.hid hb
 have HL := Lib.hid hl
 clear hv hT hb hl
 have e0 : ((n + 4 : Nat) : Int) - 4 = (n : Int) := by omega
 go_enter Tryd.func40, Tryd.ntmps40
 go_wp2_with fail
 refine region_begin (by kernel_rfl) ?_
 refine step_read 0 (some 8) (v := ?v0) rfl (by rfl) (by kernel_rfl) (by kernel_rfl) (by kernel_rfl) (fun _ _ _ h => h) (by rfl) ?y0 ?n0
 case y0 => intro W hW; go_simp; try with_reducible rfl
 try simp only [Act.put, List.setIfInBounds_toArray, List.set_cons_zero, List.set_cons_succ]
 refine step_read 1 (some 9) (v := ?v1) rfl (by rfl) (by kernel_rfl) (by kernel_rfl) (by kernel_rfl) (fun _ _ _ h => h) (by rfl) ?y1 ?n1
 case y1 => intro W hW; go_simp; try with_reducible rfl
 try simp only [Act.put, List.setIfInBounds_toArray, List.set_cons_zero, List.set_cons_succ]
 refine step_read 2 (some 10) (v := ?v2) rfl (by rfl) (by kernel_rfl) (by kernel_rfl) (by kernel_rfl) (fun _ _ _ h => h) (by rfl) ?y2 ?n2
 case y2 => intro W hW; go_simp; try with_reducible rfl
 try simp only [Act.put, List.setIfInBounds_toArray, List.set_cons_zero, List.set_cons_succ]
 refine step_read 3 (some 11) (v := ?v3) rfl (by rfl) (by kernel_rfl) (by kernel_rfl) (by kernel_rfl) (fun _ _ _ h => h) (by rfl) ?y3 ?n3
 case y3 => intro W hW; go_simp; try with_reducible rfl
 try simp only [Act.put, List.setIfInBounds_toArray, List.set_cons_zero, List.set_cons_succ]
 refine step_read 4 (some 12) (v := ?v4) rfl (by rfl) (by kernel_rfl) (by kernel_rfl) (by kernel_rfl) (fun _ _ _ h => h) (by rfl) ?y4 ?n4
 case y4 => intro W hW; go_simp; try with_reducible rfl
 try simp only [Act.put, List.setIfInBounds_toArray, List.set_cons_zero, List.set_cons_succ]
 refine step_read 5 (some 13) (v := ?v5) rfl (by rfl) (by kernel_rfl) (by kernel_rfl) (by kernel_rfl) (fun _ _ _ h => h) (by rfl) ?y5 ?n5
 case y5 => intro W hW; go_simp; rw [if_pos (by omega), if_neg (by omega)]; try with_reducible rfl
 try simp only [Act.put, List.setIfInBounds_toArray, List.set_cons_zero, List.set_cons_succ]
 refine step_read 6 (some 14) (v := ?v6) rfl (by rfl) (by kernel_rfl) (by kernel_rfl) (by kernel_rfl) (fun _ _ _ h => h) (by rfl) ?y6 ?n6
 case y6 => intro W hW; have ec := conv_at HQ.out hW; go_simp; try with_reducible rfl
 try simp only [Act.put, List.setIfInBounds_toArray, List.set_cons_zero, List.set_cons_succ]
 refine step_read 7 (some 15) (v := ?v7) rfl (by rfl) (by kernel_rfl) (by kernel_rfl) (by kernel_rfl) (fun _ _ _ h => h) (by rfl) ?y7 ?n7
 case y7 => intro W hW; go_simp; try with_reducible rfl
 try simp only [Act.put, List.setIfInBounds_toArray, List.set_cons_zero, List.set_cons_succ]
 refine step_read 8 (some 16) (v := ?v8) rfl (by rfl) (by kernel_rfl) (by kernel_rfl) (by kernel_rfl) (fun _ _ _ h => h) (by rfl) ?y8 ?n8
 case y8 => intro W hW; go_simp; try with_reducible rfl
 try simp only [Act.put, List.setIfInBounds_toArray, List.set_cons_zero, List.set_cons_succ]
 refine step_read 9 (some 17) (v := ?v9) rfl (by rfl) (by kernel_rfl) (by kernel_rfl) (by kernel_rfl) (fun _ _ _ h => h) (by rfl) ?y9 ?n9
 case y9 => intro W hW; go_simp; rw [if_pos (by omega)]; try with_reducible rfl
 try simp only [Act.put, List.setIfInBounds_toArray, List.set_cons_zero, List.set_cons_succ]
 -- 10: buildSlice -> 18
 refine step_only 10 rfl (by kernel_rfl) (by rfl) (fun K' hK => ?_)
 go_simp
 refine hK _ _ ((Below.refl _ _).alloc (Nat.le_refl _) _) ?_
 have HT1 := Lib.hid (HT.out.alloc (by show 1 ≤ w.heap.size; exact h1) (Obj.cells #[Value.slice (some ⟨b, off, none⟩) n cc] 22))
 have HL1 := Lib.hid (CLists.one (HP.out) w.drew.heap.size rfl 22)
 clear hK K'
 try simp only [Act.put, List.setIfInBounds_toArray, List.set_cons_zero, List.set_cons_succ]
 -- 11: call:10 -> 19
 refine step_only 11 rfl (by kernel_rfl) (by rfl) (fun K' hK => ?_)
 go_simp
 go_at_call 64
 refine (sum_any _ [bs.take n] _ HT1.out HL1.out HF1.out (by simp)).mono ?_
 rintro e x ⟨rfl, rfl⟩
 refine hK _ _ (Below.refl _ _) ?_
 clear hK K'
 try simp only [Act.put, List.setIfInBounds_toArray, List.set_cons_zero, List.set_cons_succ]
 -- 12: call:15 -> 20
 refine step_only 12 rfl (by kernel_rfl) (by rfl) (fun K' hK => ?_)
 go_simp
 go_at_call 63
 refine (four_any (sumC [bs.take n]) _ (sumC_range _)).mono ?_
 rintro e x ⟨u20, rfl, hown20, bx⟩
 have K20 := Lib.hid (IsNums.ofOwn hown20)
 refine hK _ _ bx ?_
 clear hK K'
 try simp only [Act.put, List.setIfInBounds_toArray, List.set_cons_zero, List.set_cons_succ]
 refine step_read 13 (some 21) (v := ?v13) rfl (by rfl) (by kernel_rfl) (by kernel_rfl) (by kernel_rfl) (fun _ _ _ h => h) (by rfl) ?y13 ?n13
 case y13 => intro W hW; have ec := conv_at K20.out hW; go_simp; try with_reducible rfl
 try simp only [Act.put, List.setIfInBounds_toArray, List.set_cons_zero, List.set_cons_succ]
 refine step_read 14 (some 22) (v := ?v14) rfl (by rfl) (by kernel_rfl) (by kernel_rfl) (by kernel_rfl) (fun _ _ _ h => h) (by rfl) ?y14 ?n14
 case y14 => intro W hW; go_simp; try with_reducible rfl
 try simp only [Act.put, List.setIfInBounds_toArray, List.set_cons_zero, List.set_cons_succ]
 refine step_read 15 (some 23) (v := ?v15) rfl (by rfl) (by kernel_rfl) (by kernel_rfl) (by kernel_rfl) (fun _ _ _ h => h) (by rfl) ?y15 ?n15
 case y15 => intro W hW; go_simp; try with_reducible rfl
 try simp only [Act.put, List.setIfInBounds_toArray, List.set_cons_zero, List.set_cons_succ]
 refine wpAnyH_done (by kernel_rfl) ?_ _
 have heq : ((strOfNums (List.drop n bs)).toList == (strOfNums (fourC (sumC [List.take n bs]))).toList) = openB bs := by
   rw [str_beq (fun x hx => HBB.out.mem x (List.mem_of_mem_drop hx)) (fourC_bytes _).mem]
   unfold openB
   rw [show bs.length - 4 = n by rw [HL.out]; omega]
   simp only [decide_eq_decide]
   exact ⟨fun h => ⟨by rw [HL.out]; omega, h⟩, fun h => h.2⟩
 rw [heq]
 have hbd : Below w.drew.heap.size w.drew x := ((Below.refl _ w.drew).alloc (Nat.le_refl _) _).trans (show Below _ (w.drew.alloc _) x from bx.mono (by show w.heap.size ≤ _; simp))
 have hbx : Below w.heap.size w x := (Below.refl _ w).drew.trans hbd
 have hn0 : decide ((n : Int) < 0) = false := by simp
 rw [hn0]
 have HPx := Lib.hid (HP.out.below hbd (Nat.le_refl _))
 have HO := Lib.hid (rfl : openB bs = openB bs)
 have HBX := Lib.hid hbx
 clear heq hn0 hown20 bx hbx hbd K20 HT1 HL1 HF1 HQ HP
 obtain ⟨o, ho⟩ : ∃ o, openB bs = o := ⟨_, rfl⟩
 rw [ho]
 replace HO := Lib.hid ho
 clear ho
 cases o
 · go_wp2
   go_ret2
   refine ⟨.slice none 0 0, ?_, ?_, HBX.out⟩
   · rw [HO.out]; rfl
   unfold openC; rw [if_neg (by rw [HO.out]; decide)]; exact World.ownsRow_nil _ _ _ _
 go_wp2_with (at_builtin; refine wpList_appN rfl _ _ 22 rfl x.heap.size 5 .u8 1 Tryd.underlying22 info_u8 (by omega) _ 0 [] rfl (World.ownsRow_nil _ _ _ _) _ _ rfl HPx.out (by simp; omega) (Nat.le_refl _) ?_; intro v6 w6 hown6 hb6)
 go_ret2
 refine ⟨v6, ?_, ?_, HBX.out.trans (hb6.mono HBX.out.size)⟩
 · rw [HO.out]; rfl
 have hown7 := ownsRow_base hown6 HBX.out.size
 unfold openC; rw [if_pos HO.out, HL.out]
 have hl9 : (bs.take (n + 4 - 4)).length = 0 + (List.take n bs).length := by rw [Nat.add_sub_cancel]; omega
 rw [hl9]
 simpa using hown7
end Go.Proofs.YtcccomafnmdlfaaDoor.K
end
section
namespace Go.Proofs.YtcccomafnmdlfaaDoor.K
open Go.ChangeShapes Go.WideShapes Go.ChangeAt Go.RowKit
set_option linter.unusedVariables false
set_option linter.unusedSimpArgs false
theorem lists_openB {H : Type} {enc : TypeId × Value → H} {W : World} {base : Nat} {held : Bool} {fuel : Nat} {a : Option Addr} {len cap : Nat} {x : DataW H × List MemPlace}
   (h : DataW.trod enc Tryd.prog W base (fun _ => true) held fuel 23 [.slice a len cap] = some x) (ce : Tryd.prog.cellsOf 22 = 1) (cq : Tryd.prog.cellsOf 5 = 1) :
   ∃ ls : List (List Int), Rd (fun _ => True) W (.slice a ls.length cap) (.l 1 (ls.map bD)) ∧ ls.length = len ∧ ∀ l ∈ ls, BytesL l := by
 rcases Deep.open_int_rows U23 U22 U5 ce cq h with ⟨hcs, -⟩ | ⟨b, l, c, A, L, C, Z, hcs, -, hl, hm, -, hr⟩
 · simp only [List.cons.injEq, Value.slice.injEq, and_true] at hcs
   obtain ⟨rfl, rfl, rfl⟩ := hcs
   exact ⟨[], .l0 none 0 1, rfl, fun l hl => by cases hl⟩
 simp only [List.cons.injEq, Value.slice.injEq, and_true] at hcs
 obtain ⟨rfl, rfl, rfl⟩ := hcs
 have hex : ∀ r, ∃ ys : List Int, r < len → Rd (fun _ => True) W (.slice (A r) (L r) (C r)) (.ns .u8 ys) ∧ BytesL ys := fun r => by
   by_cases hrl : r < len
   · obtain ⟨c1, c2, c3, c4, c5, c6, c7⟩ := hr r (by omega)
     obtain ⟨ys, h1, h2, h3⟩ := NumsS.ofRow (k := .u8) (w := W) (a := A r) (len := L r) (cap := C r) (zs := Z r) (by
       cases hA : A r with
       | none =>
         have := c6 hA
         exact .inl ⟨rfl, by omega, this, List.eq_nil_of_length_eq_zero (by omega)⟩
       | some a' => exact .inr ⟨a', rfl, c2, c3, c4, fun i hi => (c7 a' hA).2 i (by omega), c5⟩)
     exact ⟨ys, fun _ => ⟨h2 ▸ h1, fun z hz => bounds_u8 (h3 z hz)⟩⟩
   exact ⟨[], fun h => absurd h hrl⟩
 obtain ⟨Y, hY⟩ : ∃ Y : Nat → List Int, ∀ r, r < len → Rd (fun _ => True) W (.slice (A r) (L r) (C r)) (.ns .u8 (Y r)) ∧ BytesL (Y r) := ⟨fun r => Classical.choose (hex r), fun r => Classical.choose_spec (hex r)⟩
 refine ⟨(List.range len).map Y, ?_, by simp, fun l hl => by obtain ⟨r, hr9, rfl⟩ := List.mem_map.1 hl; exact (hY r (List.mem_range.1 hr9)).2⟩
 by_cases h0 : len = 0
 · subst h0; exact .l0 _ _ _
 obtain ⟨bb, bo, spot⟩ := b
 have hc0 := (hr 0 (by omega)).1
 have hspot : spot = none := by simpa [Addr.add] using World.cell?_spot hc0
 subst hspot
 have hlen : (((List.range len).map Y).map bD).length = ((List.range len).map Y).length := by simp
 have := Rd.l (S := fun _ => True) (w := W) 1 bb bo cap (((List.range len).map Y).map bD) (fun j _ => .slice (A j) (L j) (C j)) trivial (World.block_lt_of_cell? W _ hc0) (by simp; omega) (by simp [bD]) (fun j q hj hq => by
   have hjl : j < len := by simpa using hj
   have c1 := (hr j (by omega)).1
   rw [Addr.add_lit] at c1
   obtain rfl : q = 0 := by omega
   rw [Nat.mul_one, Nat.add_zero]
   exact ⟨c1, rfl⟩) (fun j q r d hj hq => by
   have hjl : j < len := by have := (List.getElem?_eq_some_iff.1 hj).1; simpa using this
   simp [bD, hjl] at hj
   subst hj
   have hq0 : q = 0 := by have := (List.getElem?_eq_some_iff.1 hq).1; simpa using this
   subst hq0
   simp at hq
   subst hq
   exact (hY j hjl).1)
 rw [hlen] at this
 exact this
end Go.Proofs.YtcccomafnmdlfaaDoor.K
end
