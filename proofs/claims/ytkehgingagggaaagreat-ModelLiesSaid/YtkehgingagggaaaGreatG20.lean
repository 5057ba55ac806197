/- General laws of walks. -/
import Derived.Test.YtkehgingagggaaaGreatG19
import Derived.Test.YtkehgingagggaaaGreatG9
namespace Go.Proofs.YtkehgingagggaaaGreat.K
open Go.ChangeShapes Go.WideShapes Go.ChangeAt Go.RowKit
set_option linter.unusedVariables false
set_option linter.unusedSimpArgs false
section
theorem fl38mrc : flatS Tryz.prog 38 [.int .i64 0, .int .i64 0, .int .i64 0, .int .i64 0, .int .i64 0, .slice none 0 0, .int .i64 0, .int .i64 0, .int .i64 0, .slice none 0 0] = true := by kernel_rfl
theorem fl87mne : flatS Tryz.prog 87 [.map none] = true := by kernel_rfl
theorem fl44my1 : flatS Tryz.prog 44 [.int .i64 0, .int .i64 0, .int .i64 0, .int .i64 0, .slice none 0 0] = true := by kernel_rfl
def keyV (x : VolV) : Value := .int .i64 x.vo
theorem keyI {L : List VolV} : ∀ k ∈ L.map keyV, ∃ z, k = .int .i64 z := fun k hk => by
 obtain ⟨x, _, rfl⟩ := List.mem_map.1 hk; exact ⟨_, rfl⟩
theorem keyV_get {L : List VolV} {j : Nat} {x : VolV} (h : L[j]? = some x) : (L.map keyV)[j]? = some (keyV x) := by rw [List.getElem?_map, h]; rfl
theorem keyV_eq {x : VolV} {id : Int} (h : x.vo = id) : keyV x = .int .i64 id := by rw [keyV, h]
theorem keyV_at {L : List VolV} {j : Nat} {x : VolV} {id : Int} (h : L[j]? = some x) (hv : x.vo = id) : (L.map keyV)[j]? = some (.int .i64 id) := (keyV_get h).trans (congrArg some (keyV_eq hv))
theorem keyV_ne {L : List VolV} {id : Int} (h : ∀ x ∈ L, x.vo ≠ id) : ∀ k ∈ L.map keyV, k ≠ .int .i64 id := fun k hk e => by
 obtain ⟨x, hx, rfl⟩ := List.mem_map.1 hk
 injection e with _ e; exact h x hx e
theorem mpuK_new {L : List VolV} {vo bl sz pe to : Int} {place : List Int} : mpuK (L.map keyV) (.int .i64 vo) none = (L ++ [newV vo bl sz pe to place]).map keyV := by rw [List.map_append]; rfl
theorem mpuR_new {L : List VolV} {vo bl sz pe to : Int} {place : List Int} : mpuR (L.map volD) [.v (.int .i64 vo), .v (.int .i64 bl), .v (.int .i64 sz), .v (.int .i64 pe), .ns .i64 place, .v (.int .i64 to), .v (.int .i64 0), .v (.bool (decide (0 < to))), .v (.int .i64 0), .ns .i64 [], .l 2 []] none = (L ++ [newV vo bl sz pe to place]).map volD := by rw [List.map_append]; rfl
theorem key_set {L : List VolV} {j : Nat} {x y : VolV} (h : L[j]? = some x) (hv : y.vo = x.vo) : (L.set j y).map keyV = L.map keyV := by
 rw [List.map_set, show keyV y = keyV x from congrArg (Value.int .i64) hv]
 exact setSelf9 (keyV_get h)
theorem mpuK_old {L : List VolV} {k : Value} {j : Nat} {x y : VolV} (h : L[j]? = some x) (hv : y.vo = x.vo) : mpuK (L.map keyV) k (some j) = (L.set j y).map keyV := (key_set h hv).symm
theorem doV_vo {x y : VolV} {c : Cm} {e : Int} (h : doV x c = (y, e)) : y.vo = x.vo := by
 unfold doV at h
 split at h
 · injection h with h _; rw [← h]
 split at h
 · injection h with h _; rw [← h]
 injection h with h _; rw [← h]
theorem CmdR.itok {x : Cm} (h : CmdR x) : ItsOk x.its := fun e he => by have := (h.ib e he).2; omega
theorem callD3 {w w' w0 : World} {X : Cx} {M : Mm} (m : MemOk X w0 M w) (i j k : Nat) {u v t : Value} {d e f : D} (hi : lk M i = none) (hj : lk ((i, .dat u d) :: M) j = none) (hk : lk ((j, .dat v e) :: (i, .dat u d) :: M) k = none) (hb : Below w.heap.size w w') (h1 : Rd (Out (Free X M) w) w' u d) (h2 : Rd (Out (Free X M) w) w' v e) (h3 : Rd (Out (Free X M) w) w' t f) : MemOk X w0 ((k, .dat t f) :: (j, .dat v e) :: (i, .dat u d) :: M) w' := by
 have m1 := m.callD i hi hb h1
 have m2 := m1.dat j hj (h2.cast (fun b hb => free_add rfl (m.free_out hb)))
 exact m2.dat k hk (h3.cast (fun b hb => free_add rfl (free_add rfl (m.free_out hb))))
theorem mbeq_y (xs : List Int) (p1 p2 : Option Addr) (c1 c2 : Nat) (w0 : World) (h1 : Rd (fun _ => True) w0 (.slice p1 xs.length c1) (.ns .u8 xs)) (h2 : Rd (fun _ => True) w0 (.slice p2 xs.length c2) (.ns .u8 xs)) (hb1 : BytesL xs) :
   Calls Tryz.prog 64 #[.slice p1 xs.length c1, .slice p2 xs.length c2] w0 fun e w' => e = .returned (.bool true) ∧ Below w0.heap.size w0 w' :=
 (mbeq xs xs p1 p2 c1 c2 w0 h1 h2 hb1 hb1).mono fun e w' h => ⟨by rw [h.1]; exact congrArg (fun b => Ending.returned (.bool b)) (decide_eq_true rfl), h.2⟩
theorem mbeq_z {xs ys : List Int} (h : xs = ys) (p1 p2 : Option Addr) (c1 c2 : Nat) (w0 : World) (h1 : Rd (fun _ => True) w0 (.slice p1 xs.length c1) (.ns .u8 xs)) (h2 : Rd (fun _ => True) w0 (.slice p2 ys.length c2) (.ns .u8 ys)) (hb1 : BytesL xs) :
   Calls Tryz.prog 64 #[.slice p1 xs.length c1, .slice p2 ys.length c2] w0 fun e w' => e = .returned (.bool true) ∧ Below w0.heap.size w0 w' := by
 subst h; exact mbeq_y xs p1 p2 c1 c2 w0 h1 h2 hb1
def remE (x : Cm) : Nat → List Int
 | 0 => enc x.kd ++ (enc x.vo ++ (enc x.bl ++ (enc x.sz ++ (enc x.pe ++ (enc x.to ++ (enc x.at0 ++ (enc x.ix ++ (enc (x.pl.length : Int) ++ (encs x.pl ++ (enc (x.its.length : Int) ++ itemsE x.its))))))))))
 | 1 => enc x.vo ++ (enc x.bl ++ (enc x.sz ++ (enc x.pe ++ (enc x.to ++ (enc x.at0 ++ (enc x.ix ++ (enc (x.pl.length : Int) ++ (encs x.pl ++ (enc (x.its.length : Int) ++ itemsE x.its)))))))))
 | 2 => enc x.bl ++ (enc x.sz ++ (enc x.pe ++ (enc x.to ++ (enc x.at0 ++ (enc x.ix ++ (enc (x.pl.length : Int) ++ (encs x.pl ++ (enc (x.its.length : Int) ++ itemsE x.its))))))))
 | 3 => enc x.sz ++ (enc x.pe ++ (enc x.to ++ (enc x.at0 ++ (enc x.ix ++ (enc (x.pl.length : Int) ++ (encs x.pl ++ (enc (x.its.length : Int) ++ itemsE x.its)))))))
 | 4 => enc x.pe ++ (enc x.to ++ (enc x.at0 ++ (enc x.ix ++ (enc (x.pl.length : Int) ++ (encs x.pl ++ (enc (x.its.length : Int) ++ itemsE x.its))))))
 | 5 => enc x.to ++ (enc x.at0 ++ (enc x.ix ++ (enc (x.pl.length : Int) ++ (encs x.pl ++ (enc (x.its.length : Int) ++ itemsE x.its)))))
 | 6 => enc x.at0 ++ (enc x.ix ++ (enc (x.pl.length : Int) ++ (encs x.pl ++ (enc (x.its.length : Int) ++ itemsE x.its))))
 | 7 => enc x.ix ++ (enc (x.pl.length : Int) ++ (encs x.pl ++ (enc (x.its.length : Int) ++ itemsE x.its)))
 | 8 => enc (x.pl.length : Int) ++ (encs x.pl ++ (enc (x.its.length : Int) ++ itemsE x.its))
 | _ => enc (x.its.length : Int) ++ itemsE x.its
theorem cmE_rem (x : Cm) : cmE x = remE x 0 := by simp [cmE, cmdE, encs, remE]
theorem cmE_by {x : Cm} (hR : CmdR x) (hb : ∀ e ∈ x.its, BytesL e.2) : BytesL (cmE x) := (hR.ok hb).bytes
theorem cmE_len {x : Cm} (hR : CmdR x) : (cmE x).length ≤ 1000000 := by have := cmE_sum hR; rw [sumLen, cmE_flat] at this; exact this
theorem rem_suf (x : Cm) : ∀ i, ∃ t, cmE x = t ++ remE x i
 | 0 => ⟨[], cmE_rem x⟩
 | 1 => ⟨enc x.kd, by rw [cmE_rem]; rfl⟩
 | 2 => ⟨enc x.kd ++ enc x.vo, by rw [cmE_rem]; simp [remE]⟩
 | 3 => ⟨enc x.kd ++ enc x.vo ++ enc x.bl, by rw [cmE_rem]; simp [remE]⟩
 | 4 => ⟨enc x.kd ++ enc x.vo ++ enc x.bl ++ enc x.sz, by rw [cmE_rem]; simp [remE]⟩
 | 5 => ⟨enc x.kd ++ enc x.vo ++ enc x.bl ++ enc x.sz ++ enc x.pe, by rw [cmE_rem]; simp [remE]⟩
 | 6 => ⟨enc x.kd ++ enc x.vo ++ enc x.bl ++ enc x.sz ++ enc x.pe ++ enc x.to, by rw [cmE_rem]; simp [remE]⟩
 | 7 => ⟨enc x.kd ++ enc x.vo ++ enc x.bl ++ enc x.sz ++ enc x.pe ++ enc x.to ++ enc x.at0, by rw [cmE_rem]; simp [remE]⟩
 | 8 => ⟨enc x.kd ++ enc x.vo ++ enc x.bl ++ enc x.sz ++ enc x.pe ++ enc x.to ++ enc x.at0 ++ enc x.ix, by rw [cmE_rem]; simp [remE]⟩
 | i + 9 => ⟨enc x.kd ++ enc x.vo ++ enc x.bl ++ enc x.sz ++ enc x.pe ++ enc x.to ++ enc x.at0 ++ enc x.ix ++ enc (x.pl.length : Int) ++ encs x.pl, by rw [cmE_rem]; simp [remE]⟩
theorem rem_len {x : Cm} (hR : CmdR x) (i : Nat) : (remE x i).length ≤ 1000000 := by
 obtain ⟨t, ht⟩ := rem_suf x i
 exact len_r ht (cmE_len hR)
theorem rem_by {x : Cm} (hR : CmdR x) (hb : ∀ e ∈ x.its, BytesL e.2) (i : Nat) : BytesL (remE x i) := by
 obtain ⟨t, ht⟩ := rem_suf x i
 have := cmE_by hR hb
 rw [ht] at this
 exact bytes_r this
theorem rem_bd {x : Cm} (h : CmdR x) : (0 ≤ x.kd ∧ x.kd ≤ 1099511627776) ∧ (0 ≤ x.vo ∧ x.vo ≤ 1099511627776) ∧ (0 ≤ x.bl ∧ x.bl ≤ 1099511627776) ∧ (0 ≤ x.sz ∧ x.sz ≤ 1099511627776) ∧ (0 ≤ x.pe ∧ x.pe ≤ 1099511627776) ∧ (0 ≤ x.to ∧ x.to ≤ 1099511627776) ∧ (0 ≤ x.at0 ∧ x.at0 ≤ 1099511627776) ∧ 0 ≤ x.ix ∧ x.ix ≤ 1099511627776 := by
 have := h.kd; have := h.vo; have := h.t40; omega
theorem pb40 {x : Cm} (h : CmdR x) : ∀ k, k < x.pl.length → 0 ≤ x.pl.getD k 0 ∧ x.pl.getD k 0 ≤ 1099511627776 := fun k hk => by
 have := h.pb (x.pl.getD k 0) (by rw [List.getD, List.getElem?_eq_getElem hk]; exact List.getElem_mem hk); omega
theorem mpuR_old {L : List VolV} {j : Nat} {x y : VolV} (h : L[j]? = some x) (hv : y.vo = x.vo) : mpuR (L.map volD) [.v (.int .i64 y.vo), .v (.int .i64 y.bl), .v (.int .i64 y.sz), .v (.int .i64 y.pe), .ns .i64 y.place, .v (.int .i64 y.to), .v (.int .i64 y.ne), .v (.bool y.hi), .v (.int .i64 y.fl), .ns .i64 y.pins, .l 2 (y.ws.map wrD)] (some j) = (L.set j y).map volD := by rw [List.map_set]; rfl
theorem zv51 : (Tryz.prog.info? 51).bind (·.zero) = some (.agg #[.int .i64 0, .int .i64 0, .int .i64 0, .int .i64 0, .slice none 0 0, .int .i64 0, .int .i64 0, .bool false, .int .i64 0, .slice none 0 0, .slice none 0 0]) := by kernel_rfl
set_option maxRecDepth 100000
set_option maxHeartbeats 4000000
theorem readCmd_o (X : Cx) (x : Cm) (hR : CmdR x) (hby : ∀ e ∈ x.its, BytesL e.2) (p : Option Addr) (c : Nat) (w0 : World) (m0 : MemOk X w0 [(1, .dat (.slice p (cmE x).length c) (.ns .u8 (cmE x)))] w0) :
   Calls Tryz.prog 28 #[.slice p (cmE x).length c] w0 fun e w' => ∃ (pp pi : Option Addr) (cp ci : Nat), e = .returned (.tuple #[.agg #[.int .i64 x.kd, .int .i64 x.vo, .int .i64 x.bl, .int .i64 x.sz, .int .i64 x.pe, .slice pp x.pl.length cp, .int .i64 x.to, .int .i64 x.at0, .int .i64 x.ix, .slice pi (x.its.map itD).length ci], .int .i64 0]) ∧ MemOk X w0 [(1, .dat (.slice p (cmE x).length c) (.ns .u8 (cmE x))), (2, .dat (.slice pp x.pl.length cp) (.ns .i64 x.pl)), (3, .dat (.slice pi (x.its.map itD).length ci) (.l 2 (x.its.map itD)))] w' := by
 refine ent1 Tryz.func28 rfl Tryz.ntmps28 fun Az Hz => ?_
 have hlE := rem_len hR 0
 rw [cmE_rem] at m0 Hz
 refine zsr fun K0 hK0 => ?_
 refine plz (e_alloc Hz m0 40 fct24 rfl fun g1 Az w2 Hz m2 _ _ => ?_)
 refine gz hK0 Hz (.assign rfl .nil) fun Az Hz => ?_
 refine zsr fun K1 hK1 => ?_
 refine goCh Hz (.move rfl .nil) fun Az Hz => ?_
 refine plz (ecl Hz Tryz.func59 rfl (pnew_f _ (remE x 0) _ _ _ hlE (m2.into [(1, 1)] (by decide) rfl)) ?_)
 rintro e w6 ⟨B, p6, c6, rfl, hm6⟩
 have mx6 := m2.back hm6 [(31, 1), (32, 2), (1, 3)] (by decide); clear hm6 m2
 have m6 := mx6.oz [31, 32, 1, 40]
 refine ⟨_, rfl, ?_⟩; intro Az Hz
 refine gz hK1 Hz (.assign rfl .nil) fun Az Hz => ?_
 refine zsr fun K2 hK2 => ?_
 refine goCh Hz (.move rfl .nil) fun Az Hz => ?_
 refine plz (ecl Hz Tryz.func73 rfl (num_o _ _ _ _ _ _ x.kd (remE x 1) (rem_len hR 0) (rem_by hR hby 0) rfl (rem_bd hR).1 (m6.into [(1, 31), (2, 32)] (by decide) rfl)) ?_)
 rintro e w11 ⟨p11, c11, rfl, hm11⟩
 have mx11 := m6.back hm11 [(31, 1), (32, 2)] (by decide); clear hm11 m6
 have m11 := mx11.oz [31, 32, 1, 40]
 refine ⟨_, rfl, ?_⟩; intro Az Hz
 refine goCh Hz (.move rfl .nil) fun Az Hz => ?_
 refine plz (ecl Hz Tryz.func73 rfl (num_o _ _ _ _ _ _ x.vo (remE x 2) (rem_len hR 1) (rem_by hR hby 1) rfl (rem_bd hR).2.1 (m11.into [(1, 31), (2, 32)] (by decide) rfl)) ?_)
 rintro e w14 ⟨p14, c14, rfl, hm14⟩
 have mx14 := m11.back hm14 [(31, 1), (32, 2)] (by decide); clear hm14 m11
 have m14 := mx14.oz [31, 32, 1, 40]
 refine ⟨_, rfl, ?_⟩; intro Az Hz
 refine goCh Hz (.move rfl .nil) fun Az Hz => ?_
 refine plz (ecl Hz Tryz.func73 rfl (num_o _ _ _ _ _ _ x.bl (remE x 3) (rem_len hR 2) (rem_by hR hby 2) rfl (rem_bd hR).2.2.1 (m14.into [(1, 31), (2, 32)] (by decide) rfl)) ?_)
 rintro e w17 ⟨p17, c17, rfl, hm17⟩
 have mx17 := m14.back hm17 [(31, 1), (32, 2)] (by decide); clear hm17 m14
 have m17 := mx17.oz [31, 32, 1, 40]
 refine ⟨_, rfl, ?_⟩; intro Az Hz
 refine goCh Hz (.move rfl .nil) fun Az Hz => ?_
 refine plz (ecl Hz Tryz.func73 rfl (num_o _ _ _ _ _ _ x.sz (remE x 4) (rem_len hR 3) (rem_by hR hby 3) rfl (rem_bd hR).2.2.2.1 (m17.into [(1, 31), (2, 32)] (by decide) rfl)) ?_)
 rintro e w20 ⟨p20, c20, rfl, hm20⟩
 have mx20 := m17.back hm20 [(31, 1), (32, 2)] (by decide); clear hm20 m17
 have m20 := mx20.oz [31, 32, 1, 40]
 refine ⟨_, rfl, ?_⟩; intro Az Hz
 refine goCh Hz (.move rfl .nil) fun Az Hz => ?_
 refine plz (ecl Hz Tryz.func73 rfl (num_o _ _ _ _ _ _ x.pe (remE x 5) (rem_len hR 4) (rem_by hR hby 4) rfl (rem_bd hR).2.2.2.2.1 (m20.into [(1, 31), (2, 32)] (by decide) rfl)) ?_)
 rintro e w23 ⟨p23, c23, rfl, hm23⟩
 have mx23 := m20.back hm23 [(31, 1), (32, 2)] (by decide); clear hm23 m20
 have m23 := mx23.oz [31, 32, 1, 40]
 refine ⟨_, rfl, ?_⟩; intro Az Hz
 refine goCh Hz (.move rfl .nil) fun Az Hz => ?_
 refine plz (ecl Hz Tryz.func73 rfl (num_o _ _ _ _ _ _ x.to (remE x 6) (rem_len hR 5) (rem_by hR hby 5) rfl (rem_bd hR).2.2.2.2.2.1 (m23.into [(1, 31), (2, 32)] (by decide) rfl)) ?_)
 rintro e w26 ⟨p26, c26, rfl, hm26⟩
 have mx26 := m23.back hm26 [(31, 1), (32, 2)] (by decide); clear hm26 m23
 have m26 := mx26.oz [31, 32, 1, 40]
 refine ⟨_, rfl, ?_⟩; intro Az Hz
 refine goCh Hz (.move rfl .nil) fun Az Hz => ?_
 refine plz (ecl Hz Tryz.func74 rfl (time_o _ _ _ _ _ _ x.at0 (remE x 7) (rem_len hR 6) (rem_by hR hby 6) rfl (rem_bd hR).2.2.2.2.2.2.1 (m26.into [(1, 31), (2, 32)] (by decide) rfl)) ?_)
 rintro e w29 ⟨p29, c29, rfl, hm29⟩
 have mx29 := m26.back hm29 [(31, 1), (32, 2)] (by decide); clear hm29 m26
 have m29 := mx29.oz [31, 32, 1, 40]
 refine ⟨_, rfl, ?_⟩; intro Az Hz
 refine goCh Hz (.move rfl .nil) fun Az Hz => ?_
 refine plz (ecl Hz Tryz.func73 rfl (num_o _ _ _ _ _ _ x.ix (remE x 8) (rem_len hR 7) (rem_by hR hby 7) rfl (rem_bd hR).2.2.2.2.2.2.2 (m29.into [(1, 31), (2, 32)] (by decide) rfl)) ?_)
 rintro e w32 ⟨p32, c32, rfl, hm32⟩
 have mx32 := m29.back hm32 [(31, 1), (32, 2)] (by decide); clear hm32 m29
 have m32 := mx32.oz [31, 32, 1, 40]
 refine ⟨_, rfl, ?_⟩; intro Az Hz
 refine goCh Hz (.build rfl fct24 fl38mrc rfl (by dsimp only [setL, List.set] <;> rfl) .nil) fun Az Hz => ?_
 refine plz (e_alloc Hz m32 41 fct24 rfl fun g35 Az w36 Hz m36 _ _ => ?_)
 refine plz (stw Hz m36 41 fct19 fun w37 m37 _ => ?_)
 refine znl (hK2 _ _ ?_)
 replace Hz := Hz.oz [0, 2, 3, 4, 5]
 refine zsr fun K3 hK3 => ?_
 refine goCh Hz (.move rfl .nil) fun Az Hz => ?_
 refine plz (ecl Hz Tryz.func75 rfl (listI_o _ _ _ _ _ _ x.pl (remE x 9) (rem_len hR 8) (rem_by hR hby 8) rfl (by have := hR.pl; omega) (pb40 hR) (m37.into [(1, 31), (2, 32)] (by decide) rfl)) ?_)
 rintro e w41 ⟨p41, c41, p341, c341, rfl, hm41⟩
 have mx41 := m37.back hm41 [(31, 1), (32, 2), (42, 3)] (by decide); clear hm41 m37
 have m41 := mx41.oz [31, 32, 42, 1, 40, 41]
 refine ⟨_, rfl, ?_⟩; intro Az Hz
 refine goCh Hz (.move rfl .nil) fun Az Hz => ?_
 refine plz (ecl Hz Tryz.func76 rfl (readItems_o _ _ _ _ _ _ x.its [] (rem_len hR 9) (rem_by hR hby 9) (by rw [List.append_nil]; rfl) (by have := hR.il; omega) hR.ib (m41.into [(1, 31), (2, 32)] (by decide) rfl)) ?_)
 rintro e w44 ⟨p44, c44, p344, c344, rfl, hm44⟩
 have mx44 := m41.back hm44 [(31, 1), (32, 2), (43, 3)] (by decide); clear hm44 m41
 have m44 := mx44.oz [31, 32, 43, 1, 40, 41, 42]
 refine ⟨_, rfl, ?_⟩; intro Az Hz
 refine goCh Hz (.fieldAddr (off := 5) rfl U38 rfl (s := 0) (by kernel_rfl) rfl .nil) fun Az Hz => ?_
 refine plz (st1 Hz m44 41 fct10 fun w47 m47 _ => ?_)
 refine goCh Hz (.fieldAddr (off := 9) rfl U38 rfl (s := 0) (by kernel_rfl) rfl .nil) fun Az Hz => ?_
 refine plz (st1 Hz m47 41 fct6 fun w49 m49 _ => ?_)
 refine znl (hK3 _ _ ?_)
 refine wsk fun K4 hK4 => ?_
 replace Hz := Hz.oz [0, 2, 3, 4, 5]
 refine zsr fun K5 hK5 => ?_
 refine goCh Hz (.move rfl .nil) fun Az Hz => ?_
 refine plz (ecl Hz Tryz.func62 rfl (perr_x _ _ _ _ _ _ _ (m49.into [(1, 31), (2, 32)] (by decide) rfl)) ?_)
 rintro e w53 ⟨rfl, hm53⟩
 have mx53 := m49.back hm53 [(31, 1), (32, 2)] (by decide); clear hm53 m49
 have m53 := mx53.oz [31, 32, 1, 40, 41, 42, 43]
 refine ⟨_, rfl, ?_⟩; intro Az Hz
 refine gz hK5 Hz (.neq rfl rfl .nil) fun Az Hz => ?_
 refine bc Hz 35 ?_ ?_
 · intro hb _; exact absurd hb (by simp)
 clear Hz; intro _ Hz
 refine wcf Hz ?_
 refine zss (hK4 _ _ ?_)
 refine wsk fun K6 hK6 => ?_
 refine zsr fun K7 hK7 => ?_
 refine goCh Hz (.loadBR m53 (i := 41) rfl rfl U38 rfl fct19 (by simp) (by dsimp only [List.drop, List.take] <;> rfl) .nil) fun Az Hz => ?_
 refine plz (ecn Hz Tryz.func25 rfl m53 44 (putCmd_yes x hR _ _ _ _ _ _ ((m53.rd (i := 42) rfl).any) ((m53.rd (i := 43) rfl).any)) fun p59 c59 Az w59 Hz m60 => ?_)
 refine gz hK7 Hz (.move rfl <| .extract rfl rfl <| .extract rfl rfl <| .assign rfl <| .assign rfl <| .nil) fun Az Hz => ?_
 replace Hz := Hz.oz [0, 2, 3, 5, 38, 6, 7]
 refine zsr fun K8 hK8 => ?_
 refine goCh Hz (.move rfl <| .neq rfl rfl <| .move rfl .nil) fun Az Hz => ?_
 refine bc Hz 44 ?_ ?_
 · intro hb _; exact absurd hb (by simp)
 clear Hz; intro _ Hz
 refine goCh Hz (.moveZ rfl <| .moveZ rfl .nil) fun Az Hz => ?_
 have m77 := m60.freezeN 44 rfl
 refine stz Hz (ecb Hz Tryz.func64 rfl m77 (mbeq_z (cmE_rem x) _ _ _ _ _ ((m77.rd (i := 44) rfl).any) ((m77.rd (i := 1) rfl).any) (cmE_by hR hby)) fun Az w78 Hz m79 => ?_)
 refine gz hK8 Hz (.notZ rfl <| .pickF rfl rfl <| .nil) fun Az Hz => ?_
 refine wcf Hz ?_
 refine zss (hK6 _ _ ?_)
 replace Hz := Hz.oz [2, 3, 5, 38]
 refine zsr fun K9 hK9 => ?_
 refine goCh Hz (.loadBR m79 (i := 41) rfl rfl U38 rfl fct19 (by simp) (by dsimp only [List.drop, List.take] <;> rfl) .nil) fun Az Hz => ?_
 refine plz (stw Hz m79 40 fct19 fun w86 m86 _ => ?_)
 refine gz hK9 Hz (.assign rfl .nil) fun Az Hz => ?_
 refine rtd (retCT (fn := Tryz.f28) Hz m86 (i := 40) rfl rfl rfl rfl U38 rfl fct19 ?_)
 rw [cmE_rem]
 exact ⟨_, _, _, _, rfl, m86.ren [(1, 1), (2, 42), (3, 43)] (by decide)⟩
theorem mnew_x (X : Cx) (w0 : World) (m9 : MemOk X w0 [] w0) :
   Calls Tryz.prog 9 #[] w0 fun e w' => ∃ B G, e = .returned (.pointer (some ⟨B, 0, none⟩)) ∧ MemOk X w0 [(1, .box B 87 [.map (some G)]), (2, .mp G 11 ((([] : List VolV)).map keyV) ((([] : List VolV)).map volD))] w' := by
 refine ent0 Tryz.func9 rfl Tryz.ntmps9 fun Az Hz => ?_
 have m0 := m9
 refine regS Hz (.assign rfl .nil) fun Az Hz => ?_
 refine zsr fun K0 hK0 => ?_
 refine plz (e_makeMap Hz m0 20 11 rfl fun g2 Az w3 Hz m3 _ _ => ?_)
 refine goCh Hz (.build rfl fct35 fl87mne rfl (by dsimp only [setL, List.set] <;> rfl) .nil) fun Az Hz => ?_
 refine plz (e_box Hz m3 21 (cs := [_]) rfl rfl rfl fun g5 Az w6 Hz m6 _ _ => ?_)
 refine gz hK0 Hz (.assign rfl .nil) fun Az Hz => ?_
 refine rt1 Hz ?_
 exact ⟨_, _, rfl, m6.ren [(1, 21), (2, 20)] (by decide)⟩
theorem create_ex (X : Cx) (B G : Nat) (L : List VolV) (x : Cm) (hR : CmdR x) (pp pi : Option Addr) (cp ni ci : Nat) (w0 : World) (j : Nat) (y : VolV) (hj : L[j]? = some y) (hy : y.vo = x.vo) (m0 : MemOk X w0 [(1, .box B 87 [.map (some G)]), (2, .mp G 11 ((L).map keyV) ((L).map volD)), (3, .dat (.slice pp x.pl.length cp) (.ns .i64 x.pl)), (4, .dat (.slice pi ni ci) (.l 2 (x.its.map itD)))] w0) :
   Calls Tryz.prog 47 #[.pointer (some ⟨B, 0, none⟩), .agg #[.int .i64 x.kd, .int .i64 x.vo, .int .i64 x.bl, .int .i64 x.sz, .int .i64 x.pe, .slice pp x.pl.length cp, .int .i64 x.to, .int .i64 x.at0, .int .i64 x.ix, .slice pi ni ci]] w0 fun e w' => e = .returned (.int .i64 29) ∧ MemOk X w0 [(1, .box B 87 [.map (some G)]), (2, .mp G 11 ((L).map keyV) ((L).map volD))] w' := by
 refine ent2 Tryz.func47 rfl Tryz.ntmps47 fun Az Hz => ?_
 refine zsr fun K0 hK0 => ?_
 refine plz (e_box Hz m0 20 (cs := [_, _, _, _, _, _, _, _, _, _]) rfl rfl rfl fun g1 Az w2 Hz m2 _ _ => ?_)
 refine gz hK0 Hz (.assign rfl .nil) fun Az Hz => ?_
 refine wsk fun K1 hK1 => ?_
 refine wsk fun K2 hK2 => ?_
 obtain ⟨es4, ck4, hks4, hel4, hmk4, m4⟩ := m2.mpOpen (i := 2) rfl
 clear m2 hel4 hmk4
 have hki4 := mpKeys hks4 keyI
 obtain ⟨e4, vs4, he4, hev4, hR4, ho4, hvl4⟩ := m4.mpeAt (i := 2) rfl (r := [.v (.int .i64 y.vo), .v (.int .i64 y.bl), .v (.int .i64 y.sz), .v (.int .i64 y.pe), .ns .i64 y.place, .v (.int .i64 y.to), .v (.int .i64 y.ne), .v (.bool y.hi), .v (.int .i64 y.fl), .ns .i64 y.pins, .l 2 (y.ws.map wrD)]) (volD_get hj)
 have hek4 := mpKey hks4 he4 (keyV_get hj)
 clear ho4 hvl4
 revert Hz
 rcases hR4 with _ | ⟨hd4_0, _ | ⟨hd4_1, _ | ⟨hd4_2, _ | ⟨hd4_3, _ | ⟨hd4_4, _ | ⟨hd4_5, _ | ⟨hd4_6, _ | ⟨hd4_7, _ | ⟨hd4_8, _ | ⟨hd4_9, _ | ⟨hd4_10, _ | _⟩⟩⟩⟩⟩⟩⟩⟩⟩⟩⟩
 obtain rfl := hd4_0.v_out
 clear hd4_0
 obtain rfl := hd4_1.v_out
 clear hd4_1
 obtain rfl := hd4_2.v_out
 clear hd4_2
 obtain rfl := hd4_3.v_out
 clear hd4_3
 obtain ⟨p5, c5, hv5, hc5⟩ := hd4_4.ns_shape; subst hv5
 intro Hz
 have m5 := m4.dat 21 rfl (hd4_4.cast (fun _ h => h)); clear m4 hd4_4
 revert Hz
 obtain rfl := hd4_5.v_out
 clear hd4_5
 obtain rfl := hd4_6.v_out
 clear hd4_6
 obtain rfl := hd4_7.v_out
 clear hd4_7
 obtain rfl := hd4_8.v_out
 clear hd4_8
 obtain ⟨p6, c6, hv6, hc6⟩ := hd4_9.ns_shape; subst hv6
 intro Hz
 have m6 := m5.dat 22 rfl (hd4_9.cast (fun _ h => (free_add rfl h))); clear m5 hd4_9
 revert Hz
 obtain ⟨p7, c7, hv7, hc7⟩ := hd4_10.l_shape; subst hv7
 intro Hz
 have m7 := m6.dat 23 rfl (hd4_10.cast (fun _ h => (free_add rfl (free_add rfl h)))); clear m6 hd4_10
 have m8 := m7.oz [1, 2, 3, 4, 20, 21, 22, 23]
 refine region_p 11 (B := [(1, _), (2, _), (3, _), (4, _), (20, _), (21, _), (22, _), (23, _)]) (m8.to ⟨il, il, il, il, il, il, il, il, trivial⟩) m8 (by kernel_rfl) (fun w9 hP9 m9 => ?_); clear m8
 refine goR hP9 [0, 1, 2, 3, 4, 5, 6, 7, 8, 9] [3, 5, 6] 10 0 1023 Hz (m9.to ⟨il, il, il, il, il, il, il, il, trivial⟩) (.move rfl <| .nilCheck rfl <| .fa 0 rfl U87 <| .lb hh 1 U85 rfl rfl rfl <| .fa 1 rfl U38 <| .lb hh 20 U3 rfl rfl rfl <| .c (fun _ hW _ h_ => y_lookE h_ hW (i := 2) rfl rfl rfl U85 (KeyT.int (q := .i64) U3) hki4 he4 (hek4.trans (keyV_eq hy)) hev4) <| .move rfl <| .extract rfl rfl <| .extract rfl rfl .nil) fun Az Hz => ?_
 refine so 10 ?_
 refine e_alloc Hz m9 24 fct14 rfl fun g20 Az w21 Hz m21 _ _ => ?_
 refine ⟨m21.to ⟨il, il, il, il, il, il, il, il, trivial⟩, ?_⟩
 refine se 11 ?_
 refine stw Hz m21 24 fct13 fun w22 m22 _ => ?_
 refine goB hP9 [12] 1 4095 8191 Hz (.assign rfl .nil) fun Az Hz => ?_
 refine wpAnyE_done (by kernel_rfl) ?_ _
 refine hK2 _ _ ?_
 replace Hz := Hz.oz [0, 3, 4, 6]
 refine regS Hz (.move rfl .nil) fun Az Hz => ?_
 refine wct Hz ?_
 refine regS Hz (.assign rfl .nil) fun Az Hz => ?_
 refine rt1 Hz ?_
 have m27 := m22.mpClose (i := 2) rfl
 rw [hks4] at m27
 exact ⟨rfl, m27.only [1, 2]⟩
theorem create_ok (X : Cx) (B G : Nat) (L : List VolV) (x : Cm) (hR : CmdR x) (pp pi : Option Addr) (cp ni ci : Nat) (w0 : World) (hno : ∀ y ∈ L, y.vo ≠ x.vo) (hN : NewOk x.vo x.bl x.sz x.pe x.to x.pl) (m0 : MemOk X w0 [(1, .box B 87 [.map (some G)]), (2, .mp G 11 ((L).map keyV) ((L).map volD)), (3, .dat (.slice pp x.pl.length cp) (.ns .i64 x.pl)), (4, .dat (.slice pi ni ci) (.l 2 (x.its.map itD)))] w0) :
   Calls Tryz.prog 47 #[.pointer (some ⟨B, 0, none⟩), .agg #[.int .i64 x.kd, .int .i64 x.vo, .int .i64 x.bl, .int .i64 x.sz, .int .i64 x.pe, .slice pp x.pl.length cp, .int .i64 x.to, .int .i64 x.at0, .int .i64 x.ix, .slice pi ni ci]] w0 fun e w' => e = .returned (.int .i64 0) ∧ MemOk X w0 [(1, .box B 87 [.map (some G)]), (2, .mp G 11 ((L ++ [newV x.vo x.bl x.sz x.pe x.to x.pl]).map keyV) ((L ++ [newV x.vo x.bl x.sz x.pe x.to x.pl]).map volD))] w' := by
 refine ent2 Tryz.func47 rfl Tryz.ntmps47 fun Az Hz => ?_
 refine zsr fun K0 hK0 => ?_
 refine plz (e_box Hz m0 20 (cs := [_, _, _, _, _, _, _, _, _, _]) rfl rfl rfl fun g1 Az w2 Hz m2 _ _ => ?_)
 refine gz hK0 Hz (.assign rfl .nil) fun Az Hz => ?_
 refine wsk fun K1 hK1 => ?_
 refine wsk fun K2 hK2 => ?_
 obtain ⟨es4, ck4, hks4, hel4, hmk4, m4⟩ := m2.mpOpen (i := 2) rfl
 clear m2 hel4 hmk4
 have hki4 := mpKeys hks4 keyI
 have m5 := m4.oz [1, 2, 3, 4, 20]
 refine region_p 11 (B := [(1, _), (2, _), (3, _), (4, _), (20, _)]) (m5.to ⟨il, il, il, il, il, trivial⟩) m5 (by kernel_rfl) (fun w6 hP6 m6 => ?_); clear m5
 refine goR hP6 [0, 1, 2, 3, 4, 5, 6, 7, 8, 9] [3, 5, 6] 10 0 1023 Hz (m6.to ⟨il, il, il, il, il, trivial⟩) (.move rfl <| .nilCheck rfl <| .fa 0 rfl U87 <| .lb hh 1 U85 rfl rfl rfl <| .fa 1 rfl U38 <| .lb hh 20 U3 rfl rfl rfl <| .c (fun _ hW _ h_ => y_lookN h_ hW (.agg #[.int .i64 0, .int .i64 0, .int .i64 0, .int .i64 0, .slice none 0 0, .int .i64 0, .int .i64 0, .bool false, .int .i64 0, .slice none 0 0, .slice none 0 0]) (i := 2) rfl rfl rfl U85 zv51 (KeyT.int (q := .i64) U3) hki4 ⟨_, rfl⟩ (mpKeys hks4 (keyV_ne hno))) <| .move rfl <| .extract rfl rfl <| .extract rfl rfl .nil) fun Az Hz => ?_
 refine so 10 ?_
 refine e_alloc Hz m6 21 fct14 rfl fun g17 Az w18 Hz m18 _ _ => ?_
 refine ⟨m18.to ⟨il, il, il, il, il, trivial⟩, ?_⟩
 refine se 11 ?_
 refine stw Hz m18 21 fct13 fun w19 m19 _ => ?_
 refine goB hP6 [12] 1 4095 8191 Hz (.assign rfl .nil) fun Az Hz => ?_
 refine wpAnyE_done (by kernel_rfl) ?_ _
 refine hK2 _ _ ?_
 replace Hz := Hz.oz [0, 3, 4, 6]
 refine regS Hz (.move rfl .nil) fun Az Hz => ?_
 refine wcf Hz ?_
 refine zss (hK1 _ _ ?_)
 refine zsr fun K3 hK3 => ?_
 refine goCh Hz (.loadBR m19 (i := 20) rfl rfl U38 rfl fct19 (by simp) (by dsimp only [List.drop, List.take] <;> rfl) .nil) fun Az Hz => ?_
 refine plz (ecl Hz Tryz.func95 rfl (vnewY _ _ _ _ _ _ _ _ x.pl _ _ _ _ _ _ ((m19.rd (i := 3) rfl).any) (by have := hR.pl; omega) hN) ?_)
 rintro e w25 ⟨p25, c25, rfl, ho25, hb25⟩
 have m26 := m19.callF 22 rfl hb25 ho25
 refine ⟨_, rfl, ?_⟩; intro Az Hz
 refine goCh Hz (.move rfl <| .extract rfl rfl <| .extract rfl rfl .nil) fun Az Hz => ?_
 refine plz (e_alloc Hz m26 23 fct14 rfl fun g31 Az w32 Hz m32 _ _ => ?_)
 refine plz (stw Hz m32 23 fct13 fun w33 m33 _ => ?_)
 refine gz hK3 Hz (.assign rfl .nil) fun Az Hz => ?_
 refine wsk fun K4 hK4 => ?_
 replace Hz := Hz.oz [0, 3, 4, 7, 8]
 refine regS Hz (.move rfl <| .eql rfl rfl .nil) fun Az Hz => ?_
 refine bc Hz 26 ?_ ?_
 rotate_left
 · intro hb _; exact absurd hb (by simp)
 clear Hz; intro _ Hz
 refine wct Hz ?_
 have m39 := m33.mpClose (i := 2) rfl
 rw [hks4] at m39
 have m40 := m39.oz [1, 2, 3, 4, 20, 21, 22, 23]
 refine region_p 7 (B := [(1, _), (2, _), (3, _), (4, _), (20, _), (21, _), (22, _), (23, _)]) (m40.to ⟨il, il, il, il, il, il, il, il, trivial⟩) m40 (by kernel_rfl) (fun w41 hP41 m41 => ?_); clear m40
 refine goR hP41 [0, 1, 2, 3, 4, 5, 6] [3, 5, 6] 7 0 127 Hz (m41.to ⟨il, il, il, il, il, il, il, il, trivial⟩) (.move rfl <| .nilCheck rfl <| .fa 0 rfl U87 <| .lb hh 1 U85 rfl rfl rfl <| .fa 1 rfl U38 <| .lb hh 20 U3 rfl rfl rfl <| .loadBR hh (i := 23) rfl rfl U51 rfl fct13 (by simp) (by dsimp only [List.drop, List.take] <;> rfl) .nil) fun Az Hz => ?_
 refine se 7 ?_
 refine e_mapUpdate (Q := _) Hz m41 2 rfl rfl rfl rfl U85 (KeyT.int (q := .i64) U3) keyI ⟨_, rfl⟩ rfl rfl (.cons (.v _) (.cons (.v _) (.cons (.v _) (.cons (.v _) (.cons (m41.rd (i := 22) rfl) (.cons (.v _) (.cons (.v _) (.cons (.v _) (.cons (.v _) (.cons (Rd.nilN _ _ .i64 _) (.cons (.l0 _ _ 2) .nil))))))))))) none (keyV_ne hno) fun w49 m49 _ => ?_
 refine wpAnyE_done (by kernel_rfl) ?_ _
 refine hK4 _ _ ?_
 replace Hz := Hz.oz [4, 8]
 refine regS Hz (.move rfl <| .assign rfl .nil) fun Az Hz => ?_
 refine rt1 Hz ?_
 rw [mpuK_new, mpuR_new] at m49
 exact ⟨rfl, m49.only [1, 2]⟩
theorem create_bad (X : Cx) (B G : Nat) (L : List VolV) (x : Cm) (hR : CmdR x) (pp pi : Option Addr) (cp ni ci : Nat) (w0 : World) (hno : ∀ y ∈ L, y.vo ≠ x.vo) (hN : ¬ NewOk x.vo x.bl x.sz x.pe x.to x.pl) (m0 : MemOk X w0 [(1, .box B 87 [.map (some G)]), (2, .mp G 11 ((L).map keyV) ((L).map volD)), (3, .dat (.slice pp x.pl.length cp) (.ns .i64 x.pl)), (4, .dat (.slice pi ni ci) (.l 2 (x.its.map itD)))] w0) :
   Calls Tryz.prog 47 #[.pointer (some ⟨B, 0, none⟩), .agg #[.int .i64 x.kd, .int .i64 x.vo, .int .i64 x.bl, .int .i64 x.sz, .int .i64 x.pe, .slice pp x.pl.length cp, .int .i64 x.to, .int .i64 x.at0, .int .i64 x.ix, .slice pi ni ci]] w0 fun e w' => e = .returned (.int .i64 23) ∧ MemOk X w0 [(1, .box B 87 [.map (some G)]), (2, .mp G 11 ((L).map keyV) ((L).map volD))] w' := by
 refine ent2 Tryz.func47 rfl Tryz.ntmps47 fun Az Hz => ?_
 refine zsr fun K0 hK0 => ?_
 refine plz (e_box Hz m0 20 (cs := [_, _, _, _, _, _, _, _, _, _]) rfl rfl rfl fun g1 Az w2 Hz m2 _ _ => ?_)
 refine gz hK0 Hz (.assign rfl .nil) fun Az Hz => ?_
 refine wsk fun K1 hK1 => ?_
 refine wsk fun K2 hK2 => ?_
 obtain ⟨es4, ck4, hks4, hel4, hmk4, m4⟩ := m2.mpOpen (i := 2) rfl
 clear m2 hel4 hmk4
 have hki4 := mpKeys hks4 keyI
 have m5 := m4.oz [1, 2, 3, 4, 20]
 refine region_p 11 (B := [(1, _), (2, _), (3, _), (4, _), (20, _)]) (m5.to ⟨il, il, il, il, il, trivial⟩) m5 (by kernel_rfl) (fun w6 hP6 m6 => ?_); clear m5
 refine goR hP6 [0, 1, 2, 3, 4, 5, 6, 7, 8, 9] [3, 5, 6] 10 0 1023 Hz (m6.to ⟨il, il, il, il, il, trivial⟩) (.move rfl <| .nilCheck rfl <| .fa 0 rfl U87 <| .lb hh 1 U85 rfl rfl rfl <| .fa 1 rfl U38 <| .lb hh 20 U3 rfl rfl rfl <| .c (fun _ hW _ h_ => y_lookN h_ hW (.agg #[.int .i64 0, .int .i64 0, .int .i64 0, .int .i64 0, .slice none 0 0, .int .i64 0, .int .i64 0, .bool false, .int .i64 0, .slice none 0 0, .slice none 0 0]) (i := 2) rfl rfl rfl U85 zv51 (KeyT.int (q := .i64) U3) hki4 ⟨_, rfl⟩ (mpKeys hks4 (keyV_ne hno))) <| .move rfl <| .extract rfl rfl <| .extract rfl rfl .nil) fun Az Hz => ?_
 refine so 10 ?_
 refine e_alloc Hz m6 21 fct14 rfl fun g17 Az w18 Hz m18 _ _ => ?_
 refine ⟨m18.to ⟨il, il, il, il, il, trivial⟩, ?_⟩
 refine se 11 ?_
 refine stw Hz m18 21 fct13 fun w19 m19 _ => ?_
 refine goB hP6 [12] 1 4095 8191 Hz (.assign rfl .nil) fun Az Hz => ?_
 refine wpAnyE_done (by kernel_rfl) ?_ _
 refine hK2 _ _ ?_
 replace Hz := Hz.oz [0, 3, 4, 6]
 refine regS Hz (.move rfl .nil) fun Az Hz => ?_
 refine wcf Hz ?_
 refine zss (hK1 _ _ ?_)
 refine zsr fun K3 hK3 => ?_
 refine goCh Hz (.loadBR m19 (i := 20) rfl rfl U38 rfl fct19 (by simp) (by dsimp only [List.drop, List.take] <;> rfl) .nil) fun Az Hz => ?_
 refine plz (ecb Hz Tryz.func95 rfl m19 (vnewN _ _ _ _ _ _ _ _ x.pl _ _ _ _ _ _ ((m19.rd (i := 3) rfl).any) (by have := hR.pl; omega) hN) fun Az w25 Hz m26 => ?_)
 refine goCh Hz (.move rfl <| .extract rfl rfl <| .extract rfl rfl .nil) fun Az Hz => ?_
 refine plz (e_alloc Hz m26 22 fct14 rfl fun g31 Az w32 Hz m32 _ _ => ?_)
 refine plz (stw Hz m32 22 fct13 fun w33 m33 _ => ?_)
 refine gz hK3 Hz (.assign rfl .nil) fun Az Hz => ?_
 refine wsk fun K4 hK4 => ?_
 replace Hz := Hz.oz [0, 3, 4, 7, 8]
 refine regS Hz (.move rfl <| .eql rfl rfl .nil) fun Az Hz => ?_
 refine bc Hz 26 ?_ ?_
 · intro hb _; exact absurd hb (by simp)
 clear Hz; intro _ Hz
 refine wcf Hz ?_
 refine zss (hK4 _ _ ?_)
 refine regS Hz (.move rfl <| .assign rfl .nil) fun Az Hz => ?_
 refine rt1 Hz ?_
 have m41 := m33.mpClose (i := 2) rfl
 rw [hks4] at m41
 exact ⟨rfl, m41.only [1, 2]⟩
theorem do_no (X : Cx) (B G : Nat) (L : List VolV) (x : Cm) (hR : CmdR x) (pp pi : Option Addr) (cp ni ci : Nat) (w0 : World) (hno : ∀ y ∈ L, y.vo ≠ x.vo) (m0 : MemOk X w0 [(1, .box B 87 [.map (some G)]), (2, .mp G 11 ((L).map keyV) ((L).map volD)), (3, .dat (.slice pp x.pl.length cp) (.ns .i64 x.pl)), (4, .dat (.slice pi ni ci) (.l 2 (x.its.map itD)))] w0) :
   Calls Tryz.prog 48 #[.pointer (some ⟨B, 0, none⟩), .agg #[.int .i64 x.kd, .int .i64 x.vo, .int .i64 x.bl, .int .i64 x.sz, .int .i64 x.pe, .slice pp x.pl.length cp, .int .i64 x.to, .int .i64 x.at0, .int .i64 x.ix, .slice pi ni ci]] w0 fun e w' => e = .returned (.agg #[.int .i64 28, .int .i64 0, .int .i64 0, .int .i64 0, .slice none 0 0]) ∧ MemOk X w0 [(1, .box B 87 [.map (some G)]), (2, .mp G 11 ((L).map keyV) ((L).map volD))] w' := by
 refine ent2 Tryz.func48 rfl Tryz.ntmps48 fun Az Hz => ?_
 refine zsr fun K0 hK0 => ?_
 refine plz (e_box Hz m0 20 (cs := [_, _, _, _, _, _, _, _, _, _]) rfl rfl rfl fun g1 Az w2 Hz m2 _ _ => ?_)
 refine plz (e_alloc Hz m2 21 fct29 rfl fun g3 Az w4 Hz m4 _ _ => ?_)
 refine znl (hK0 _ _ ?_)
 refine wsk fun K1 hK1 => ?_
 obtain ⟨es5, ck5, hks5, hel5, hmk5, m5⟩ := m4.mpOpen (i := 2) rfl
 clear m4 hel5 hmk5
 have hki5 := mpKeys hks5 keyI
 have m6 := m5.oz [1, 2, 3, 4, 20, 21]
 refine region_p 11 (B := [(1, _), (2, _), (3, _), (4, _), (20, _), (21, _)]) (m6.to ⟨il, il, il, il, il, il, trivial⟩) m6 (by kernel_rfl) (fun w7 hP7 m7 => ?_); clear m6
 refine goR hP7 [0, 1, 2, 3, 4, 5, 6, 7, 8, 9] [3, 5, 6] 10 0 1023 Hz (m7.to ⟨il, il, il, il, il, il, trivial⟩) (.move rfl <| .nilCheck rfl <| .fa 0 rfl U87 <| .lb hh 1 U85 rfl rfl rfl <| .fa 1 rfl U38 <| .lb hh 20 U3 rfl rfl rfl <| .c (fun _ hW _ h_ => y_lookN h_ hW (.agg #[.int .i64 0, .int .i64 0, .int .i64 0, .int .i64 0, .slice none 0 0, .int .i64 0, .int .i64 0, .bool false, .int .i64 0, .slice none 0 0, .slice none 0 0]) (i := 2) rfl rfl rfl U85 zv51 (KeyT.int (q := .i64) U3) hki5 ⟨_, rfl⟩ (mpKeys hks5 (keyV_ne hno))) <| .move rfl <| .extract rfl rfl <| .extract rfl rfl .nil) fun Az Hz => ?_
 refine so 10 ?_
 refine e_alloc Hz m7 22 fct14 rfl fun g18 Az w19 Hz m19 _ _ => ?_
 refine ⟨m19.to ⟨il, il, il, il, il, il, trivial⟩, ?_⟩
 refine se 11 ?_
 refine stw Hz m19 22 fct13 fun w20 m20 _ => ?_
 refine goB hP7 [12] 1 4095 8191 Hz (.assign rfl .nil) fun Az Hz => ?_
 refine wpAnyE_done (by kernel_rfl) ?_ _
 refine hK1 _ _ ?_
 refine wsk fun K2 hK2 => ?_
 replace Hz := Hz.oz [0, 3, 4, 5, 6]
 refine regS Hz (.move rfl <| .not rfl .nil) fun Az Hz => ?_
 refine wct Hz ?_
 refine zsr fun K3 hK3 => ?_
 refine goCh Hz (.build rfl fct29 fl44my1 rfl (by dsimp only [setL, List.set] <;> rfl) .nil) fun Az Hz => ?_
 refine plz (stw Hz m20 21 fct28 fun w27 m27 _ => ?_)
 refine znl (hK3 _ _ ?_)
 refine rtd (retC (fn := Tryz.f48) Hz m27 (i := 21) rfl rfl rfl U44 rfl fct28 ?_)
 have m28 := m27.mpClose (i := 2) rfl
 rw [hks5] at m28
 exact ⟨rfl, m28.only [1, 2]⟩
theorem do_ex (X : Cx) (B G : Nat) (L : List VolV) (x : Cm) (hR : CmdR x) (pp pi : Option Addr) (cp ni ci : Nat) (w0 : World) (n : Nat) (hn : n ≤ 800000) (hV : ∀ y ∈ L, VolS n y) (j : Nat) (y : VolV) (hj : L[j]? = some y) (hy : y.vo = x.vo) (m0 : MemOk X w0 [(1, .box B 87 [.map (some G)]), (2, .mp G 11 ((L).map keyV) ((L).map volD)), (3, .dat (.slice pp x.pl.length cp) (.ns .i64 x.pl)), (4, .dat (.slice pi ni ci) (.l 2 (x.its.map itD)))] w0) :
   Calls Tryz.prog 48 #[.pointer (some ⟨B, 0, none⟩), .agg #[.int .i64 x.kd, .int .i64 x.vo, .int .i64 x.bl, .int .i64 x.sz, .int .i64 x.pe, .slice pp x.pl.length cp, .int .i64 x.to, .int .i64 x.at0, .int .i64 x.ix, .slice pi ni ci]] w0 fun e w' => ∃ (z : VolV) (e9 rl rf rn : Int), e = .returned (.agg #[.int .i64 e9, .int .i64 rl, .int .i64 rf, .int .i64 rn, .slice none 0 0]) ∧ doV y x = (z, e9) ∧ repV z e9 = (rl, rf, rn) ∧ MemOk X w0 [(1, .box B 87 [.map (some G)]), (2, .mp G 11 ((L.set j z).map keyV) ((L.set j z).map volD))] w' := by
 refine ent2 Tryz.func48 rfl Tryz.ntmps48 fun Az Hz => ?_
 refine zsr fun K0 hK0 => ?_
 refine plz (e_box Hz m0 20 (cs := [_, _, _, _, _, _, _, _, _, _]) rfl rfl rfl fun g1 Az w2 Hz m2 _ _ => ?_)
 refine plz (e_alloc Hz m2 21 fct29 rfl fun g3 Az w4 Hz m4 _ _ => ?_)
 refine znl (hK0 _ _ ?_)
 refine wsk fun K1 hK1 => ?_
 obtain ⟨es5, ck5, hks5, hel5, hmk5, m5⟩ := m4.mpOpen (i := 2) rfl
 clear m4 hel5 hmk5
 have hki5 := mpKeys hks5 keyI
 obtain ⟨e5, vs5, he5, hev5, hR5, ho5, hvl5⟩ := m5.mpeAt (i := 2) rfl (r := [.v (.int .i64 y.vo), .v (.int .i64 y.bl), .v (.int .i64 y.sz), .v (.int .i64 y.pe), .ns .i64 y.place, .v (.int .i64 y.to), .v (.int .i64 y.ne), .v (.bool y.hi), .v (.int .i64 y.fl), .ns .i64 y.pins, .l 2 (y.ws.map wrD)]) (volD_get hj)
 have hek5 := mpKey hks5 he5 (keyV_get hj)
 clear ho5 hvl5
 revert Hz
 rcases hR5 with _ | ⟨hd5_0, _ | ⟨hd5_1, _ | ⟨hd5_2, _ | ⟨hd5_3, _ | ⟨hd5_4, _ | ⟨hd5_5, _ | ⟨hd5_6, _ | ⟨hd5_7, _ | ⟨hd5_8, _ | ⟨hd5_9, _ | ⟨hd5_10, _ | _⟩⟩⟩⟩⟩⟩⟩⟩⟩⟩⟩
 obtain rfl := hd5_0.v_out
 clear hd5_0
 obtain rfl := hd5_1.v_out
 clear hd5_1
 obtain rfl := hd5_2.v_out
 clear hd5_2
 obtain rfl := hd5_3.v_out
 clear hd5_3
 obtain ⟨p6, c6, hv6, hc6⟩ := hd5_4.ns_shape; subst hv6
 intro Hz
 have m6 := m5.dat 22 rfl (hd5_4.cast (fun _ h => h)); clear m5 hd5_4
 revert Hz
 obtain rfl := hd5_5.v_out
 clear hd5_5
 obtain rfl := hd5_6.v_out
 clear hd5_6
 obtain rfl := hd5_7.v_out
 clear hd5_7
 obtain rfl := hd5_8.v_out
 clear hd5_8
 obtain ⟨p7, c7, hv7, hc7⟩ := hd5_9.ns_shape; subst hv7
 intro Hz
 have m7 := m6.dat 23 rfl (hd5_9.cast (fun _ h => (free_add rfl h))); clear m6 hd5_9
 revert Hz
 obtain ⟨p8, c8, hv8, hc8⟩ := hd5_10.l_shape; subst hv8
 intro Hz
 have m8 := m7.dat 24 rfl (hd5_10.cast (fun _ h => (free_add rfl (free_add rfl h)))); clear m7 hd5_10
 have m9 := m8.oz [1, 2, 3, 4, 20, 21, 22, 23, 24]
 refine region_p 11 (B := [(1, _), (2, _), (3, _), (4, _), (20, _), (21, _), (22, _), (23, _), (24, _)]) (m9.to ⟨il, il, il, il, il, il, il, il, il, trivial⟩) m9 (by kernel_rfl) (fun w10 hP10 m10 => ?_); clear m9
 refine goR hP10 [0, 1, 2, 3, 4, 5, 6, 7, 8, 9] [3, 5, 6] 10 0 1023 Hz (m10.to ⟨il, il, il, il, il, il, il, il, il, trivial⟩) (.move rfl <| .nilCheck rfl <| .fa 0 rfl U87 <| .lb hh 1 U85 rfl rfl rfl <| .fa 1 rfl U38 <| .lb hh 20 U3 rfl rfl rfl <| .c (fun _ hW _ h_ => y_lookE h_ hW (i := 2) rfl rfl rfl U85 (KeyT.int (q := .i64) U3) hki5 he5 (hek5.trans (keyV_eq hy)) hev5) <| .move rfl <| .extract rfl rfl <| .extract rfl rfl .nil) fun Az Hz => ?_
 refine so 10 ?_
 refine e_alloc Hz m10 25 fct14 rfl fun g21 Az w22 Hz m22 _ _ => ?_
 refine ⟨m22.to ⟨il, il, il, il, il, il, il, il, il, trivial⟩, ?_⟩
 refine se 11 ?_
 refine stw Hz m22 25 fct13 fun w23 m23 _ => ?_
 refine goB hP10 [12] 1 4095 8191 Hz (.assign rfl .nil) fun Az Hz => ?_
 refine wpAnyE_done (by kernel_rfl) ?_ _
 refine hK1 _ _ ?_
 refine wsk fun K2 hK2 => ?_
 replace Hz := Hz.oz [0, 3, 4, 5, 6]
 refine regS Hz (.move rfl <| .not rfl .nil) fun Az Hz => ?_
 refine wcf Hz ?_
 refine zss (hK2 _ _ ?_)
 refine zsr fun K3 hK3 => ?_
 refine goCh Hz (.loadBR m23 (i := 25) rfl rfl U51 rfl fct13 (by simp) (by dsimp only [List.drop, List.take] <;> rfl) <| .loadBR m23 (i := 20) rfl rfl U38 rfl fct19 (by simp) (by dsimp only [List.drop, List.take] <;> rfl) .nil) fun Az Hz => ?_
 have m32 := m23.mpClose (i := 2) rfl
 rw [hks5] at m32
 refine plz (ecl Hz Tryz.func96 rfl (pDo_v _ y x n (hV y (List.mem_of_getElem? hj)) hn (by have := hR.il; omega) hR.itok _ _ _ _ _ _ _ _ _ _ _ _ _ _ _ _ _ _ _ (m32.rd (i := 22) rfl) (m32.rd (i := 23) rfl) (m32.rd (i := 24) rfl) (m32.rd (i := 4) rfl)) ?_)
 rintro e w33 ⟨z, e9, rl, rf, rn, pz1, pz2, pz3, dz1, dz2, dz3, rfl, hdo, hrp, ho1, ho2, ho3, hb33⟩
 have m34 := callD3 m32 26 27 28 rfl rfl rfl hb33 ho1 ho2 ho3
 refine ⟨_, rfl, ?_⟩; intro Az Hz
 refine goCh Hz (.move rfl <| .extract rfl rfl <| .extract rfl rfl .nil) fun Az Hz => ?_
 refine plz (e_alloc Hz m34 29 fct29 rfl fun g39 Az w40 Hz m40 _ _ => ?_)
 refine plz (stw Hz m40 25 fct13 fun w41 m41 _ => ?_)
 refine plz (stw Hz m41 29 fct28 fun w42 m42 _ => ?_)
 refine znl (hK3 _ _ ?_)
 refine wsk fun K4 hK4 => ?_
 replace Hz := Hz.oz [0, 3, 4, 5, 7]
 have m44 := m42.oz [1, 2, 3, 4, 20, 21, 22, 23, 24, 25, 26, 27, 28, 29]
 refine region_p 7 (B := [(1, _), (2, _), (3, _), (4, _), (20, _), (21, _), (22, _), (23, _), (24, _), (25, _), (26, _), (27, _), (28, _), (29, _)]) (m44.to ⟨il, il, il, il, il, il, il, il, il, il, il, il, il, il, trivial⟩) m44 (by kernel_rfl) (fun w45 hP45 m45 => ?_); clear m44
 refine goR hP45 [0, 1, 2, 3, 4, 5, 6] [3, 5, 6] 7 0 127 Hz (m45.to ⟨il, il, il, il, il, il, il, il, il, il, il, il, il, il, trivial⟩) (.move rfl <| .nilCheck rfl <| .fa 0 rfl U87 <| .lb hh 1 U85 rfl rfl rfl <| .fa 1 rfl U38 <| .lb hh 20 U3 rfl rfl rfl <| .loadBR hh (i := 25) rfl rfl U51 rfl fct13 (by simp) (by dsimp only [List.drop, List.take] <;> rfl) .nil) fun Az Hz => ?_
 refine se 7 ?_
 refine e_mapUpdate (Q := _) Hz m45 2 rfl rfl rfl rfl U85 (KeyT.int (q := .i64) U3) keyI ⟨_, rfl⟩ rfl rfl (.cons (.v _) (.cons (.v _) (.cons (.v _) (.cons (.v _) (.cons (m45.rd (i := 26) rfl) (.cons (.v _) (.cons (.v _) (.cons (.v _) (.cons (.v _) (.cons (m45.rd (i := 27) rfl) (.cons (m45.rd (i := 28) rfl) .nil))))))))))) (some j) (keyV_at hj hy) fun w53 m53 _ => ?_
 refine wpAnyE_done (by kernel_rfl) ?_ _
 refine hK4 _ _ ?_
 replace Hz := Hz.oz [4, 7]
 refine zsr fun K5 hK5 => ?_
 refine goCh Hz (.loadBR m53 (i := 29) rfl rfl U44 rfl fct28 (by simp) (by dsimp only [List.drop, List.take] <;> rfl) .nil) fun Az Hz => ?_
 refine plz (stw Hz m53 21 fct28 fun w57 m57 _ => ?_)
 refine znl (hK5 _ _ ?_)
 refine rtd (retC (fn := Tryz.f48) Hz m57 (i := 21) rfl rfl rfl U44 rfl fct28 ?_)
 rw [mpuK_old hj (doV_vo hdo), mpuR_old hj (doV_vo hdo)] at m57
 exact ⟨z, e9, rl, rf, rn, rfl, hdo, hrp, m57.only [1, 2]⟩
end
end Go.Proofs.YtkehgingagggaaaGreat.K
section
namespace Go.Proofs.YtkehgingagggaaaGreat.K
open Go.ChangeShapes Go.WideShapes Go.ChangeAt Go.RowKit Go.Sort
set_option linter.unusedVariables false
set_option linter.unusedSimpArgs false
theorem fl44map : flatS Tryz.prog 44 [.int .i64 0, .int .i64 0, .int .i64 0, .int .i64 0, .slice none 0 0] = true := by kernel_rfl
def idsL (L : List VolV) : List Int := (L.map (·.vo)).mergeSort fun x y => decide (x ≤ y)
theorem ids_len {L : List VolV} : (idsL L).length = (L.map (·.vo)).length := by simp [idsL]
theorem ids_mem {L : List VolV} {id : Int} (h : id ∈ idsL L) : ∃ y ∈ L, y.vo = id := by
 have := (List.mem_mergeSort).1 h
 obtain ⟨y, h1, h2⟩ := List.mem_map.1 this
 exact ⟨y, h1, h2⟩
def allL (L : List VolV) : List VolV := (idsL L).map (fun id => (L.find? (fun y => decide (y.vo = id))).getD volZ)
theorem all_len {L : List VolV} : (allL L).length = (idsL L).length := by simp [allL]
theorem all_at {L : List VolV} {k : Nat} {id : Int} (h : (idsL L)[k]? = some id) : ∃ (j : Nat) (y : VolV), L[j]? = some y ∧ y.vo = id ∧ (allL L)[k]? = some y := by
 obtain ⟨y, h1, h2⟩ := ids_mem (List.mem_of_getElem? h)
 cases hf : L.find? (fun y => decide (y.vo = id)) with
 | none => exact absurd h2 (by simpa using List.find?_eq_none.1 hf y h1)
 | some z =>
   obtain ⟨j, hj⟩ := List.getElem?_of_mem (List.mem_of_find?_eq_some hf)
   refine ⟨j, z, hj, by simpa using List.find?_some hf, ?_⟩
   rw [allL, List.getElem?_map, h]
   show some ((L.find? _).getD volZ) = _
   rw [hf]; rfl
theorem all_snoc9 {L : List VolV} {k : Nat} {y : VolV} (h : (allL L)[k]? = some y) : ((allL L).take (k + 1)).map volD = ((allL L).take k).map volD ++ [volD y] := by
 rw [List.take_add_one, h, List.map_append]; rfl
theorem VolS.cp {n : Nat} {x : VolV} (h : VolS n x) (hn : n ≤ 800000) : x.place.length ≤ 1000000 ∧ x.pins.length ≤ 1000000 ∧ x.ws.length ≤ 1000000 ∧ WrsOk x.ws := by
 have h2 := h.sm
 obtain ⟨g1, g2, g3, g4, g5⟩ := h
 exact ⟨by omega, by omega, by omega, g1.its.1⟩
theorem app_all {α : Type} {l : List α} {x : α} {Q : α → Prop} (h : ∀ e ∈ l, Q e) (hx : Q x) : ∀ e ∈ l ++ [x], Q e := fun e he => by
 rcases List.mem_append.1 he with he | he
 · exact h e he
 simp at he; subst he; exact hx
theorem app_nodup {dn : List MapEntry} {e : MapEntry} (h : (dn.map (·.born)).Nodup) (hn : e.born ∉ dn.map (·.born)) : ((dn ++ [e]).map (·.born)).Nodup := by
 rw [List.map_append]
 refine List.nodup_append.2 ⟨h, by simp, fun a ha b hb => ?_⟩
 simp at hb; subst hb
 intro e9; subst e9; exact hn ha
theorem push_born {dn : List MapEntry} {e : MapEntry} : (dn.map (·.born)).toArray.push e.born = ((dn ++ [e]).map (·.born)).toArray := by simp
theorem ids_perm {dn es : List MapEntry} {ck : Nat} {zs : List Int} {L : List VolV} (h1 : ∀ e ∈ dn, e ∈ es) (h2 : (dn.map (·.born)).Nodup) (h3 : MapK es ck) (h4 : ∀ e ∈ es, e.born ∈ dn.map (·.born)) (h5 : dn.map (·.key) = zs.map (Value.int .i64)) (h6 : es.map (·.key) = L.map keyV) : zs.Perm (L.map (·.vo)) := by
 have hp := (perm_born h1 h2 h3.bn h4).map (·.key)
 rw [h5, h6] at hp
 have hq := hp.map (fun v => match v with | .int _ z => z | _ => 0)
 simpa [List.map_map, Function.comp_def, keyV] using hq
theorem sort_ids {zs : List Int} {L : List VolV} (h : zs.Perm (L.map (·.vo))) : zs.mergeSort (fun x y => decide (x ≤ y)) = idsL L :=
 pins_eq ((List.mergeSort_perm _ _).trans (h.trans (List.mergeSort_perm _ _).symm)) (sortP_sorted _) (sortP_sorted _)
open Classical in
noncomputable def mApp (L : List VolV) (c : Cm) : List VolV × Int × Int × Int × Int :=
 if c.kd = 1 then (if (∃ y ∈ L, y.vo = c.vo) then (L, 29, 0, 0, 0) else if NewOk c.vo c.bl c.sz c.pe c.to c.pl then (L ++ [newV c.vo c.bl c.sz c.pe c.to c.pl], 0, 0, 0, 0) else (L, 23, 0, 0, 0))
 else match L.findIdx? (fun y => decide (y.vo = c.vo)) with
   | none => (L, 28, 0, 0, 0)
   | some j => (L.set j (doV (L.getD j volZ) c).1, (doV (L.getD j volZ) c).2, (repV (doV (L.getD j volZ) c).1 (doV (L.getD j volZ) c).2).1, (repV (doV (L.getD j volZ) c).1 (doV (L.getD j volZ) c).2).2.1, (repV (doV (L.getD j volZ) c).1 (doV (L.getD j volZ) c).2).2.2)
theorem create_x (X : Cx) (B G : Nat) (L : List VolV) (x : Cm) (hR : CmdR x) (hk : x.kd = 1) (pp pi : Option Addr) (cp ni ci : Nat) (w0 : World) (m0 : MemOk X w0 [(1, .box B 87 [.map (some G)]), (2, .mp G 11 ((L).map keyV) ((L).map volD)), (3, .dat (.slice pp x.pl.length cp) (.ns .i64 x.pl)), (4, .dat (.slice pi ni ci) (.l 2 (x.its.map itD)))] w0) :
   Calls Tryz.prog 47 #[.pointer (some ⟨B, 0, none⟩), .agg #[.int .i64 x.kd, .int .i64 x.vo, .int .i64 x.bl, .int .i64 x.sz, .int .i64 x.pe, .slice pp x.pl.length cp, .int .i64 x.to, .int .i64 x.at0, .int .i64 x.ix, .slice pi ni ci]] w0 fun e w' => ∃ (L' : List VolV) (e9 : Int), e = .returned (.int .i64 e9) ∧ mApp L x = (L', e9, 0, 0, 0) ∧ MemOk X w0 [(1, .box B 87 [.map (some G)]), (2, .mp G 11 ((L').map keyV) ((L').map volD))] w' := by
 by_cases hex : ∃ y ∈ L, y.vo = x.vo
 · obtain ⟨y, hy, hv⟩ := hex
   obtain ⟨j, hj⟩ := List.getElem?_of_mem hy
   exact (create_ex X B G L x hR pp pi cp ni ci w0 j y hj hv m0).mono fun e w' h => ⟨L, 29, h.1, by rw [mApp, if_pos hk, if_pos ⟨y, hy, hv⟩], h.2⟩
 have hno : ∀ y ∈ L, y.vo ≠ x.vo := fun y hy e => hex ⟨y, hy, e⟩
 by_cases hN : NewOk x.vo x.bl x.sz x.pe x.to x.pl
 · exact (create_ok X B G L x hR pp pi cp ni ci w0 hno hN m0).mono fun e w' h => ⟨_, 0, h.1, by rw [mApp, if_pos hk, if_neg hex, if_pos hN], h.2⟩
 exact (create_bad X B G L x hR pp pi cp ni ci w0 hno hN m0).mono fun e w' h => ⟨_, 23, h.1, by rw [mApp, if_pos hk, if_neg hex, if_neg hN], h.2⟩
theorem do_x (X : Cx) (B G : Nat) (L : List VolV) (x : Cm) (hR : CmdR x) (pp pi : Option Addr) (cp ni ci : Nat) (w0 : World) (n : Nat) (hn : n ≤ 800000) (hV : ∀ y ∈ L, VolS n y) (hk : ¬ x.kd = 1) (m0 : MemOk X w0 [(1, .box B 87 [.map (some G)]), (2, .mp G 11 ((L).map keyV) ((L).map volD)), (3, .dat (.slice pp x.pl.length cp) (.ns .i64 x.pl)), (4, .dat (.slice pi ni ci) (.l 2 (x.its.map itD)))] w0) :
   Calls Tryz.prog 48 #[.pointer (some ⟨B, 0, none⟩), .agg #[.int .i64 x.kd, .int .i64 x.vo, .int .i64 x.bl, .int .i64 x.sz, .int .i64 x.pe, .slice pp x.pl.length cp, .int .i64 x.to, .int .i64 x.at0, .int .i64 x.ix, .slice pi ni ci]] w0 fun e w' => ∃ (L' : List VolV) (e9 rl rf rn : Int), e = .returned (.agg #[.int .i64 e9, .int .i64 rl, .int .i64 rf, .int .i64 rn, .slice none 0 0]) ∧ mApp L x = (L', e9, rl, rf, rn) ∧ MemOk X w0 [(1, .box B 87 [.map (some G)]), (2, .mp G 11 ((L').map keyV) ((L').map volD))] w' := by
 cases hf : L.findIdx? (fun y => decide (y.vo = x.vo)) with
 | none =>
   have hno : ∀ y ∈ L, y.vo ≠ x.vo := fun y hy => by simpa using List.findIdx?_eq_none_iff.1 hf y hy
   exact (do_no X B G L x hR pp pi cp ni ci w0 hno m0).mono fun e w' h => ⟨_, _, _, _, _, h.1, by rw [mApp, if_neg hk, hf], h.2⟩
 | some j =>
   obtain ⟨hjl, hv, _⟩ := List.findIdx?_eq_some_iff_getElem.1 hf
   have hj : L[j]? = some L[j] := List.getElem?_eq_getElem hjl
   have hv' : L[j].vo = x.vo := by simpa using hv
   refine (do_ex X B G L x hR pp pi cp ni ci w0 n hn hV j L[j] hj hv' m0).mono ?_
   rintro e w' ⟨z, e9, rl, rf, rn, he, hd, hr, hm⟩
   refine ⟨_, _, _, _, _, he, ?_, hm⟩
   have hg : L.getD j volZ = L[j] := by rw [List.getD, hj]; rfl
   rw [mApp, if_neg hk, hf]
   simp only [hg, hd, hr]
set_option maxRecDepth 100000
set_option maxHeartbeats 4000000
theorem apply_x (X : Cx) (B G : Nat) (L : List VolV) (x : Cm) (hR : CmdR x) (hby : ∀ e ∈ x.its, BytesL e.2) (n : Nat) (hn : n ≤ 800000) (hV : ∀ y ∈ L, VolS n y) (p : Option Addr) (c : Nat) (w0 : World) (m0 : MemOk X w0 [(1, .box B 87 [.map (some G)]), (2, .mp G 11 ((L).map keyV) ((L).map volD)), (3, .dat (.slice p (cmE x).length c) (.ns .u8 (cmE x)))] w0) :
   Calls Tryz.prog 14 #[.pointer (some ⟨B, 0, none⟩), .slice p (cmE x).length c] w0 fun e w' => ∃ (L' : List VolV) (e9 rl rf rn : Int), e = .returned (.agg #[.int .i64 e9, .int .i64 rl, .int .i64 rf, .int .i64 rn, .slice none 0 0]) ∧ mApp L x = (L', e9, rl, rf, rn) ∧ MemOk X w0 [(1, .box B 87 [.map (some G)]), (2, .mp G 11 ((L').map keyV) ((L').map volD))] w' := by
 refine ent2 Tryz.func14 rfl Tryz.ntmps14 fun Az Hz => ?_
 refine zsr fun K0 hK0 => ?_
 refine plz (e_alloc Hz m0 20 fct29 rfl fun g1 Az w2 Hz m2 _ _ => ?_)
 refine znl (hK0 _ _ ?_)
 refine zsr fun K1 hK1 => ?_
 refine goCh Hz (.move rfl .nil) fun Az Hz => ?_
 refine plz (ecl Hz Tryz.func28 rfl (readCmd_o _ x hR hby _ _ _ (m2.into [(1, 3)] (by decide) rfl)) ?_)
 rintro e w5 ⟨pp5, pi5, cp5, ci5, rfl, hm5⟩
 have mx5 := m2.back hm5 [(3, 1), (21, 2), (22, 3)] (by decide); clear hm5 m2
 have m5 := mx5.oz [3, 21, 22, 1, 2, 20]
 refine ⟨_, rfl, ?_⟩; intro Az Hz
 refine goCh Hz (.move rfl <| .extract rfl rfl <| .extract rfl rfl .nil) fun Az Hz => ?_
 refine plz (e_alloc Hz m5 23 fct24 rfl fun g10 Az w11 Hz m11 _ _ => ?_)
 refine plz (stw Hz m11 23 fct19 fun w12 m12 _ => ?_)
 refine gz hK1 Hz (.assign rfl .nil) fun Az Hz => ?_
 refine wsk fun K2 hK2 => ?_
 replace Hz := Hz.oz [0, 4, 5, 6]
 refine regS Hz (.move rfl <| .neq rfl rfl .nil) fun Az Hz => ?_
 refine bc Hz 13 ?_ ?_
 · intro hb _; exact absurd hb (by simp)
 clear Hz; intro _ Hz
 refine wcf Hz ?_
 refine zss (hK2 _ _ ?_)
 refine regS Hz (.fa 0 rfl U38 <| .lb m12 23 U3 rfl rfl rfl .nil) fun Az Hz => ?_
 refine wp_block ?_
 refine regS Hz (.eql rfl rfl <| .assign rfl .nil) fun Az Hz => ?_
 refine bc Hz 21 ?_ ?_
 ·
  intro hb22 Hz; try simp only [QQ, Qax] at hb22
  have hk1 : x.kd = 1 := hb22
  refine wct Hz ?_
  replace Hz := Hz.oz [0, 4, 5]
  refine zsr fun K3 hK3 => ?_
  refine goCh Hz (.move rfl <| .loadBR m12 (i := 23) rfl rfl U38 rfl fct19 (by simp) (by dsimp only [List.drop, List.take] <;> rfl) .nil) fun Az Hz => ?_
  refine plz (ecl Hz Tryz.func47 rfl (create_x _ _ _ L x hR hk1 _ _ _ _ _ _ (m12.into [(1, 1), (2, 2), (3, 21), (4, 22)] (by decide) rfl)) ?_)
  rintro e w28 ⟨L', e9, rfl, hap, hm28⟩
  have mx28 := m12.back hm28 [(1, 1), (2, 2)] (by decide); clear hm28 m12
  have m28 := mx28.oz [1, 2, 3, 20, 23]
  refine ⟨_, rfl, ?_⟩; intro Az Hz
  refine goCh Hz (.build rfl fct29 fl44map rfl (by dsimp only [setL, List.set] <;> rfl) .nil) fun Az Hz => ?_
  refine plz (stw Hz m28 20 fct28 fun w31 m31 _ => ?_)
  refine znl (hK3 _ _ ?_)
  refine rtd (retC (fn := Tryz.f14) Hz m31 (i := 20) rfl rfl rfl U44 rfl fct28 ?_)
  exact ⟨_, _, _, _, _, rfl, hap, m31.only [1, 2]⟩
 intro hb22 Hz; try simp only [QQ, Qax] at hb22
 have hk1 : ¬ x.kd = 1 := hb22
 refine wcf Hz ?_
 replace Hz := Hz.oz [0, 4, 5]
 refine zsr fun K4 hK4 => ?_
 refine goCh Hz (.move rfl <| .loadBR m12 (i := 23) rfl rfl U38 rfl fct19 (by simp) (by dsimp only [List.drop, List.take] <;> rfl) .nil) fun Az Hz => ?_
 refine plz (ecl Hz Tryz.func48 rfl (do_x _ _ _ L x hR _ _ _ _ _ _ n hn hV hk1 (m12.into [(1, 1), (2, 2), (3, 21), (4, 22)] (by decide) rfl)) ?_)
 rintro e w37 ⟨L', e9, rl, rf, rn, rfl, hap, hm37⟩
 have mx37 := m12.back hm37 [(1, 1), (2, 2)] (by decide); clear hm37 m12
 have m37 := mx37.oz [1, 2, 3, 20, 23]
 refine ⟨_, rfl, ?_⟩; intro Az Hz
 refine plz (stw Hz m37 20 fct28 fun w39 m39 _ => ?_)
 refine znl (hK4 _ _ ?_)
 refine rtd (retC (fn := Tryz.f14) Hz m39 (i := 20) rfl rfl rfl U44 rfl fct28 ?_)
 exact ⟨_, _, _, _, _, rfl, hap, m39.only [1, 2]⟩
theorem sortI_fr (X : Cx) (p : Option Addr) (c : Nat) (zs : List Int) (w0 : World) (hl : zs.length ≤ 1000000) (m0 : MemOk X w0 [(1, .seg (.slice p zs.length c) 3 1 (zs.map nD))] w0) :
   Calls Tryz.prog 98 #[.slice p zs.length c] w0 fun e w' => e = .returned (.tuple #[]) ∧ MemOk X w0 [(1, .seg (.slice p zs.length c) 3 1 ((zs.mergeSort fun x y => decide (x ≤ y)).map nD))] w' := by
 have hs := (seg_nums (m0.ok 1 _ rfl).1).2
 rcases hs with ⟨e1, h0⟩ | ⟨g, off, cap, cur, e1, -, hb, hnc, hcm, hcs, htk⟩
 · obtain rfl := List.length_eq_zero_iff.1 h0
   refine (AnyG.slices_Sort_int_none Tryz.sortI p c w0).mono ?_
   rintro e w' ⟨rfl, rfl⟩; exact ⟨rfl, by simpa using m0⟩
 injection e1 with h1 h2 h3; subst h1; subst h3
 refine (AnyG.slices_Sort_int Tryz.sortI g off c zs w0 (holds_at hb htk (by omega)) (Array.getElem?_eq_some_iff.1 hb).1 (by omega)).mono ?_
 rintro e w' ⟨rfl, n, os, rfl⟩
 exact ⟨rfl, (m0.putN 1 rfl (zs.mergeSort fun x y => decide (x ≤ y)) (by simp) n os).only [1]⟩
theorem ids_x (X : Cx) (B G : Nat) (L : List VolV) (w0 : World) (hL9 : L.length ≤ 1000) (m0 : MemOk X w0 [(1, .box B 87 [.map (some G)]), (2, .mp G 11 ((L).map keyV) ((L).map volD))] w0) :
   Calls Tryz.prog 51 #[.pointer (some ⟨B, 0, none⟩)] w0 fun e w' => ∃ (p : Option Addr) (c : Nat), e = .returned (.slice p (idsL L).length c) ∧ MemOk X w0 [(1, .box B 87 [.map (some G)]), (2, .mp G 11 ((L).map keyV) ((L).map volD)), (3, .seg (.slice p (idsL L).length c) 3 1 ((idsL L).map nD))] w' := by
 refine ent1 Tryz.func51 rfl Tryz.ntmps51 fun Az Hz => ?_
 refine regS Hz (.assign rfl .nil) fun Az Hz => ?_
 refine regS Hz (.assign rfl .nil) fun Az Hz => ?_
 refine wsk fun K0 hK0 => ?_
 refine zsr fun K1 hK1 => ?_
 refine goCh Hz (.move rfl <| .nilCheck rfl <| .fa 0 rfl U87 <| .lb m0 1 U85 rfl rfl rfl .nil) fun Az Hz => ?_
 obtain ⟨es11, ck11, hks11, hel11, hmk11, m11⟩ := m0.mpOpen (i := 2) rfl
 have hki11 := mpKeys hks11 keyI
 refine plz (e_range Hz m11 20 (i := 2) rfl rfl U85 rfl fun g12 Az w13 Hz m13 => ?_)
 refine znl (hK1 _ _ ?_)
 refine wp_block ?_
 refine wp_loop_ghost (fun g a w => ∃ (dn : List MapEntry) (zs : List Int) (p : Option Addr) (c gi : Nat), (∀ e ∈ dn, e ∈ es11) ∧ (dn.map (·.born)).Nodup ∧ dn.map (·.key) = zs.map (Value.int .i64) ∧ g = es11.length - dn.length ∧ Has 21 [(0, .pointer (some ⟨B, 0, none⟩)), (3, .slice p zs.length c), (9, .pointer (some ⟨gi, 0, none⟩))] a ∧ MemOk X w0 [(1, .box B 87 [.map (some G)]), (2, .mpE G 11 es11 ck11 (L.map volD)), (8, .obj gi (.mapIter (some G) ck11 (dn.map (·.born)).toArray ck11)), (7, .num (.slice p zs.length c) 3 .i64 zs)] w) (es11.length) ?_ ?_
 · have mz := m13.nilN 7 3 .i64
   exact ⟨[], [], _, _, _, (fun e he => by cases he), List.nodup_nil, rfl, rfl, Hz.only [0, 3, 9], mz.ren [(1, 1), (2, 2), (8, 20), (7, 7)] (by decide)⟩
 clear Hz m13
 rintro g Az w14 ⟨dn, zs, p, c, gi, hds, hnb, hdk, hg, Hz, m14⟩
 refine zsr fun K2 hK2 => ?_
 refine plz (e_nextU Hz m14 (i := 2) (i2 := 8) rfl rfl rfl rfl fun b15 tl15 o15 Az w15 Hz m15 hF15 => ?_)
 refine gz hK2 Hz (.extract rfl rfl .nil) fun Az Hz => ?_
 refine wsk fun K3 hK3 => ?_
 refine bc Hz 11 ?_ ?_
 ·
  intro hb17 Hz; try simp only [QQ, Qax] at hb17
  obtain ⟨e9, he9, hb9, ho9⟩ : ∃ e ∈ es11, e.born ∉ (dn.map (·.born)).toArray ∧ o15 = .mapIter (some G) ck11 ((dn.map (·.born)).toArray.push e.born) ck11 := by
    rcases hF15 with ⟨h1, _⟩ | ⟨_, e, h1, h2, h3⟩
    · rw [h1] at hb17; cases hb17
    exact ⟨e, h1, h2, h3⟩
  revert Hz
  subst ho9
  intro Hz
  obtain ⟨z9, hz9⟩ := hki11 e9 he9
  have hb8 : e9.born ∉ dn.map (·.born) := by simpa using hb9
  have hd2 : ∀ e ∈ dn ++ [e9], e ∈ es11 := app_all hds he9
  have hn2 : ((dn ++ [e9]).map (·.born)).Nodup := app_nodup hnb hb8
  refine wct Hz ?_
  refine zss (hK3 _ _ ?_)
  refine wp_block ?_
  refine regS Hz (.c rfl (fun _ h_ => y_entryK h_ m15 (i := 2) (i2 := 8) rfl rfl rfl he9 hz9) <| .extract rfl rfl <| .assign rfl .nil) fun Az Hz => ?_
  refine wp_region_lit ?_
  refine goCh Hz (.move rfl <| .move rfl .nil) fun Az Hz => ?_
  refine plz (e_litN Hz m15 100 (k := .i64) rfl rfl U35 fct17 rfl rfl rfl rfl fun g23 Az w24 Hz m24 => ?_)
  refine plz (e_appN Hz m24 7 rfl rfl rfl (m24.numsO (i := 100) rfl) U35 fct17 (by decide) (by have h8 := sub_len hds hnb; have h9 := congrArg List.length hdk; have h7 := hel11; rw [List.length_map] at h7; rw [List.length_map, List.length_map] at h9; try simp only [List.length_cons, List.length_nil]; omega) rfl fun p25 c25 Az w26 Hz m26 => ?_)
  refine goCh Hz (.assign rfl .nil) fun Az Hz => ?_
  refine wpList_nil ?_
  show ∃ n', n' < _ ∧ _
  rw [push_born] at m26
  exact ⟨es11.length - (dn.length + 1), by have := sub_len hd2 hn2; rw [List.length_append, List.length_singleton] at this; omega, dn ++ [e9], zs ++ [z9], _, _, _, hd2, hn2, by rw [List.map_append, List.map_append, hdk]; exact congrArg (_ ++ [·]) hz9, by rw [List.length_append, List.length_singleton], Hz.only [0, 3, 9], m26.only [1, 2, 8, 7]⟩
 intro hb17 Hz; try simp only [QQ, Qax] at hb17
 have hall : ∀ e ∈ es11, e.born ∈ dn.map (·.born) := by
   rcases hF15 with ⟨_, h1⟩ | ⟨h1, _⟩
   · intro e he; simpa using h1 e he
   rw [h1] at hb17; cases hb17
 have hpm : zs.Perm (L.map (·.vo)) := ids_perm hds hnb hmk11 hall hdk hks11
 refine wcf Hz ?_
 refine wp_exit ?_
 refine hK0 _ _ ?_
 refine zsr fun K4 hK4 => ?_
 refine goCh Hz (.move rfl .nil) fun Az Hz => ?_
 have m30 := m15.numS 7 rfl
 refine plz (ecl Hz Tryz.func98 rfl (sortI_fr _ _ _ zs _ (by rw [hpm.length_eq, List.length_map]; omega) (m30.into [(1, 7)] (by decide) rfl)) ?_)
 rintro e w31 ⟨rfl, hm31⟩
 have mx31 := m30.back hm31 [(7, 1)] (by decide); clear hm31 m30
 have m31 := mx31.oz [7, 1, 2, 8]
 refine ⟨_, rfl, ?_⟩; intro Az Hz
 refine znl (hK4 _ _ ?_)
 refine regS Hz (.move rfl <| .assign rfl .nil) fun Az Hz => ?_
 refine rt1 Hz ?_
 have m35 := m31.mpClose (i := 2) rfl
 rw [hks11] at m35
 rw [sort_ids hpm] at m35
 rw [hpm.length_eq, ← ids_len]
 rw [hpm.length_eq, ← ids_len] at m35
 exact ⟨_, _, rfl, m35.ren [(1, 1), (2, 2), (3, 7)] (by decide)⟩
theorem all_x (X : Cx) (B G : Nat) (L : List VolV) (w0 : World) (n : Nat) (hn : n ≤ 800000) (hV : ∀ y ∈ L, VolS n y) (hL9 : L.length ≤ 1000) (m0 : MemOk X w0 [(1, .box B 87 [.map (some G)]), (2, .mp G 11 ((L).map keyV) ((L).map volD))] w0) :
   Calls Tryz.prog 17 #[.pointer (some ⟨B, 0, none⟩)] w0 fun e w' => ∃ (p : Option Addr) (c : Nat), e = .returned (.slice p ((allL L).map volD).length c) ∧ MemOk X w0 [(1, .box B 87 [.map (some G)]), (2, .mp G 11 ((L).map keyV) ((L).map volD)), (3, .dat (.slice p ((allL L).map volD).length c) (.l 11 ((allL L).map volD)))] w' := by
 refine ent1 Tryz.func17 rfl Tryz.ntmps17 fun Az Hz => ?_
 refine regS Hz (.assign rfl .nil) fun Az Hz => ?_
 refine regS Hz (.assign rfl .nil) fun Az Hz => ?_
 refine wsk fun K0 hK0 => ?_
 refine zsr fun K1 hK1 => ?_
 refine goCh Hz (.move rfl .nil) fun Az Hz => ?_
 refine plz (ecl Hz Tryz.func51 rfl (ids_x _ _ _ L _ hL9 (m0.into [(1, 1), (2, 2)] (by decide) rfl)) ?_)
 rintro e w5 ⟨p5, c5, rfl, hm5⟩
 have mx5 := m0.back hm5 [(1, 1), (2, 2), (9, 3)] (by decide); clear hm5 m0
 have m5 := mx5.oz [1, 2, 9]
 refine ⟨_, rfl, ?_⟩; intro Az Hz
 refine gz hK1 Hz (.len rfl U35 <| .move rfl <| .nil) fun Az Hz => ?_
 refine wp_block ?_
 refine wp_loop_ghost (fun g a w => ∃ (k : Nat) (p q : Option Addr) (c d : Nat), k ≤ (idsL L).length ∧ g = (idsL L).length - k ∧ Has 25 [(0, .pointer (some ⟨B, 0, none⟩)), (3, .slice p (((allL L).take k).map volD).length c), (7, .slice q (idsL L).length d), (8, .int .i64 (idsL L).length), (9, .int .i64 k)] a ∧ MemOk X w0 [(1, .box B 87 [.map (some G)]), (2, .mp G 11 ((L).map keyV) ((L).map volD)), (9, .seg (.slice q (idsL L).length d) 3 1 ((idsL L).map nD)), (8, .row (.slice p (((allL L).take k).map volD).length c) 51 11 (((allL L).take k).map volD))] w) ((idsL L).length) ?_ ?_
 · have mz := m5.nilR 8 51 11
   exact ⟨0, _, _, _, _, Nat.zero_le _, rfl, Hz.only [0, 3, 7, 8, 9], mz.ren [(1, 1), (2, 2), (9, 9), (8, 8)] (by decide)⟩
 clear Hz m5
 rintro g Az w9 ⟨k, p, q, c, d, hkl, hg, Hz, m9⟩
 refine regS Hz (.lss rfl rfl .nil) fun Az Hz => ?_
 refine wsk fun K2 hK2 => ?_
 refine bc Hz 10 ?_ ?_
 ·
  intro hb11 Hz; try simp only [QQ, Qax] at hb11
  have hk : k < (idsL L).length := by omega
  obtain ⟨id, hid⟩ : ∃ z, (idsL L)[k]? = some z := ⟨_, List.getElem?_eq_getElem hk⟩
  obtain ⟨j, y, hj, hy, hay⟩ := all_at hid
  have hys := (hV y (List.mem_of_getElem? hj)).cp hn
  have hll : (idsL L).length = L.length := by rw [ids_len, List.length_map]
  refine wct Hz ?_
  refine zss (hK2 _ _ ?_)
  refine wsk fun K3 hK3 => ?_
  refine wp_block ?_
  refine zsr fun K4 hK4 => ?_
  obtain ⟨gs13, os13, vs13, hp13, hl13, hR13, hsg13⟩ := m9.openS (i := 9) rfl (k) (r := [.v (.int .i64 id)]) (by rw [List.getElem?_map, hid]; rfl)
  revert Hz
  cases hp13
  rcases hR13 with _ | ⟨hd13_0, _ | _⟩
  obtain rfl := hd13_0.v_out
  clear hd13_0
  intro Hz
  refine gz hK4 Hz (.c rfl (fun _ h_ => y_idx h_ rfl rfl U35 fct15 (k) rfl (by omega)) <| .loadAt1 hsg13 (q := 0) rfl rfl rfl U3 rfl <| .assign rfl <| .nil) fun Az Hz => ?_
  refine wp_region_lit ?_
  refine goCh Hz (.move rfl <| .move rfl <| .nilCheck rfl <| .fa 0 rfl U87 <| .lb m9 1 U85 rfl rfl rfl <| .move rfl .nil) fun Az Hz => ?_
  obtain ⟨es23, ck23, hks23, hel23, hmk23, m23⟩ := m9.mpOpen (i := 2) rfl
  clear m9 hel23 hmk23
  have hki23 := mpKeys hks23 keyI
  obtain ⟨e23, vs23, he23, hev23, hR23, ho23, hvl23⟩ := m23.mpeAt (i := 2) rfl (r := [.v (.int .i64 y.vo), .v (.int .i64 y.bl), .v (.int .i64 y.sz), .v (.int .i64 y.pe), .ns .i64 y.place, .v (.int .i64 y.to), .v (.int .i64 y.ne), .v (.bool y.hi), .v (.int .i64 y.fl), .ns .i64 y.pins, .l 2 (y.ws.map wrD)]) (volD_get hj)
  have hek23 := mpKey hks23 he23 (keyV_get hj)
  clear ho23 hvl23
  revert Hz
  rcases hR23 with _ | ⟨hd23_0, _ | ⟨hd23_1, _ | ⟨hd23_2, _ | ⟨hd23_3, _ | ⟨hd23_4, _ | ⟨hd23_5, _ | ⟨hd23_6, _ | ⟨hd23_7, _ | ⟨hd23_8, _ | ⟨hd23_9, _ | ⟨hd23_10, _ | _⟩⟩⟩⟩⟩⟩⟩⟩⟩⟩⟩
  obtain rfl := hd23_0.v_out
  clear hd23_0
  obtain rfl := hd23_1.v_out
  clear hd23_1
  obtain rfl := hd23_2.v_out
  clear hd23_2
  obtain rfl := hd23_3.v_out
  clear hd23_3
  obtain ⟨p24, c24, hv24, hc24⟩ := hd23_4.ns_shape; subst hv24
  intro Hz
  have m24 := m23.dat 100 rfl (hd23_4.cast (fun _ h => h)); clear m23 hd23_4
  revert Hz
  obtain rfl := hd23_5.v_out
  clear hd23_5
  obtain rfl := hd23_6.v_out
  clear hd23_6
  obtain rfl := hd23_7.v_out
  clear hd23_7
  obtain rfl := hd23_8.v_out
  clear hd23_8
  obtain ⟨p25, c25, hv25, hc25⟩ := hd23_9.ns_shape; subst hv25
  intro Hz
  have m25 := m24.dat 101 rfl (hd23_9.cast (fun _ h => (free_add rfl h))); clear m24 hd23_9
  revert Hz
  obtain ⟨p26, c26, hv26, hc26⟩ := hd23_10.l_shape; subst hv26
  intro Hz
  have m26 := m25.dat 102 rfl (hd23_10.cast (fun _ h => (free_add rfl (free_add rfl h)))); clear m25 hd23_10
  refine goCh Hz (.c rfl (fun _ h_ => y_lookE1 h_ m26 (i := 2) rfl rfl rfl U85 (KeyT.int (q := .i64) U3) hki23 he23 (hek23.trans (keyV_eq hy)) hev23) .nil) fun Az Hz => ?_
  refine plz (ecl Hz Tryz.func52 rfl (volcopy_any y.vo y.bl y.sz y.pe y.to y.ne y.fl y.hi y.place y.pins y.ws _ _ _ _ _ _ _ _ ((m26.rd (i := 100) rfl).any) ((m26.rd (i := 101) rfl).any) ((m26.rd (i := 102) rfl).any) hys.1 hys.2.1 hys.2.2.1 hys.2.2.2) ?_)
  rintro e w28 ⟨pa28, ca28, pb28, cb28, pc28, cc28, rfl, ha28, hb28, hc28, hd28⟩
  have m29 := m26.callF3 103 104 105 rfl rfl rfl hd28 ha28 hb28 hc28
  clear ha28 hb28 hc28 hd28
  refine ⟨_, rfl, ?_⟩; intro Az Hz
  refine plz (e_litR Hz m29 106 (mm := 11) rfl (.cons rfl rfl (.cons (.v _) (.cons (.v _) (.cons (.v _) (.cons (.v _) (.cons (m29.rd (i := 103) rfl) (.cons (.v _) (.cons (.v _) (.cons (.v _) (.cons (.v _) (.cons (m29.rd (i := 104) rfl) (.cons (m29.rd (i := 105) rfl) .nil))))))))))) .nil) U30 fct34 rfl rfl rfl rfl rfl fun g31 Az w32 Hz m32 => ?_)
  have m34 := m32.freezeR 106 rfl
  refine plz (e_appR Hz m34 8 rfl rfl rfl (m34.rd (i := 106) rfl) U30 fct34 rfl rfl (by decide) (by have h8 : ((allL L).take k).length ≤ k := List.length_take_le _ _; rw [List.length_map]; try simp only [List.length_cons, List.length_nil]; omega) rfl fun p33 c33 Az w35 Hz m35 => ?_)
  refine gz hK3 Hz (.assign rfl .nil) fun Az Hz => ?_
  replace Hz := Hz.oz [0, 3, 7, 8, 9]
  refine wp_region_lit ?_
  refine goCh Hz (.inc (k + 1) <| .move rfl .nil) fun Az Hz => ?_
  refine wpList_nil ?_
  show ∃ n', n' < _ ∧ _
  have m40 := m35.mpClose (i := 2) rfl
  rw [hks23] at m40
  have hE : ((allL L).take k).map volD ++ [[.v (.int .i64 y.vo), .v (.int .i64 y.bl), .v (.int .i64 y.sz), .v (.int .i64 y.pe), .ns .i64 y.place, .v (.int .i64 y.to), .v (.int .i64 y.ne), .v (.bool y.hi), .v (.int .i64 y.fl), .ns .i64 y.pins, .l 2 (y.ws.map wrD)]] = ((allL L).take (k + 1)).map volD := (all_snoc9 hay).symm
  rw [hE] at m40 Hz
  exact ⟨(idsL L).length - (k + 1), by omega, k + 1, _, _, _, _, by omega, rfl, Hz.only [0, 3, 7, 8, 9], m40.ren [(1, 1), (2, 2), (9, 9), (8, 8)] (by decide)⟩
 intro hb11 Hz; try simp only [QQ, Qax] at hb11
 revert Hz
 obtain rfl : k = (idsL L).length := by omega
 intro Hz
 refine wcf Hz ?_
 refine wp_exit ?_
 refine hK0 _ _ ?_
 refine regS Hz (.move rfl <| .assign rfl .nil) fun Az Hz => ?_
 refine rt1 Hz ?_
 have m43 := m9.freezeR 8 rfl
 rw [show (allL L).take (idsL L).length = allL L from List.take_of_length_le (by rw [all_len]; exact Nat.le_refl _)] at m43 ⊢
 exact ⟨_, _, rfl, m43.ren [(1, 1), (2, 2), (3, 8)] (by decide)⟩
end Go.Proofs.YtkehgingagggaaaGreat.K
end
