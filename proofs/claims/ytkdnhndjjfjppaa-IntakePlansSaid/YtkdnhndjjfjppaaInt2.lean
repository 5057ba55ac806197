/- intake: copies, what is left of a plan, the plan of a whole stream. -/
import Derived.Test.YtkdnhndjjfjppaaInt1
namespace Go.Proofs.Ytkdnhndjjfjppaa.K
open Go.ChangeShapes Go.WideShapes Go.ChangeAt Go.RowKit
set_option linter.unusedVariables false
set_option linter.unusedSimpArgs false
structure RC where
 kd : Int
 vo : Int
 bl : Int
 sz : Int
 pe : Int
 pl : List Int
 to : Int
 at0 : Int
 ix : Int
 its : List (Int × List Int)
def cmdD (c : RC) : List D := [.v (.int .i64 c.kd), .v (.int .i64 c.vo), .v (.int .i64 c.bl), .v (.int .i64 c.sz), .v (.int .i64 c.pe), .ns .i64 c.pl, .v (.int .i64 c.to), .v (.int .i64 c.at0), .v (.int .i64 c.ix), .l 2 (c.its.map itD)]
theorem cmdD_get {A : List RC} {k : Nat} {c : RC} (h : A[k]? = some c) : (A.map cmdD)[k]? = some [.v (.int .i64 c.kd), .v (.int .i64 c.vo), .v (.int .i64 c.bl), .v (.int .i64 c.sz), .v (.int .i64 c.pe), .ns .i64 c.pl, .v (.int .i64 c.to), .v (.int .i64 c.at0), .v (.int .i64 c.ix), .l 2 (c.its.map itD)] := by simp [h, cmdD]
def chunkI (its : List (Int × List Int)) (n k : Nat) : List (Int × List Int) := (its.take (min ((k + 1) * n) its.length)).drop (k * n)
theorem chunkI_mem {its : List (Int × List Int)} {n k : Nat} {e : Int × List Int} (h : e ∈ chunkI its n k) : e ∈ its := List.mem_of_mem_take (List.mem_of_mem_drop h)
theorem chunkI_len {its : List (Int × List Int)} {n k : Nat} : (chunkI its n k).length ≤ its.length := by rw [chunkI, List.length_drop, List.length_take]; omega
def impR (vo : Int) (its : List (Int × List Int)) (n k : Nat) : RC := ⟨6, vo, 0, 0, 0, [], 0, 0, k, chunkI its n k⟩
def planH (vo pe : Int) (pl : List Int) (bl sz : Int) (T : Nat) : RC := ⟨1, vo, bl, sz, pe, pl, T, 0, 0, []⟩
def planL (vo pe : Int) (pl : List Int) (bl sz : Int) (its : List (Int × List Int)) (n T : Nat) : List RC := (planH vo pe pl bl sz T :: (List.range T).map (impR vo its n)) ++ [⟨7, vo, 0, 0, 0, [], 0, 0, 0, []⟩]
theorem planL_len (vo pe : Int) (pl : List Int) (bl sz : Int) (its : List (Int × List Int)) (n T : Nat) : (planL vo pe pl bl sz its n T).length = T + 2 := by simp [planL]
theorem plan_T {bl : Int} {n T : Nat} (h1 : 1 ≤ n) (hb : 1 ≤ bl ∧ bl ≤ 256) (hT : (bl + (n : Int) - 1) / (n : Int) = (T : Int)) : T ≤ 256 := by
 have q1 : (bl + (n : Int) - 1) / (n : Int) < bl + 1 := Int.ediv_lt_of_lt_mul (by omega) (by
   have : bl * 1 ≤ bl * (n : Int) := Int.mul_le_mul_of_nonneg_left (by omega) (by omega)
   rw [Int.add_mul]; omega)
 omega
theorem plan_math {bl : Int} {n T k : Nat} {its : List (Int × List Int)} (h1 : 1 ≤ n) (h8 : n ≤ 8) (hT : (bl + (n : Int) - 1) / (n : Int) = (T : Int)) (hTb : T ≤ 256) (hil : (its.length : Int) = bl) (hk : k < T) : k * n < its.length ∧ (k : Int) * (n : Int) = ((k * n : Nat) : Int) ∧ ((k + 1 : Nat) : Int) * (n : Int) = (((k + 1) * n : Nat) : Int) ∧ (k + 1) * n ≤ 2048 ∧ k * n ≤ (k + 1) * n := by
 have q1 := Int.ediv_mul_le (bl + (n : Int) - 1) (show (n : Int) ≠ 0 by omega)
 rw [hT] at q1
 have q2 : ((k + 1 : Nat) : Int) * (n : Int) ≤ (T : Int) * (n : Int) := Int.mul_le_mul_of_nonneg_right (by omega) (by omega)
 have e1 : (k : Int) * (n : Int) = ((k * n : Nat) : Int) := (Int.natCast_mul k n).symm
 have e2 : ((k + 1 : Nat) : Int) * (n : Int) = (((k + 1) * n : Nat) : Int) := (Int.natCast_mul (k + 1) n).symm
 have e3 : (k + 1) * n = k * n + n := Nat.succ_mul k n
 have q3 : (k + 1) * n ≤ 256 * 8 := Nat.mul_le_mul (by omega) h8
 exact ⟨by omega, e1, e2, by omega, by omega⟩
theorem outS {S : Nat → Prop} {w0 w : World} {M : Mm} (m : MemOk (cx S w0) w0 M w) {i : Nat} {v : Value} {d : D} (h : lk M i = some (.dat v d)) : Rd (Out S w0) w v d := (m.ok i _ h : Rd _ _ _ _).cast (fun b hb => by
 by_cases hlt : b < w0.heap.size
 · exact .inl (hb.1 hlt)
 exact .inr (by omega))
theorem vnew_y (kd vo bl sz pe to at0 ix : Int) (place : List Int) (pp pi : Option Addr) (cp ni ci : Nat) (w0 : World) (h0 : Rd (fun _ => True) w0 (.slice pp place.length cp) (.ns .i64 place)) (hn : place.length ≤ 1000000) (hN : NewOk vo bl sz pe to place) :
   Calls Try.prog 26 #[.agg #[.int .i64 kd, .int .i64 vo, .int .i64 bl, .int .i64 sz, .int .i64 pe, .slice pp place.length cp, .int .i64 to, .int .i64 at0, .int .i64 ix, .slice pi ni ci]] w0 fun e w' => ∃ p c, e = .returned (.tuple #[.agg #[.int .i64 vo, .int .i64 bl, .int .i64 sz, .int .i64 pe, .slice p place.length c, .int .i64 to, .int .i64 0, .bool (decide (0 < to)), .int .i64 0, .slice none 0 0, .slice none 0 0], .int .i64 0]) ∧ Rd (New w0) w' (.slice p place.length c) (.ns .i64 place) ∧ Below w0.heap.size w0 w' :=
 (vnew_any kd vo bl sz pe to at0 ix place pp pi cp ni ci w0 h0 hn).mono (fun _ _ h => h.elim (fun h => h.2) (fun h => absurd hN h.1))
theorem vnew_n (kd vo bl sz pe to at0 ix : Int) (place : List Int) (pp pi : Option Addr) (cp ni ci : Nat) (w0 : World) (h0 : Rd (fun _ => True) w0 (.slice pp place.length cp) (.ns .i64 place)) (hn : place.length ≤ 1000000) (hN : ¬ NewOk vo bl sz pe to place) :
   Calls Try.prog 26 #[.agg #[.int .i64 kd, .int .i64 vo, .int .i64 bl, .int .i64 sz, .int .i64 pe, .slice pp place.length cp, .int .i64 to, .int .i64 at0, .int .i64 ix, .slice pi ni ci]] w0 fun e w' => e = .returned (.tuple #[.agg #[.int .i64 0, .int .i64 0, .int .i64 0, .int .i64 0, .slice none 0 0, .int .i64 0, .int .i64 0, .bool false, .int .i64 0, .slice none 0 0, .slice none 0 0], .int .i64 23]) ∧ Below w0.heap.size w0 w' :=
 (vnew_any kd vo bl sz pe to at0 ix place pp pi cp ni ci w0 h0 hn).mono (fun _ _ h => h.elim (fun h => absurd h.1 hN) (fun h => h.2))
set_option maxRecDepth 100000
set_option maxHeartbeats 4000000
theorem copied_any (cs : List RC) (pc : Option Addr) (cc : Nat) (w0 : World) (h1 : Rd (fun _ => True) w0 (.slice pc cs.length cc) (.l 10 (cs.map cmdD))) (hl : cs.length ≤ 1000000) (hok : ∀ c ∈ cs, c.pl.length ≤ 1000000 ∧ c.its.length ≤ 1000000 ∧ ItsOk c.its) :
   Calls Try.prog 34 #[.slice pc cs.length cc] w0 fun e w' => ∃ p c, e = .returned (.slice p cs.length c) ∧ Rd (New w0) w' (.slice p cs.length c) (.l 10 (cs.map cmdD)) ∧ Below w0.heap.size w0 w' := by
 refine ent1 Try.func34 rfl Try.ntmps34 fun Az Hz => ?_
 have m0 := MemOk.start (fun _ => False) w0
 refine regS Hz (.assign rfl <| .nil) ?_
 clear Hz Az; intro Az Hz
 refine regS Hz (.assign rfl <| .nil) ?_
 clear Hz Az; intro Az Hz
 refine wp_seq_k (fun K0 hK0 => ?_)
 refine regS Hz (.move rfl <| .len rfl U31 <| .move rfl <| .nil) ?_
 clear Hz Az; intro Az Hz
 refine wp_block ?_
 refine wp_loop_ghost (fun g a w => ∃ (k : Nat) (p : Option Addr) (c : Nat), k ≤ cs.length ∧ g = cs.length - k ∧ Has 26 [(3, .slice p ((cs.take k).map cmdD).length c), (6, .slice pc cs.length cc), (7, .int .i64 cs.length), (8, .int .i64 k)] a ∧ MemOk (cn w0) w0 [(9, .row (.slice p ((cs.take k).map cmdD).length c) 57 10 ((cs.take k).map cmdD))] w) (cs.length) ?_ ?_
 · have mz := m0.nilR 9 57 10
   exact ⟨0, _, _, Nat.zero_le _, rfl, Hz.only [3, 6, 7, 8], mz.only [9]⟩
 clear Hz m0
 rintro g Az w6 ⟨k, p, c, hkl, hg, Hz, m6⟩
 refine regS Hz (.lss rfl rfl <| .nil) ?_
 clear Hz Az; intro Az Hz
 refine wp_seq_k (fun K1 hK1 => ?_)
 refine bool_cases Hz (t := 9) rfl ?_ ?_
 ·
  clear Hz; intro hb8 Hz; try simp only [QQ, Qax] at hb8
  have hk : k < cs.length := by have := hb8; first | omega | (simp at this; omega)
  obtain ⟨c9, hes⟩ : ∃ e, cs[k]? = some e := ⟨_, List.getElem?_eq_getElem hk⟩
  have hc9 := hok _ (List.mem_of_getElem? hes)
  have hc91 := hc9.1
  refine wp_cond_true (Hz.ev (x := .tmp 9) rfl) ?_
  refine zss (hK1 _ _ ?_); clear hK1
  refine wp_seq_k (fun K2 hK2 => ?_)
  refine wp_block ?_
  refine zsr fun K3 hK3 => ?_
  obtain ⟨gx10, ox10, vx10, hp10, hl10, hR10, hrg10⟩ := h1.extA (k) (r := [.v (.int .i64 c9.kd), .v (.int .i64 c9.vo), .v (.int .i64 c9.bl), .v (.int .i64 c9.sz), .v (.int .i64 c9.pe), .ns .i64 c9.pl, .v (.int .i64 c9.to), .v (.int .i64 c9.at0), .v (.int .i64 c9.ix), .l 2 (c9.its.map itD)]) (cmdD_get hes)
  cases hp10; clear hl10
  rcases hR10 with _ | ⟨hd10_0, _ | ⟨hd10_1, _ | ⟨hd10_2, _ | ⟨hd10_3, _ | ⟨hd10_4, _ | ⟨hd10_5, _ | ⟨hd10_6, _ | ⟨hd10_7, _ | ⟨hd10_8, _ | ⟨hd10_9, _ | _⟩⟩⟩⟩⟩⟩⟩⟩⟩⟩
  obtain rfl := hd10_0.v_out
  clear hd10_0
  obtain rfl := hd10_1.v_out
  clear hd10_1
  obtain rfl := hd10_2.v_out
  clear hd10_2
  obtain rfl := hd10_3.v_out
  clear hd10_3
  obtain rfl := hd10_4.v_out
  clear hd10_4
  obtain ⟨p11, c11, hv11, hw11⟩ := hd10_5.ns_shape; subst hv11
  obtain rfl := hd10_6.v_out
  clear hd10_6
  obtain rfl := hd10_7.v_out
  clear hd10_7
  obtain rfl := hd10_8.v_out
  clear hd10_8
  obtain ⟨p12, c12, hv12, hw12⟩ := hd10_9.l_shape; subst hv12
  refine goCh Hz (.c rfl (fun _ h => y_idx h rfl rfl U31 fct1 (k) rfl hk) <| .loadAt (hrg10 m6 rfl) rfl U57 rfl fct1 <| .nil) ?_
  clear Hz Az; intro Az Hz
  refine wpList_plain rfl (fun K hK => ?_)
  refine e_alloc Hz m6 102 fct7 rfl ?_
  clear Hz Az m6; intro g15 Az w16 Hz m16 hB16 hg16
  clear hB16 hg16
  refine hK _ _ ?_; clear hK
  refine wpList_plain rfl (fun K hK => ?_)
  refine e_storeW Hz m16 102 rfl rfl rfl rfl rfl fct1 ?_
  clear m16; intro w17 m17 hB17
  clear hB17
  refine hK _ _ ?_; clear hK
  refine znl (hK3 _ _ ?_); clear hK3
  refine zsr fun K4 hK4 => ?_
  refine goCh Hz (.fa 5 rfl U57 <| .lb m17 102 U26 rfl rfl rfl <| .nil) ?_
  clear Hz Az; intro Az Hz
  refine wpList_plain rfl (fun K hK => ?_)
  refine e_app0N Hz m17 103 rfl rfl (hd10_5.now' m17 rfl).ns_out.nums U26 fct3 (by decide) (by omega) rfl ?_
  clear Hz Az m17; intro p22 c22 Az w23 Hz m23
  refine hK _ _ ?_; clear hK
  refine goCh Hz (.fieldAddr (off := 5) rfl U57 rfl (s := 0) (by kernel_rfl) rfl .nil) ?_
  clear Hz Az; intro Az Hz
  refine wpList_plain rfl (fun K hK => ?_)
  refine e_store1 Hz m23 102 rfl rfl rfl rfl rfl fct17 (by dsimp only [List.set] <;> rfl) ?_
  clear m23; intro w25 m25 hB25
  clear hB25
  refine hK _ _ ?_; clear hK
  refine znl (hK4 _ _ ?_); clear hK4
  replace Hz : Has 26 [(3, _), (6, _), (7, _), (8, _), (5, _)] Az := Hz.only [3, 6, 7, 8, 5]
  refine zsr fun K5 hK5 => ?_
  refine goCh Hz (.fa 9 rfl U57 <| .lb m25 102 U22 rfl rfl rfl <| .nil) ?_
  clear Hz Az; intro Az Hz
  refine wpList_plain rfl (fun K hK => ?_)
  refine e_call Hz Try.func28 rfl rfl rfl rfl (items_any c9.its _ _ _ _ ((hd10_9.now' m25 rfl).any) hc9.2.1 hc9.2.2) ?_
  rintro e w31 ⟨p31, c31, rfl, hd31, hb31⟩
  have m32 := m25.callF 104 rfl hb31 hd31
  clear m25
  clear hb31 hd31
  refine ⟨_, rfl, ?_⟩; clear Hz Az; intro Az Hz
  refine hK _ _ ?_; clear hK
  refine goCh Hz (.fieldAddr (off := 9) rfl U57 rfl (s := 0) (by kernel_rfl) rfl .nil) ?_
  clear Hz Az; intro Az Hz
  refine wpList_plain rfl (fun K hK => ?_)
  refine e_store1 Hz m32 102 rfl rfl rfl rfl rfl fct16 (by dsimp only [List.set] <;> rfl) ?_
  clear m32; intro w35 m35 hB35
  clear hB35
  refine hK _ _ ?_; clear hK
  refine znl (hK5 _ _ ?_); clear hK5
  refine wp_region_lit ?_
  refine goCh Hz (.move rfl <| .loadBR m35 (i := 102) rfl rfl U57 rfl fct1 (by simp) (by dsimp only [List.drop, List.take] <;> rfl) <| .nil) ?_
  clear Hz Az; intro Az Hz
  have m39 := m35.freezeN 103 rfl; clear m35
  refine wpList_plain rfl (fun K hK => ?_)
  refine e_litR Hz m39 105 (mm := 10) rfl (.cons rfl rfl (.cons (.v _) (.cons (.v _) (.cons (.v _) (.cons (.v _) (.cons (.v _) (.cons (m39.rd (i := 103) rfl) (.cons (.v _) (.cons (.v _) (.cons (.v _) (.cons (m39.rd (i := 104) rfl) .nil)))))))))) <| .nil) U31 fct8 rfl rfl rfl rfl rfl ?_
  clear Hz Az m39; intro g38 Az w40 Hz m40
  refine hK _ _ ?_; clear hK
  have m42 := m40.freezeR 105 rfl; clear m40
  refine wpList_plain rfl (fun K hK => ?_)
  refine e_appR Hz m42 9 rfl rfl rfl (m42.rd (i := 105) rfl) U31 fct8 rfl rfl (by decide) (by rw [List.length_map, List.length_take]; simp; omega) rfl ?_
  clear Hz Az m42; intro p41 c41 Az w43 Hz m43
  refine hK _ _ ?_; clear hK
  refine goCh Hz (.assign rfl .nil) ?_
  clear Hz Az; intro Az Hz
  refine znl (hK2 _ _ ?_); clear hK2
  replace Hz : Has 26 [(3, _), (6, _), (7, _), (8, _)] Az := Hz.only [3, 6, 7, 8]
  refine wp_region_lit ?_
  refine goCh Hz (.add rfl rfl (r := ((k + 1 : Nat) : Int)) (by rw [IntWalk.i64_in _ (by omega)]; omega) <| .move rfl <| .nil) ?_
  clear Hz Az; intro Az Hz
  refine wpList_nil ?_
  show ∃ n', n' < _ ∧ _
  have hE : (cs.take k).map cmdD ++ [[.v (.int .i64 c9.kd), .v (.int .i64 c9.vo), .v (.int .i64 c9.bl), .v (.int .i64 c9.sz), .v (.int .i64 c9.pe), .ns .i64 c9.pl, .v (.int .i64 c9.to), .v (.int .i64 c9.at0), .v (.int .i64 c9.ix), .l 2 (c9.its.map itD)]] = (cs.take (k + 1)).map cmdD := by rw [take_snoc hes, List.map_append]; rfl
  rw [hE] at m43 Hz
  exact ⟨cs.length - (k + 1), by omega, k + 1, _, _, by omega, rfl, Hz.only [3, 6, 7, 8], m43.ren [(9, 9)] (by decide)⟩
 clear Hz; intro hb8 Hz; try simp only [QQ, Qax] at hb8
 have hke : k = cs.length := by have := hb8; first | omega | (simp at this; omega)
 refine wp_cond_false (Hz.ev (x := .tmp 9) rfl) ?_
 refine wp_exit ?_
 refine hK0 _ _ ?_; clear hK0
 refine regS Hz (.move rfl <| .assign rfl <| .nil) ?_
 clear Hz Az; intro Az Hz
 refine wp_ret ?_
 try dsimp only [Exit.then, Exit.inBlock]
 refine (ret1 (fn := Try.f34) Hz rfl rfl ?_)
 have m50 := m6.freezeR 9 rfl; clear m6
 rw [hke, List.take_length, List.length_map] at m50
 rw [hke, List.take_length]
 exact ⟨_, _, by rw [List.length_map], m50.outF (i := 9) rfl, m50.below⟩
theorem rest_no (cs : List RC) (pc : Option Addr) (cc : Nat) (w0 : World) (h1 : Rd (fun _ => True) w0 (.slice pc cs.length cc) (.l 10 (cs.map cmdD))) (hl : cs.length ≤ 1000000) (hok : ∀ c ∈ cs, c.pl.length ≤ 1000000 ∧ c.its.length ≤ 1000000 ∧ ItsOk c.its) (vo bl sz pe to ne fl : Int) (pp pn pw : Option Addr) (np cp nn9 cn9 nw cw : Nat) (hi : Bool) :
   Calls Try.prog 14 #[.slice pc cs.length cc, .agg #[.int .i64 vo, .int .i64 bl, .int .i64 sz, .int .i64 pe, .slice pp np cp, .int .i64 to, .int .i64 ne, .bool hi, .int .i64 fl, .slice pn nn9 cn9, .slice pw nw cw], .bool false] w0 fun e w' => ∃ p c, e = .returned (.slice p cs.length c) ∧ Rd (New w0) w' (.slice p cs.length c) (.l 10 (cs.map cmdD)) ∧ Below w0.heap.size w0 w' := by
 refine ent3 Try.func14 rfl Try.ntmps14 fun Az Hz => ?_
 have m0 := MemOk.start (fun _ => False) w0
 refine zsr fun K0 hK0 => ?_
 refine wpList_plain rfl (fun K hK => ?_)
 refine e_box Hz m0 70 (cs := [_, _, _, _, _, _, _, _, _, _, _]) rfl rfl rfl ?_
 clear Hz Az m0; intro g1 Az w2 Hz m2 hB2 hg2
 clear hB2 hg2
 refine hK _ _ ?_; clear hK
 refine goCh Hz (.assign rfl .nil) ?_
 clear Hz Az; intro Az Hz
 refine znl (hK0 _ _ ?_); clear hK0
 refine wp_seq_k (fun K1 hK1 => ?_)
 refine regS Hz (.move rfl <| .not rfl <| .nil) ?_
 clear Hz Az; intro Az Hz
 refine wp_cond_true (Hz.ev (x := .tmp 9) rfl) ?_
 refine zsr fun K2 hK2 => ?_
 refine goCh Hz (.move rfl .nil) ?_
 clear Hz Az; intro Az Hz
 refine wpList_plain rfl (fun K hK => ?_)
 refine e_call Hz Try.func34 rfl rfl rfl rfl (copied_any cs _ _ _ ((h1.now' m2 rfl).any) (by omega) hok) ?_
 rintro e w8 ⟨p8, c8, rfl, hd8, hb8⟩
 have m9 := m2.callF 71 rfl hb8 hd8
 clear m2
 clear hb8 hd8
 refine ⟨_, rfl, ?_⟩; clear Hz Az; intro Az Hz
 refine hK _ _ ?_; clear hK
 refine goCh Hz (.assign rfl .nil) ?_
 clear Hz Az; intro Az Hz
 refine znl (hK2 _ _ ?_); clear hK2
 refine wp_ret ?_
 try dsimp only [Exit.then, Exit.inBlock]
 refine (ret1 (fn := Try.f14) Hz rfl rfl ?_)
 exact ⟨_, _, rfl, m9.outF (i := 71) rfl, m9.below⟩
theorem rest_hid (cs : List RC) (pc : Option Addr) (cc : Nat) (w0 : World) (h1 : Rd (fun _ => True) w0 (.slice pc cs.length cc) (.l 10 (cs.map cmdD))) (hl : cs.length ≤ 1000000) (hok : ∀ c ∈ cs, c.pl.length ≤ 1000000 ∧ c.its.length ≤ 1000000 ∧ ItsOk c.its) (vo bl sz pe to ne fl : Int) (pp pn pw : Option Addr) (np cp nn9 cn9 nw cw : Nat) (q9 : Nat) (hq : ne = q9) (hq2 : q9 + 2 ≤ cs.length) :
   Calls Try.prog 14 #[.slice pc cs.length cc, .agg #[.int .i64 vo, .int .i64 bl, .int .i64 sz, .int .i64 pe, .slice pp np cp, .int .i64 to, .int .i64 ne, .bool true, .int .i64 fl, .slice pn nn9 cn9, .slice pw nw cw], .bool true] w0 fun e w' => ∃ p c, e = .returned (.slice p (cs.drop (1 + q9)).length c) ∧ Rd (New w0) w' (.slice p (cs.drop (1 + q9)).length c) (.l 10 ((cs.drop (1 + q9)).map cmdD)) ∧ Below w0.heap.size w0 w' := by
 refine ent3 Try.func14 rfl Try.ntmps14 fun Az Hz => ?_
 have m0 := MemOk.start (fun _ => False) w0
 refine zsr fun K0 hK0 => ?_
 refine wpList_plain rfl (fun K hK => ?_)
 refine e_box Hz m0 70 (cs := [_, _, _, _, _, _, _, _, _, _, _]) rfl rfl rfl ?_
 clear Hz Az m0; intro g1 Az w2 Hz m2 hB2 hg2
 clear hB2 hg2
 refine hK _ _ ?_; clear hK
 refine goCh Hz (.assign rfl .nil) ?_
 clear Hz Az; intro Az Hz
 refine znl (hK0 _ _ ?_); clear hK0
 refine wp_seq_k (fun K1 hK1 => ?_)
 refine regS Hz (.move rfl <| .not rfl <| .nil) ?_
 clear Hz Az; intro Az Hz
 refine wp_cond_false (Hz.ev (x := .tmp 9) rfl) ?_
 refine zss (hK1 _ _ ?_); clear hK1
 refine wp_seq_k (fun K2 hK2 => ?_)
 refine regS Hz (.fa 7 rfl U49 <| .lb m2 70 U4 rfl rfl rfl <| .not rfl <| .move rfl <| .moveZ rfl <| .lenZ rfl U31 <| .eqlZ rfl rfl <| .pickF rfl rfl <| .nil) ?_
 clear Hz Az; intro Az Hz
 refine bool_cases Hz (t := 19) rfl ?_ ?_
 · intro hb _; exact absurd hb (by rw [decide_eq_true_eq]; omega)
 clear Hz; intro _ Hz
 refine wp_cond_false (Hz.ev (x := .tmp 19) rfl) ?_
 refine zss (hK2 _ _ ?_); clear hK2
 replace Hz : Has 33 [(0, _), (4, _), (6, _)] Az := Hz.only [0, 4, 6]
 refine regS Hz (.fa 6 rfl U49 <| .lb m2 70 U3 rfl rfl rfl <| .c rfl (fun _ h => y_max h rfl rfl (r := (q9 : Int)) (by omega)) <| .move rfl <| .len rfl U31 <| .sub rfl rfl (r := (cs.length : Int) - 2) (IntWalk.i64_in _ (by omega)) <| .c rfl (fun _ h => y_max h rfl rfl (r := (cs.length : Int) - 2) (by omega)) <| .c rfl (fun _ h => y_min h rfl rfl (r := (q9 : Int)) (by omega)) <| .assign rfl <| .nil) ?_
 clear Hz Az; intro Az Hz
 replace Hz : Has 33 [(0, _), (6, _), (7, _)] Az := Hz.only [0, 6, 7]
 refine zsr fun K3 hK3 => ?_
 refine goCh Hz (.move rfl .nil) ?_
 clear Hz Az; intro Az Hz
 have h2 := h1.dropL 1 (by rw [List.length_map]; omega)
 refine goCh Hz (.c rfl (fun _ h => y_sliceLn h 1 rfl rfl U31 fct1 rfl (by omega)) <| .move rfl <| .nil) ?_
 clear Hz Az; intro Az Hz
 have h3 := h2.dropL q9 (by rw [List.length_drop, List.length_map]; omega)
 rw [List.drop_drop, ← List.map_drop, show cs.length - 1 - q9 = (cs.drop (1 + q9)).length from by rw [List.length_drop]; omega] at h3
 refine goCh Hz (.c rfl (fun _ h => y_sliceLn h q9 rfl rfl U31 fct1 rfl (by omega)) .nil) ?_
 clear Hz Az; intro Az Hz
 rw [show cs.length - 1 - q9 = (cs.drop (1 + q9)).length from by rw [List.length_drop]; omega] at Hz
 refine wpList_plain rfl (fun K hK => ?_)
 refine e_call Hz Try.func34 rfl rfl rfl rfl (copied_any (cs.drop (1 + q9)) _ _ _ ((h3.now' m2 rfl).any) (by rw [List.length_drop]; omega) (fun e he => hok e (List.mem_of_mem_drop he))) ?_
 rintro e w31 ⟨p31, c31, rfl, hd31, hb31⟩
 have m32 := m2.callF 71 rfl hb31 hd31
 clear m2
 clear hb31 hd31
 refine ⟨_, rfl, ?_⟩; clear Hz Az; intro Az Hz
 refine hK _ _ ?_; clear hK
 refine goCh Hz (.assign rfl .nil) ?_
 clear Hz Az; intro Az Hz
 refine znl (hK3 _ _ ?_); clear hK3
 refine wp_ret ?_
 try dsimp only [Exit.then, Exit.inBlock]
 refine (ret1 (fn := Try.f14) Hz rfl rfl ?_)
 exact ⟨_, _, rfl, m32.outF (i := 71) rfl, m32.below⟩
theorem done_vol (cs : List RC) (pc : Option Addr) (cc : Nat) (w0 : World) (h1 : Rd (fun _ => True) w0 (.slice pc cs.length cc) (.l 10 (cs.map cmdD))) (c9 : RC) (hes : cs[0]? = some c9) (vo bl sz pe to ne fl : Int) (pp pn pw : Option Addr) (np cp nn9 cn9 nw cw : Nat) (hne : c9.vo ≠ vo) :
   Calls Try.prog 16 #[.slice pc cs.length cc, .agg #[.int .i64 vo, .int .i64 bl, .int .i64 sz, .int .i64 pe, .slice pp np cp, .int .i64 to, .int .i64 ne, .bool false, .int .i64 fl, .slice pn nn9 cn9, .slice pw nw cw]] w0 fun e w' => e = .returned (.bool false) ∧ Below w0.heap.size w0 w' := by
 have hc0 : 0 < cs.length := (List.getElem?_eq_some_iff.1 hes).1
 refine ent2 Try.func16 rfl Try.ntmps16 fun Az Hz => ?_
 have m0 := MemOk.start (fun _ => False) w0
 refine zsr fun K0 hK0 => ?_
 refine wpList_plain rfl (fun K hK => ?_)
 refine e_box Hz m0 70 (cs := [_, _, _, _, _, _, _, _, _, _, _]) rfl rfl rfl ?_
 clear Hz Az m0; intro g1 Az w2 Hz m2 hB2 hg2
 clear hB2 hg2
 refine hK _ _ ?_; clear hK
 refine goCh Hz (.assign rfl .nil) ?_
 clear Hz Az; intro Az Hz
 refine znl (hK0 _ _ ?_); clear hK0
 refine wp_seq_k (fun K1 hK1 => ?_)
 refine zsr fun K2 hK2 => ?_
 refine goCh Hz (.move rfl <| .len rfl U31 <| .eql rfl rfl <| .move rfl <| .nil) ?_
 clear Hz Az; intro Az Hz
 refine bool_cases Hz (t := 11) rfl ?_ ?_
 · intro hb _; exact absurd hb (by rw [decide_eq_true_eq]; omega)
 clear Hz; intro _ Hz
 refine goCh Hz (.faZ 7 rfl U49 <| .loadB1Z m2 (i := 70) rfl rfl rfl U4 rfl <| .pickF rfl rfl <| .nil) ?_
 clear Hz Az; intro Az Hz
 refine znl (hK2 _ _ ?_); clear hK2
 refine wp_cond_false (Hz.ev (x := .tmp 14) rfl) ?_
 refine zss (hK1 _ _ ?_); clear hK1
 replace Hz : Has 100 [(0, _), (3, _), (4, _)] Az := Hz.only [0, 3, 4]
 refine zsr fun K3 hK3 => ?_
 refine goCh Hz (.move rfl .nil) ?_
 clear Hz Az; intro Az Hz
 obtain ⟨gx20, ox20, vx20, hp20, hl20, hR20, hrg20⟩ := h1.extA (0) (r := [.v (.int .i64 c9.kd), .v (.int .i64 c9.vo), .v (.int .i64 c9.bl), .v (.int .i64 c9.sz), .v (.int .i64 c9.pe), .ns .i64 c9.pl, .v (.int .i64 c9.to), .v (.int .i64 c9.at0), .v (.int .i64 c9.ix), .l 2 (c9.its.map itD)]) (cmdD_get hes)
 cases hp20; clear hl20
 rcases hR20 with _ | ⟨hd20_0, _ | ⟨hd20_1, _ | ⟨hd20_2, _ | ⟨hd20_3, _ | ⟨hd20_4, _ | ⟨hd20_5, _ | ⟨hd20_6, _ | ⟨hd20_7, _ | ⟨hd20_8, _ | ⟨hd20_9, _ | _⟩⟩⟩⟩⟩⟩⟩⟩⟩⟩
 obtain rfl := hd20_0.v_out
 clear hd20_0
 obtain rfl := hd20_1.v_out
 clear hd20_1
 obtain rfl := hd20_2.v_out
 clear hd20_2
 obtain rfl := hd20_3.v_out
 clear hd20_3
 obtain rfl := hd20_4.v_out
 clear hd20_4
 obtain ⟨p21, c21, hv21, hw21⟩ := hd20_5.ns_shape; subst hv21
 obtain rfl := hd20_6.v_out
 clear hd20_6
 obtain rfl := hd20_7.v_out
 clear hd20_7
 obtain rfl := hd20_8.v_out
 clear hd20_8
 obtain ⟨p22, c22, hv22, hw22⟩ := hd20_9.l_shape; subst hv22
 refine goCh Hz (.c rfl (fun _ h => y_idx h rfl rfl U31 fct1 (0) rfl (by simpa using hc0)) <| .loadAt (hrg20 m2 rfl) rfl U57 rfl fct1 <| .nil) ?_
 clear Hz Az; intro Az Hz
 refine wpList_plain rfl (fun K hK => ?_)
 refine e_alloc Hz m2 73 fct7 rfl ?_
 clear Hz Az m2; intro g25 Az w26 Hz m26 hB26 hg26
 clear hB26 hg26
 refine hK _ _ ?_; clear hK
 refine wpList_plain rfl (fun K hK => ?_)
 refine e_storeW Hz m26 73 rfl rfl rfl rfl rfl fct1 ?_
 clear m26; intro w27 m27 hB27
 clear hB27
 refine hK _ _ ?_; clear hK
 refine znl (hK3 _ _ ?_); clear hK3
 refine wp_seq_k (fun K4 hK4 => ?_)
 refine zsr fun K5 hK5 => ?_
 refine goCh Hz (.fa 1 rfl U57 <| .lb m27 73 U3 rfl rfl rfl <| .fa 0 rfl U49 <| .lb m27 70 U3 rfl rfl rfl <| .neq rfl rfl <| .move rfl <| .nil) ?_
 clear Hz Az; intro Az Hz
 refine bool_cases Hz (t := 23) rfl ?_ ?_
 rotate_left
 · intro hb _; exact absurd hb (by simp; omega)
 clear Hz; intro _ Hz
 refine goCh Hz (.sk <| .sk <| .sk <| .sk <| .sk <| .pickT rfl rfl <| .move rfl <| .sk <| .sk <| .sk <| .sk <| .sk <| .pickT rfl rfl <| .move rfl <| .sk <| .sk <| .sk <| .sk <| .sk <| .pickT rfl rfl <| .move rfl <| .sk <| .sk <| .sk <| .sk <| .sk <| .pickT rfl rfl <| .move rfl <| .sk <| .sk <| .sk <| .sk <| .sk <| .sk <| .pickT rfl rfl <| .nil) ?_
 clear Hz Az; intro Az Hz
 refine znl (hK5 _ _ ?_); clear hK5
 refine wp_cond_true (Hz.ev (x := .tmp 58) rfl) ?_
 replace Hz : Has 100 [(0, _), (3, _), (4, _), (5, _)] Az := Hz.only [0, 3, 4, 5]
 refine regS Hz (.assign rfl <| .nil) ?_
 clear Hz Az; intro Az Hz
 refine wp_ret ?_
 try dsimp only [Exit.then, Exit.inBlock]
 refine (ret1 (fn := Try.f16) Hz rfl rfl ?_)
 exact ⟨by first | rfl | (simp; done) | (simp; omega), m27.below⟩
end Go.Proofs.Ytkdnhndjjfjppaa.K
