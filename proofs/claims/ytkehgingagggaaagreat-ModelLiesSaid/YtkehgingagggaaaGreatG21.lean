/- General laws of walks. -/
import Derived.Test.YtkehgingagggaaaGreatG20
namespace Go.Proofs.YtkehgingagggaaaGreat.K
open Go.ChangeShapes Go.WideShapes Go.ChangeAt Go.RowKit
set_option linter.unusedVariables false
set_option linter.unusedSimpArgs false
section
structure Tl where
 id : Int
 c : Cm
 fr : Int
 to : Int
 e9 : Int
 rl : Int
 rf : Int
 rn : Int
 da : List Int
def tlD (t : Tl) : List D := [.v (.int .i64 t.id), .v (.int .i64 t.c.kd), .v (.int .i64 t.c.vo), .v (.int .i64 t.c.bl), .v (.int .i64 t.c.sz), .v (.int .i64 t.c.pe), .ns .i64 t.c.pl, .v (.int .i64 t.c.to), .v (.int .i64 t.c.at0), .v (.int .i64 t.c.ix), .l 2 (t.c.its.map itD), .v (.int .i64 t.fr), .v (.int .i64 t.to), .v (.int .i64 t.e9), .v (.int .i64 t.rl), .v (.int .i64 t.rf), .v (.int .i64 t.rn), .ns .u8 t.da]
theorem tl_get {l : List Tl} {k : Nat} {t : Tl} (h : l[k]? = some t) : (l.map tlD)[k]? = some [.v (.int .i64 t.id), .v (.int .i64 t.c.kd), .v (.int .i64 t.c.vo), .v (.int .i64 t.c.bl), .v (.int .i64 t.c.sz), .v (.int .i64 t.c.pe), .ns .i64 t.c.pl, .v (.int .i64 t.c.to), .v (.int .i64 t.c.at0), .v (.int .i64 t.c.ix), .l 2 (t.c.its.map itD), .v (.int .i64 t.fr), .v (.int .i64 t.to), .v (.int .i64 t.e9), .v (.int .i64 t.rl), .v (.int .i64 t.rf), .v (.int .i64 t.rn), .ns .u8 t.da] := by rw [List.getElem?_map, h]; rfl
def ansB (t : Tl) : Bool := decide (0 ≤ t.to) && decide (t.fr ≤ t.to)
def graB (t : Tl) : Bool := ansB t && decide (t.e9 = 0)
def isB (t : Tl) (l : List Int) : Bool := decide (t.c.kd ∈ l)
def seeB (t : Tl) : Bool := graB t && isB t [2, 6, 8]
def upB (a b : Tl) : Bool := if isB b [2] = true then decide (a.rl < b.rl) else decide (a.rl ≤ b.rl)
theorem ni_step {x : Int} {l : List Int} {k : Nat} (h : x ∉ l.take k) (hk : k < l.length) (hn : ¬ x = l.getD k 0) : x ∉ l.take (k + 1) := by
 rw [List.getD, List.getElem?_eq_getElem hk] at hn
 rw [List.take_add_one, List.getElem?_eq_getElem hk]
 intro h9
 rcases List.mem_append.1 h9 with h9 | h9
 · exact h h9
 simp at h9; exact hn h9
set_option maxRecDepth 100000
set_option maxHeartbeats 4000000
theorem index_x (l : List Int) (x : Int) (p : Option Addr) (c : Nat) (w0 : World) (hl : l.length ≤ 1000) (h0 : Rd (fun _ => True) w0 (.slice p l.length c) (.ns .i64 l)) :
   Calls Tryz.prog 167 #[.slice p l.length c, .int .i64 x] w0 fun e w' => ∃ z : Int, e = .returned (.int .i64 z) ∧ (0 ≤ z ↔ x ∈ l) ∧ Below w0.heap.size w0 w' := by
 refine ent2 Tryz.func167 rfl Tryz.ntmps167 fun Az Hz => ?_
 have m0 := MemOk.start (fun _ => False) w0
 refine regS Hz (.assign rfl .nil) fun Az Hz => ?_
 refine wsk fun K0 hK0 => ?_
 refine regS Hz (.move rfl <| .len rfl U35 <| .move rfl .nil) fun Az Hz => ?_
 refine wp_block ?_
 refine wp_loop_ghost (fun g a w => ∃ k : Nat, k ≤ l.length ∧ x ∉ l.take k ∧ g = l.length - k ∧ Has 19 [(0, .slice p l.length c), (1, .int .i64 x), (6, .slice p l.length c), (7, .int .i64 l.length), (8, .int .i64 k)] a ∧ MemOk (cn w0) w0 [] w) (l.length) ?_ ?_
 · exact ⟨0, Nat.zero_le _, (by simp), rfl, Hz.only [0, 1, 6, 7, 8], m0.only []⟩
 clear Hz m0
 rintro g Az w5 ⟨k, hkl, hni, hg, Hz, m5⟩
 refine regS Hz (.lss rfl rfl .nil) fun Az Hz => ?_
 refine wsk fun K1 hK1 => ?_
 refine bc Hz 9 ?_ ?_
 ·
  intro hb7 Hz; try simp only [QQ, Qax] at hb7
  have hk : k < l.length := by omega
  refine wct Hz ?_
  refine zss (hK1 _ _ ?_)
  refine wsk fun K2 hK2 => ?_
  refine wp_block ?_
  refine regS Hz (.move rfl <| .assign rfl .nil) fun Az Hz => ?_
  refine zsr fun K3 hK3 => ?_
  refine goCh Hz (.move rfl <| .move rfl <| .move rfl .nil) fun Az Hz => ?_
  obtain ⟨gx17, ox17, hp17, hl17, hrg17⟩ := h0.extN (k) hk
  revert Hz
  cases hp17
  intro Hz
  refine gz hK3 Hz (.c rfl (fun _ h_ => y_idx h_ rfl rfl U35 fct15 (k) rfl hk) <| .loadAt1 (hrg17 m5 rfl) (q := 0) rfl rfl rfl U3 rfl <| .eql rfl rfl <| .nil) fun Az Hz => ?_
  refine bc Hz 16 ?_ ?_
  ·
   intro hb21 Hz; try simp only [QQ, Qax] at hb21
   have hR : ∃ z : Int, (k : Int) = z ∧ (0 ≤ z ↔ x ∈ l) := ⟨k, rfl, fun _ => (by have h9 := hb21; rw [List.getD, List.getElem?_eq_getElem hk] at h9; rw [h9]; exact List.getElem_mem hk), fun _ => by omega⟩
   refine wct Hz ?_
   replace Hz := Hz.oz [0, 1, 6, 7, 8, 5]
   refine regS Hz (.move rfl <| .assign rfl .nil) fun Az Hz => ?_
   refine rt1 Hz ?_
   obtain ⟨z, hz, hR⟩ := hR
   exact ⟨z, congrArg (fun z => Ending.returned (.int .i64 z)) hz, hR, m5.below⟩
  intro hb21 Hz; try simp only [QQ, Qax] at hb21
  have hni2 : x ∉ l.take (k + 1) := ni_step hni hk hb21
  refine wcf Hz ?_
  refine zss (hK2 _ _ ?_)
  replace Hz := Hz.oz [0, 1, 6, 7, 8]
  refine wp_region_lit ?_
  refine goCh Hz (.inc (k + 1) <| .move rfl .nil) fun Az Hz => ?_
  refine wpList_nil ?_
  show ∃ n', n' < _ ∧ _
  exact ⟨l.length - (k + 1), by omega, k + 1, by omega, hni2, rfl, Hz.only [0, 1, 6, 7, 8], m5.only []⟩
 intro hb7 Hz; try simp only [QQ, Qax] at hb7
 have hR : ∃ z : Int, (-1 : Int) = z ∧ (0 ≤ z ↔ x ∈ l) := ⟨-1, rfl, by rw [List.take_of_length_le (by omega)] at hni; exact ⟨fun h => by omega, fun h => absurd h hni⟩⟩
 refine wcf Hz ?_
 refine wp_exit ?_
 refine hK0 _ _ ?_
 refine regS Hz (.assign rfl .nil) fun Az Hz => ?_
 refine rt1 Hz ?_
 obtain ⟨z, hz, hR⟩ := hR
 exact ⟨z, congrArg (fun z => Ending.returned (.int .i64 z)) hz, hR, m5.below⟩
theorem contains_x (l : List Int) (x : Int) (p : Option Addr) (c : Nat) (w0 : World) (hl : l.length ≤ 1000) (h0 : Rd (fun _ => True) w0 (.slice p l.length c) (.ns .i64 l)) :
   Calls Tryz.prog 144 #[.slice p l.length c, .int .i64 x] w0 fun e w' => e = .returned (.bool (decide (x ∈ l))) ∧ Below w0.heap.size w0 w' := by
 refine ent2 Tryz.func144 rfl Tryz.ntmps144 fun Az Hz => ?_
 have m0 := MemOk.start (fun _ => False) w0
 refine regS Hz (.assign rfl .nil) fun Az Hz => ?_
 refine zsr fun K0 hK0 => ?_
 refine goCh Hz (.move rfl <| .move rfl .nil) fun Az Hz => ?_
 refine plz (ecl Hz Tryz.func167 rfl (index_x l x _ _ _ hl ((h0.now' m0 rfl).any)) ?_)
 rintro e w6 ⟨z, rfl, hz, hb6⟩
 have m7 := m0.later hb6
 refine ⟨_, rfl, ?_⟩; intro Az Hz
 refine gz hK0 Hz (.geq rfl rfl <| .assign rfl <| .nil) fun Az Hz => ?_
 refine rt1 Hz ?_
 exact ⟨congrArg (fun b => Ending.returned (.bool b)) (decide_eq_decide.2 hz), m7.below⟩
theorem ans_x (t : Tl) (p1 p2 p3 : Option Addr) (n1 c1 n2 c2 n3 c3 : Nat) (w0 : World) :
   Calls Tryz.prog 143 #[.agg #[.int .i64 t.id, .int .i64 t.c.kd, .int .i64 t.c.vo, .int .i64 t.c.bl, .int .i64 t.c.sz, .int .i64 t.c.pe, .slice p1 n1 c1, .int .i64 t.c.to, .int .i64 t.c.at0, .int .i64 t.c.ix, .slice p2 n2 c2, .int .i64 t.fr, .int .i64 t.to, .int .i64 t.e9, .int .i64 t.rl, .int .i64 t.rf, .int .i64 t.rn, .slice p3 n3 c3]] w0 fun e w' => e = .returned (.bool (ansB t)) ∧ Below w0.heap.size w0 w' := by
 refine ent1 Tryz.func143 rfl Tryz.ntmps143 fun Az Hz => ?_
 have m0 := MemOk.start (fun _ => False) w0
 refine zsr fun K0 hK0 => ?_
 refine plz (e_box Hz m0 20 (cs := [_, _, _, _, _, _, _, _, _, _, _, _, _, _, _, _, _, _]) rfl rfl rfl fun g1 Az w2 Hz m2 _ _ => ?_)
 refine gz hK0 Hz (.assign rfl .nil) fun Az Hz => ?_
 refine zsr fun K1 hK1 => ?_
 refine goCh Hz (.fa 12 rfl U76 <| .lb m2 20 U3 rfl rfl rfl <| .geq rfl rfl <| .move rfl .nil) fun Az Hz => ?_
 refine bc Hz 6 ?_ ?_
 ·
  intro hb12 Hz; try simp only [QQ, Qax] at hb12
  refine gz hK1 Hz (.faZ 12 rfl U76 <| .loadB1Z m2 (i := 20) rfl rfl rfl U3 rfl <| .faZ 11 rfl U76 <| .loadB1Z m2 (i := 20) rfl rfl rfl U3 rfl <| .geqZ rfl rfl <| .pickT rfl rfl <| .assign rfl <| .nil) fun Az Hz => ?_
  refine rt1 Hz ?_
  exact ⟨congrArg (fun b9 => Ending.returned (.bool b9)) (by first | (simp [ansB, hb12]; done) | (simp [ansB, hb12]; omega)), m2.below⟩
 intro hb12 Hz; try simp only [QQ, Qax] at hb12
 refine gz hK1 Hz (.sk <| .sk <| .sk <| .sk <| .sk <| .pickF rfl rfl <| .assign rfl <| .nil) fun Az Hz => ?_
 refine rt1 Hz ?_
 exact ⟨congrArg (fun b9 => Ending.returned (.bool b9)) (by first | (simp [ansB, hb12]; done) | (simp [ansB, hb12]; omega)), m2.below⟩
theorem gra_x (t : Tl) (p1 p2 p3 : Option Addr) (n1 c1 n2 c2 n3 c3 : Nat) (w0 : World) :
   Calls Tryz.prog 125 #[.agg #[.int .i64 t.id, .int .i64 t.c.kd, .int .i64 t.c.vo, .int .i64 t.c.bl, .int .i64 t.c.sz, .int .i64 t.c.pe, .slice p1 n1 c1, .int .i64 t.c.to, .int .i64 t.c.at0, .int .i64 t.c.ix, .slice p2 n2 c2, .int .i64 t.fr, .int .i64 t.to, .int .i64 t.e9, .int .i64 t.rl, .int .i64 t.rf, .int .i64 t.rn, .slice p3 n3 c3]] w0 fun e w' => e = .returned (.bool (graB t)) ∧ Below w0.heap.size w0 w' := by
 refine ent1 Tryz.func125 rfl Tryz.ntmps125 fun Az Hz => ?_
 have m0 := MemOk.start (fun _ => False) w0
 refine zsr fun K0 hK0 => ?_
 refine plz (e_box Hz m0 20 (cs := [_, _, _, _, _, _, _, _, _, _, _, _, _, _, _, _, _, _]) rfl rfl rfl fun g1 Az w2 Hz m2 _ _ => ?_)
 refine gz hK0 Hz (.assign rfl .nil) fun Az Hz => ?_
 refine zsr fun K1 hK1 => ?_
 refine goCh Hz (.loadBR m2 (i := 20) rfl rfl U76 rfl fct16 (by simp) (by dsimp only [List.drop, List.take] <;> rfl) .nil) fun Az Hz => ?_
 refine plz (ecb Hz Tryz.func143 rfl m2 (ans_x t _ _ _ _ _ _ _ _ _ _) fun Az w6 Hz m7 => ?_)
 refine goCh Hz (.move rfl .nil) fun Az Hz => ?_
 refine bc Hz 5 ?_ ?_
 ·
  intro hb10 Hz; try simp only [QQ, Qax] at hb10
  refine gz hK1 Hz (.fieldAddrZ (off := 13) rfl U76 rfl (s := 4) (by kernel_rfl) rfl <| .faZ 13 rfl U44 <| .loadB1Z m7 (i := 20) rfl rfl rfl U42 rfl <| .eqlZ rfl rfl <| .pickT rfl rfl <| .assign rfl <| .nil) fun Az Hz => ?_
  refine rt1 Hz ?_
  exact ⟨congrArg (fun b9 => Ending.returned (.bool b9)) (by first | (simp [graB, hb10]; done) | (simp [graB, hb10]; omega)), m7.below⟩
 intro hb10 Hz; try simp only [QQ, Qax] at hb10
 refine gz hK1 Hz (.sk <| .sk <| .sk <| .sk <| .pickF rfl rfl <| .assign rfl <| .nil) fun Az Hz => ?_
 refine rt1 Hz ?_
 exact ⟨congrArg (fun b9 => Ending.returned (.bool b9)) (by first | (simp [graB, hb10]; done) | (simp [graB, hb10]; omega)), m7.below⟩
theorem is_x (t : Tl) (l : List Int) (p1 p2 p3 : Option Addr) (n1 c1 n2 c2 n3 c3 : Nat) (p : Option Addr) (c : Nat) (w0 : World) (hl : l.length ≤ 1000) (h0 : Rd (fun _ => True) w0 (.slice p l.length c) (.ns .i64 l)) :
   Calls Tryz.prog 126 #[.agg #[.int .i64 t.id, .int .i64 t.c.kd, .int .i64 t.c.vo, .int .i64 t.c.bl, .int .i64 t.c.sz, .int .i64 t.c.pe, .slice p1 n1 c1, .int .i64 t.c.to, .int .i64 t.c.at0, .int .i64 t.c.ix, .slice p2 n2 c2, .int .i64 t.fr, .int .i64 t.to, .int .i64 t.e9, .int .i64 t.rl, .int .i64 t.rf, .int .i64 t.rn, .slice p3 n3 c3], .slice p l.length c] w0 fun e w' => e = .returned (.bool (isB t l)) ∧ Below w0.heap.size w0 w' := by
 refine ent2 Tryz.func126 rfl Tryz.ntmps126 fun Az Hz => ?_
 have m0 := MemOk.start (fun _ => False) w0
 refine zsr fun K0 hK0 => ?_
 refine plz (e_box Hz m0 20 (cs := [_, _, _, _, _, _, _, _, _, _, _, _, _, _, _, _, _, _]) rfl rfl rfl fun g1 Az w2 Hz m2 _ _ => ?_)
 refine gz hK0 Hz (.assign rfl .nil) fun Az Hz => ?_
 refine zsr fun K1 hK1 => ?_
 refine goCh Hz (.move rfl <| .fieldAddr (off := 1) rfl U76 rfl (s := 9) (by kernel_rfl) rfl <| .fa 1 rfl U38 <| .lb m2 20 U3 rfl rfl rfl .nil) fun Az Hz => ?_
 refine plz (ecb Hz Tryz.func144 rfl m2 (contains_x l t.c.kd _ _ _ hl ((h0.now' m2 rfl).any)) fun Az w12 Hz m13 => ?_)
 refine gz hK1 Hz (.assign rfl .nil) fun Az Hz => ?_
 refine rt1 Hz ?_
 exact ⟨rfl, m13.below⟩
theorem see_x (t : Tl) (p1 p2 p3 : Option Addr) (n1 c1 n2 c2 n3 c3 : Nat) (w0 : World) :
   Calls Tryz.prog 127 #[.agg #[.int .i64 t.id, .int .i64 t.c.kd, .int .i64 t.c.vo, .int .i64 t.c.bl, .int .i64 t.c.sz, .int .i64 t.c.pe, .slice p1 n1 c1, .int .i64 t.c.to, .int .i64 t.c.at0, .int .i64 t.c.ix, .slice p2 n2 c2, .int .i64 t.fr, .int .i64 t.to, .int .i64 t.e9, .int .i64 t.rl, .int .i64 t.rf, .int .i64 t.rn, .slice p3 n3 c3]] w0 fun e w' => e = .returned (.bool (seeB t)) ∧ Below w0.heap.size w0 w' := by
 refine ent1 Tryz.func127 rfl Tryz.ntmps127 fun Az Hz => ?_
 have m0 := MemOk.start (fun _ => False) w0
 refine zsr fun K0 hK0 => ?_
 refine plz (e_box Hz m0 20 (cs := [_, _, _, _, _, _, _, _, _, _, _, _, _, _, _, _, _, _]) rfl rfl rfl fun g1 Az w2 Hz m2 _ _ => ?_)
 refine gz hK0 Hz (.assign rfl .nil) fun Az Hz => ?_
 refine zsr fun K1 hK1 => ?_
 refine goCh Hz (.loadBR m2 (i := 20) rfl rfl U76 rfl fct16 (by simp) (by dsimp only [List.drop, List.take] <;> rfl) .nil) fun Az Hz => ?_
 refine plz (ecb Hz Tryz.func125 rfl m2 (gra_x t _ _ _ _ _ _ _ _ _ _) fun Az w6 Hz m7 => ?_)
 refine goCh Hz (.move rfl .nil) fun Az Hz => ?_
 refine bc Hz 5 ?_ ?_
 ·
  intro hb10 Hz; try simp only [QQ, Qax] at hb10
  refine goCh Hz (.loadBRZ m7 (i := 20) rfl rfl U76 rfl fct16 (by simp) (by dsimp only [List.drop, List.take] <;> rfl) .nil) fun Az Hz => ?_
  refine stz Hz (e_litN Hz m7 21 (k := .i64) rfl rfl U35 fct17 rfl rfl rfl rfl fun g12 Az w13 Hz m13 => ?_)
  have m14 := m13.freezeN 21 rfl
  refine stz Hz (ecb Hz Tryz.func126 rfl m14 (is_x t [2, 6, 8] _ _ _ _ _ _ _ _ _ _ _ _ (by decide) ((m14.rd (i := 21) rfl).any)) fun Az w15 Hz m16 => ?_)
  refine gz hK1 Hz (.pickT rfl rfl <| .assign rfl <| .nil) fun Az Hz => ?_
  refine rt1 Hz ?_
  exact ⟨congrArg (fun b9 => Ending.returned (.bool b9)) (by first | (simp [seeB, hb10]; done) | (simp [seeB, hb10]; omega)), m16.below⟩
 intro hb10 Hz; try simp only [QQ, Qax] at hb10
 refine gz hK1 Hz (.sk <| .sk <| .sk <| .pickF rfl rfl <| .assign rfl <| .nil) fun Az Hz => ?_
 refine rt1 Hz ?_
 exact ⟨congrArg (fun b9 => Ending.returned (.bool b9)) (by first | (simp [seeB, hb10]; done) | (simp [seeB, hb10]; omega)), m7.below⟩
theorem up_x (t u : Tl) (p1 p2 p3 : Option Addr) (n1 c1 n2 c2 n3 c3 : Nat) (q1 q2 q3 : Option Addr) (m1 d1 m2 d2 m3 d3 : Nat) (w0 : World) :
   Calls Tryz.prog 128 #[.agg #[.int .i64 t.id, .int .i64 t.c.kd, .int .i64 t.c.vo, .int .i64 t.c.bl, .int .i64 t.c.sz, .int .i64 t.c.pe, .slice p1 n1 c1, .int .i64 t.c.to, .int .i64 t.c.at0, .int .i64 t.c.ix, .slice p2 n2 c2, .int .i64 t.fr, .int .i64 t.to, .int .i64 t.e9, .int .i64 t.rl, .int .i64 t.rf, .int .i64 t.rn, .slice p3 n3 c3], .agg #[.int .i64 u.id, .int .i64 u.c.kd, .int .i64 u.c.vo, .int .i64 u.c.bl, .int .i64 u.c.sz, .int .i64 u.c.pe, .slice q1 m1 d1, .int .i64 u.c.to, .int .i64 u.c.at0, .int .i64 u.c.ix, .slice q2 m2 d2, .int .i64 u.fr, .int .i64 u.to, .int .i64 u.e9, .int .i64 u.rl, .int .i64 u.rf, .int .i64 u.rn, .slice q3 m3 d3]] w0 fun e w' => e = .returned (.bool (upB t u)) ∧ Below w0.heap.size w0 w' := by
 refine ent2 Tryz.func128 rfl Tryz.ntmps128 fun Az Hz => ?_
 have m0 := MemOk.start (fun _ => False) w0
 refine zsr fun K0 hK0 => ?_
 refine plz (e_box Hz m0 20 (cs := [_, _, _, _, _, _, _, _, _, _, _, _, _, _, _, _, _, _]) rfl rfl rfl fun g1 Az w2 Hz m2 _ _ => ?_)
 refine plz (e_box Hz m2 21 (cs := [_, _, _, _, _, _, _, _, _, _, _, _, _, _, _, _, _, _]) rfl rfl rfl fun g3 Az w4 Hz m4 _ _ => ?_)
 refine gz hK0 Hz (.assign rfl .nil) fun Az Hz => ?_
 refine wsk fun K1 hK1 => ?_
 refine zsr fun K2 hK2 => ?_
 refine goCh Hz (.loadBR m4 (i := 21) rfl rfl U76 rfl fct16 (by simp) (by dsimp only [List.drop, List.take] <;> rfl) .nil) fun Az Hz => ?_
 refine plz (e_litN Hz m4 22 (k := .i64) rfl rfl U35 fct17 rfl rfl rfl rfl fun g8 Az w9 Hz m9 => ?_)
 have m10 := m9.freezeN 22 rfl
 refine plz (ecb Hz Tryz.func126 rfl m10 (is_x u [2] _ _ _ _ _ _ _ _ _ _ _ _ (by decide) ((m10.rd (i := 22) rfl).any)) fun Az w11 Hz m12 => ?_)
 refine znl (hK2 _ _ ?_)
 refine bc Hz 7 ?_ ?_
 ·
  intro hb14 Hz; try simp only [QQ, Qax] at hb14
  refine wct Hz ?_
  refine regS Hz (.fieldAddr (off := 13) rfl U76 rfl (s := 4) (by kernel_rfl) rfl <| .fa 14 rfl U44 <| .lb m12 20 U2 rfl rfl rfl <| .fieldAddr (off := 13) rfl U76 rfl (s := 4) (by kernel_rfl) rfl <| .fa 14 rfl U44 <| .lb m12 21 U2 rfl rfl rfl <| .lss rfl rfl <| .assign rfl .nil) fun Az Hz => ?_
  refine rt1 Hz ?_
  exact ⟨congrArg (fun b9 => Ending.returned (.bool b9)) (by first | (simp [upB, hb14]; done) | (simp [upB, hb14]; omega)), m12.below⟩
 intro hb14 Hz; try simp only [QQ, Qax] at hb14
 refine wcf Hz ?_
 refine zss (hK1 _ _ ?_)
 refine regS Hz (.fieldAddr (off := 13) rfl U76 rfl (s := 4) (by kernel_rfl) rfl <| .fa 14 rfl U44 <| .lb m12 20 U2 rfl rfl rfl <| .fieldAddr (off := 13) rfl U76 rfl (s := 4) (by kernel_rfl) rfl <| .fa 14 rfl U44 <| .lb m12 21 U2 rfl rfl rfl <| .leq rfl rfl <| .assign rfl .nil) fun Az Hz => ?_
 refine rt1 Hz ?_
 exact ⟨congrArg (fun b9 => Ending.returned (.bool b9)) (by first | (simp [upB, hb14]; done) | (simp [upB, hb14]; omega)), m12.below⟩
end
end Go.Proofs.YtkehgingagggaaaGreat.K
