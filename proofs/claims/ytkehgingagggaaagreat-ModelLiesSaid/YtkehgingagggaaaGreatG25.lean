/- General laws of walks. -/
import Derived.Test.YtkehgingagggaaaGreatG23
import Derived.Test.YtkehgingagggaaaGreatG24
import Derived.Test.YtkehgingagggaaaGreatG12
namespace Go.Proofs.YtkehgingagggaaaGreat.K
open Go.ChangeShapes Go.WideShapes Go.ChangeAt Go.RowKit
set_option linter.unusedVariables false
set_option linter.unusedSimpArgs false
section
theorem fl38kn6 : flatS Tryz.prog 38 [.int .i64 0, .int .i64 0, .int .i64 0, .int .i64 0, .int .i64 0, .slice none 0 0, .int .i64 0, .int .i64 0, .int .i64 0, .slice none 0 0] = true := by kernel_rfl
theorem fl44kn6 : flatS Tryz.prog 44 [.int .i64 0, .int .i64 0, .int .i64 0, .int .i64 0, .slice none 0 0] = true := by kernel_rfl
theorem fl51kn6 : flatS Tryz.prog 51 [.int .i64 0, .int .i64 0, .int .i64 0, .int .i64 0, .slice none 0 0, .int .i64 0, .int .i64 0, .bool false, .int .i64 0, .slice none 0 0, .slice none 0 0] = true := by kernel_rfl
theorem fl59kn6 : flatS Tryz.prog 59 [.int .i64 0, .slice none 0 0] = true := by kernel_rfl
theorem ps76kn6 : placesS Tryz.prog 76 = some [(0, 1), (1, 10), (11, 1), (12, 1), (13, 5)] := by kernel_rfl
def V1k (pe : Int) (pl : List Int) : VolV := ⟨0, 3, 1, pe, pl, 0, 0, false, 0, [], [(1, [(0, [120])])]⟩
def C2k : Cm := (⟨2, 0, 0, 0, 0, [], 0, 0, 0, [(0, [120])]⟩ : Cm)
def T1k : Tl := ⟨1, C2k, 0, 1, 0, 1, 0, 0, []⟩
def T2k : Tl := ⟨1, C2k, 0, 1, 0, 2, 0, 0, []⟩
theorem ordK1 (pe : Int) (pl : List Int) : ordB [T1k] (V1k pe pl) = true := rfl
theorem ordK2 (pe : Int) (pl : List Int) : ordB [T2k] (V1k pe pl) = false := rfl
theorem ordK3 (pe : Int) (pl : List Int) : ordB [] (V1k pe pl) = false := rfl
theorem tk1 : ∀ t ∈ [T1k], t.c.its.length ≤ 1000000 ∧ ∀ e ∈ t.c.its, BytesL e.2 := by simp [T1k, C2k, BytesL]
theorem tk2 : ∀ t ∈ [T2k], t.c.its.length ≤ 1000000 ∧ ∀ e ∈ t.c.its, BytesL e.2 := by simp [T2k, C2k, BytesL]
theorem tk0 : ∀ t ∈ ([] : List Tl), t.c.its.length ≤ 1000000 ∧ ∀ e ∈ t.c.its, BytesL e.2 := fun t h => by cases h
theorem vkB (pe : Int) (pl : List Int) : ∀ e ∈ (V1k pe pl).ws, e.2.length ≤ 1000000 ∧ ∀ z ∈ e.2, BytesL z.2 := by simp [V1k, BytesL]
theorem vkL (pe : Int) (pl : List Int) : (V1k pe pl).ws.length ≤ 1000000 := by simp [V1k]
theorem create_k (w0 : World) :
   Calls Tryz.prog 42 #[.int .u8 0, .int .u8 2, .int .u8 0, .int .u8 1, .int .i64 0] w0 fun e w' => ∃ (pe : Int) (pl : List Int) (p : Option Addr) (c : Nat), e = .returned (.agg #[.int .i64 1, .int .i64 0, .int .i64 3, .int .i64 1, .int .i64 pe, .slice p pl.length c, .int .i64 0, .int .i64 0, .int .i64 0, .slice none 0 0]) ∧ NewOk 0 3 1 pe 0 pl ∧ Rd (New w0) w' (.slice p pl.length c) (.ns .i64 pl) ∧ Below w0.heap.size w0 w' := by
 refine (create_e 0 2 0 1 0 w0 (by omega) (by omega) (by omega) (by omega)).mono ?_
 rintro e w' ⟨bl, sz, pe, pl, p, c, rfl, hb, hs, h1, h2, h3, h4, h5, h6⟩
 obtain rfl : bl = 3 := hb.trans (by decide)
 obtain rfl : sz = 1 := hs.trans (by decide)
 exact ⟨pe, pl, p, c, rfl, ⟨by omega, by omega, by omega, by omega, by omega, by omega, h1, h2, h3, by omega, by omega⟩, h5, h6⟩
theorem rep_k (pe : Int) (pl : List Int) (hN : NewOk 0 3 1 pe 0 pl) : allL (repL [⟨1, 0, 3, 1, pe, pl, 0, 0, 0, []⟩, C2k]) = [V1k pe pl] := by
 obtain ⟨a1, a2, a3, a4, a5, a6, a7, a8, a9, a10, a11⟩ := hN
 have hN : NewOk 0 3 1 pe 0 pl := ⟨a1, a2, a3, a4, a5, a6, a7, a8, a9, a10, a11⟩
 have hS := newV_s (n := 0) hN
 have hR1 : CmdR ⟨1, 0, 3, 1, pe, pl, 0, 0, 0, []⟩ := ⟨by simp, by simp, by simp; omega, hS.sm.1, fun z hz => by have := a9.1 z hz; simp only at *; omega, by simp, fun e he => by cases he⟩
 have hR2 : CmdR C2k := ⟨by decide, by decide, by decide, by decide, by decide, by decide, by decide⟩
 have h1 : mApp [] ⟨1, 0, 3, 1, pe, pl, 0, 0, 0, []⟩ = ([newV 0 3 1 pe 0 pl], 0, 0, 0, 0) := by
   rw [mApp, if_pos rfl, if_neg (by rintro ⟨y, hy, _⟩; cases hy), if_pos hN]; rfl
 have hd : doR 3 1 0 0 0 false [] [] 2 0 0 [(0, [120])] = (0, false, 0, [] ++ [(((List.length ([] : List PWr) : Nat) : Int) + 1, [(0, [120])])], 0) := doR_put_yes rfl ⟨by decide, by decide, fun j hj => by
   obtain rfl : j = 0 := by simp at hj; omega
   exact ⟨by decide, by decide, by decide, by rintro ⟨e, he, _⟩; cases he⟩⟩
 have h2 : (mApp [newV 0 3 1 pe 0 pl] C2k).1 = [V1k pe pl] := by
   have hd2 : doV (newV 0 3 1 pe 0 pl) C2k = (V1k pe pl, 0) := by
     unfold doV
     rw [if_neg (by decide), if_neg (by decide)]
     simp only [newV, C2k, show decide ((0 : Int) < 0) = false from rfl, hd]; rfl
   rw [mApp, if_neg (by decide)]
   simp only [show List.findIdx? (fun y => decide (y.vo = C2k.vo)) [newV 0 3 1 pe 0 pl] = some 0 from rfl, show List.getD [newV 0 3 1 pe 0 pl] 0 volZ = newV 0 3 1 pe 0 pl from rfl, hd2]; rfl
 have hr : repL [⟨1, 0, 3, 1, pe, pl, 0, 0, 0, []⟩, C2k] = [V1k pe pl] := by
   have e1 := rep_yes (cs := [⟨1, 0, 3, 1, pe, pl, 0, 0, 0, []⟩, C2k]) (k := 0) rfl hR1
   have e2 := rep_yes (cs := [⟨1, 0, 3, 1, pe, pl, 0, 0, 0, []⟩, C2k]) (k := 1) rfl hR2
   have e3 : repL (List.take 1 [⟨1, 0, 3, 1, pe, pl, 0, 0, 0, []⟩, C2k]) = [newV 0 3 1 pe 0 pl] := by
     rw [e1]; exact congrArg (·.1) h1
   have e4 : repL [⟨1, 0, 3, 1, pe, pl, 0, 0, 0, []⟩, C2k] = _ := e2
   rw [e4, e3, h2]
 rw [hr]
 have hi : idsL [V1k pe pl] = [0] := by simp [idsL, V1k]
 rw [allL, hi]; rfl
theorem replay_k (pe : Int) (pl9 : List Int) (hN : NewOk 0 3 1 pe 0 pl9) (pl : Option Addr) (nl cl : Nat) (w0 : World) (h1 : Rd (fun _ => True) w0 (.slice pl nl cl) (.l 10 ([⟨1, 0, 3, 1, pe, pl9, 0, 0, 0, []⟩, C2k].map cmD))) :
   Calls Tryz.prog 33 #[.slice pl nl cl] w0 fun e w' => ∃ (p : Option Addr) (c : Nat), e = .returned (.slice p 1 c) ∧ Rd (New w0) w' (.slice p 1 c) (.l 11 [[.v (.int .i64 0), .v (.int .i64 3), .v (.int .i64 1), .v (.int .i64 pe), .ns .i64 pl9, .v (.int .i64 0), .v (.int .i64 0), .v (.bool false), .v (.int .i64 0), .ns .i64 [], .l 2 ([((1 : Int), [((0 : Int), [(120 : Int)])])].map wrD)]]) ∧ Below w0.heap.size w0 w' := by
 refine (replay_x _ pl nl cl w0 h1 (by simp [C2k, BytesL]) (by simp)).mono ?_
 rintro e w' ⟨p, c, rfl, hr, hb⟩
 rw [rep_k pe pl9 hN] at hr ⊢
 exact ⟨p, c, rfl, hr, hb⟩
theorem ordT (l : List Tl) (v : VolV) (b : Bool) (h : ordB l v = b) (pl : Option Addr) (nl cl : Nat) (y1 y2 y3 : Option Addr) (z1 x1 z2 x2 nv x3 : Nat) (w0 : World) (h1 : Rd (fun _ => True) w0 (.slice pl nl cl) (.l 18 (l.map tlD))) (h3 : Rd (fun _ => True) w0 (.slice y3 nv x3) (.l 2 (v.ws.map wrD))) (hlb : ∀ t ∈ l, t.c.its.length ≤ 1000000 ∧ ∀ e ∈ t.c.its, BytesL e.2) (hvb : ∀ e ∈ v.ws, e.2.length ≤ 1000000 ∧ ∀ z ∈ e.2, BytesL z.2) (hl9 : l.length ≤ 1000) (hv9 : v.ws.length ≤ 1000000) :
   Calls Tryz.prog 38 #[.slice pl nl cl, .agg #[.int .i64 v.vo, .int .i64 v.bl, .int .i64 v.sz, .int .i64 v.pe, .slice y1 z1 x1, .int .i64 v.to, .int .i64 v.ne, .bool v.hi, .int .i64 v.fl, .slice y2 z2 x2, .slice y3 nv x3]] w0 fun e w' => e = .returned (.bool b) ∧ Below w0.heap.size w0 w' := h ▸ ordered_x l v pl nl cl y1 y2 y3 z1 x1 z2 x2 nv x3 w0 h1 h3 hlb hvb hl9 hv9
theorem v1kB {pe : Int} {pl : List Int} (hN : NewOk 0 3 1 pe 0 pl) : VolB (V1k pe pl) := by
 have hS := (newV_s (n := 0) hN).sm.1
 exact ⟨by have : pl.length ≤ 256 := hS; show pl.length ≤ 1000000; omega, by simp [V1k], by simp [V1k], by simp [V1k, BytesL]⟩
theorem sameT (x : VolV) (p1 p2 p3 q1 q2 q3 : Option Addr) (c1 c2 c3 d1 d2 d3 nx ny : Nat) (w0 : World) (hx : VolB x) (h1 : Rd (fun _ => True) w0 (.slice p1 x.place.length c1) (.ns .i64 x.place)) (h2 : Rd (fun _ => True) w0 (.slice p2 x.pins.length c2) (.ns .i64 x.pins)) (h3 : Rd (fun _ => True) w0 (.slice p3 nx c3) (.l 2 (x.ws.map wrD))) (h4 : Rd (fun _ => True) w0 (.slice q1 x.place.length d1) (.ns .i64 x.place)) (h5 : Rd (fun _ => True) w0 (.slice q2 x.pins.length d2) (.ns .i64 x.pins)) (h6 : Rd (fun _ => True) w0 (.slice q3 ny d3) (.l 2 (x.ws.map wrD))) :
   Calls Tryz.prog 35 #[.agg #[.int .i64 x.vo, .int .i64 x.bl, .int .i64 x.sz, .int .i64 x.pe, .slice p1 x.place.length c1, .int .i64 x.to, .int .i64 x.ne, .bool x.hi, .int .i64 x.fl, .slice p2 x.pins.length c2, .slice p3 nx c3], .agg #[.int .i64 x.vo, .int .i64 x.bl, .int .i64 x.sz, .int .i64 x.pe, .slice q1 x.place.length d1, .int .i64 x.to, .int .i64 x.ne, .bool x.hi, .int .i64 x.fl, .slice q2 x.pins.length d2, .slice q3 ny d3]] w0 fun e w' => e = .returned (.bool true) ∧ Below w0.heap.size w0 w' :=
 (msmP x x p1 p2 p3 q1 q2 q3 c1 c2 c3 d1 d2 d3 nx ny w0 hx hx h1 h2 h3 h4 h5 h6).mono fun e w' h => ⟨by rw [h.1, decide_eq_true (samP_iff.2 ⟨⟨rfl, rfl, rfl, rfl, rfl, rfl⟩, rfl, rfl, rfl, rfl, rfl⟩)], h.2⟩
theorem preT (x : VolV) (p1 p2 p3 q1 q2 q3 : Option Addr) (c1 c2 c3 d1 d2 d3 nx ny : Nat) (w0 : World) (hx : VolB x) (h1 : Rd (fun _ => True) w0 (.slice p1 x.place.length c1) (.ns .i64 x.place)) (h3 : Rd (fun _ => True) w0 (.slice p3 nx c3) (.l 2 (x.ws.map wrD))) (h4 : Rd (fun _ => True) w0 (.slice q1 x.place.length d1) (.ns .i64 x.place)) (h6 : Rd (fun _ => True) w0 (.slice q3 ny d3) (.l 2 (x.ws.map wrD))) :
   Calls Tryz.prog 36 #[.agg #[.int .i64 x.vo, .int .i64 x.bl, .int .i64 x.sz, .int .i64 x.pe, .slice p1 x.place.length c1, .int .i64 x.to, .int .i64 x.ne, .bool x.hi, .int .i64 x.fl, .slice p2 x.pins.length c2, .slice p3 nx c3], .agg #[.int .i64 x.vo, .int .i64 x.bl, .int .i64 x.sz, .int .i64 x.pe, .slice q1 x.place.length d1, .int .i64 x.to, .int .i64 x.ne, .bool x.hi, .int .i64 x.fl, .slice q2 x.pins.length d2, .slice q3 ny d3]] w0 fun e w' => e = .returned (.bool true) ∧ Below w0.heap.size w0 w' :=
 (mpre x x p1 p2 p3 q1 q2 q3 c1 c2 c3 d1 d2 d3 nx ny w0 hx hx h1 h3 h4 h6).mono fun e w' h => ⟨by rw [h.1, decide_eq_true (show preE x x from ⟨⟨rfl, rfl, rfl, rfl, rfl, rfl⟩, Nat.le_refl _, (List.take_length).symm⟩)], h.2⟩
theorem preF (pe : Int) (pl9 : List Int) (p1 p2 p3 : Option Addr) (c1 c2 c3 nx : Nat) (w0 : World) (hx : VolB (V1k pe pl9)) (h1 : Rd (fun _ => True) w0 (.slice p1 (V1k pe pl9).place.length c1) (.ns .i64 (V1k pe pl9).place)) (h3 : Rd (fun _ => True) w0 (.slice p3 nx c3) (.l 2 ((V1k pe pl9).ws.map wrD))) :
   Calls Tryz.prog 36 #[.agg #[.int .i64 (V1k pe pl9).vo, .int .i64 (V1k pe pl9).bl, .int .i64 (V1k pe pl9).sz, .int .i64 (V1k pe pl9).pe, .slice p1 (V1k pe pl9).place.length c1, .int .i64 (V1k pe pl9).to, .int .i64 (V1k pe pl9).ne, .bool (V1k pe pl9).hi, .int .i64 (V1k pe pl9).fl, .slice p2 (V1k pe pl9).pins.length c2, .slice p3 nx c3], .agg #[.int .i64 0, .int .i64 0, .int .i64 0, .int .i64 0, .slice none 0 0, .int .i64 0, .int .i64 0, .bool false, .int .i64 0, .slice none 0 0, .slice none 0 0]] w0 fun e w' => e = .returned (.bool false) ∧ Below w0.heap.size w0 w' :=
 (mpre (V1k pe pl9) volZ p1 p2 p3 none none none c1 c2 c3 0 0 0 nx 0 w0 hx ⟨by simp [volZ], by simp [volZ], by simp [volZ], by simp [volZ]⟩ h1 h3 (Rd.nilN _ _ .i64 none) (Rd.l0 none 0 2)).mono fun e w' h => ⟨by rw [h.1, decide_eq_false (show ¬ preE (V1k pe pl9) volZ from fun h9 => by have := h9.1.2.1; simp [V1k, volZ] at this)], h.2⟩
set_option maxRecDepth 100000
set_option maxHeartbeats 4000000
theorem cutF {p q : Prop} (h : p → q) (hp : p) : q := h hp
theorem known26 (w0 : World) : Calls Tryz.prog 31 #[] w0 fun e w' => e = .returned (.bool true) ∧ Below w0.heap.size w0 w' := by
 refine ent0 Tryz.func31 rfl Tryz.ntmps31 fun Az Hz => ?_
 have m0 := MemOk.start (fun _ => False) w0
 refine regS Hz (.assign rfl .nil) fun Az Hz => ?_
 refine zsr fun K0 hK0 => ?_
 refine plz (ecl Hz Tryz.func42 rfl (create_k _) ?_)
 rintro e w2 ⟨pe, pl9, p2, c2, rfl, hN, ho2, hb2⟩
 have m3 := m0.callF 20 rfl hb2 ho2
 refine ⟨_, rfl, ?_⟩; intro Az Hz
 refine plz (e_litN Hz m3 21 (k := .u8) rfl rfl U22 fct0 rfl rfl rfl rfl fun g5 Az w6 Hz m6 => ?_)
 refine plz (e_cvN Hz m6 21 rfl rfl U22 U5 rfl fun Az w7 Hz m7 => ?_)
 refine goCh Hz (.build rfl fct4 fl59kn6 rfl (by dsimp only [setL, List.set] <;> rfl) .nil) fun Az Hz => ?_
 refine plz (e_litR Hz m7 22 (mm := 2) rfl (.cons rfl rfl (.cons (.v _) (.cons (m7.rd (i := 21) rfl) .nil)) .nil) U36 fct5 rfl rfl rfl rfl rfl fun g9 Az w10 Hz m10 => ?_)
 refine goCh Hz (.build rfl fct24 fl38kn6 rfl (by dsimp only [setL, List.set] <;> rfl) .nil) fun Az Hz => ?_
 have m13 := m10.freezeR 22 rfl
 refine plz (e_litR Hz m13 23 (mm := 10) rfl (.cons rfl rfl (.cons (.v _) (.cons (.v _) (.cons (.v _) (.cons (.v _) (.cons (.v _) (.cons (m13.rd (i := 20) rfl) (.cons (.v _) (.cons (.v _) (.cons (.v _) (.cons (.l0 _ _ 2) .nil)))))))))) <| .cons rfl rfl (.cons (.v _) (.cons (.v _) (.cons (.v _) (.cons (.v _) (.cons (.v _) (.cons (Rd.nilN _ _ .i64 _) (.cons (.v _) (.cons (.v _) (.cons (.v _) (.cons (m13.rd (i := 22) rfl) .nil)))))))))) .nil) U24 fct36 rfl rfl rfl rfl rfl fun g12 Az w14 Hz m14 => ?_)
 refine gz hK0 Hz (.assign rfl .nil) fun Az Hz => ?_
 replace Hz := Hz.oz [0, 1]
 refine zsr fun K1 hK1 => ?_
 refine goCh Hz (.move rfl .nil) fun Az Hz => ?_
 have m19 := m14.freezeR 23 rfl
 refine plz (ecl Hz Tryz.func33 rfl (replay_k pe pl9 hN _ _ _ _ ((m19.rd (i := 23) rfl).any)) ?_)
 rintro e w20 ⟨p20, c20, rfl, ho20, hb20⟩
 have m21 := m19.callF 24 rfl hb20 ho20
 refine ⟨_, rfl, ?_⟩; intro Az Hz
 refine gz hK1 Hz (.assign rfl .nil) fun Az Hz => ?_
 refine wsk fun K2 hK2 => ?_
 refine regS Hz (.move rfl <| .len rfl U30 <| .neq rfl rfl .nil) fun Az Hz => ?_
 refine bc Hz 16 ?_ ?_
 · intro hb _; exact absurd hb (by simp)
 clear Hz; intro _ Hz
 refine wcf Hz ?_
 refine zss (hK2 _ _ ?_)
 refine wsk fun K3 hK3 => ?_
 refine cutF (fun (hC3 : ∀ (a : Act) (w : World), (∃ (B : Nat) (pa qa sa : Option Addr) (ca da fa : Nat), Has 73 [(2, .slice sa 1 fa), (3, .pointer (some ⟨B, 0, none⟩))] a ∧ MemOk (cn w0) w0 [(30, .box B 76 [.int .i64 1, .int .i64 2, .int .i64 0, .int .i64 0, .int .i64 0, .int .i64 0, .slice pa 0 ca, .int .i64 0, .int .i64 0, .int .i64 0, .slice qa 1 da, .int .i64 0, .int .i64 1, .int .i64 0, .int .i64 1, .int .i64 0, .int .i64 0, .slice none 0 0]), (31, .dat (.slice pa 0 ca) (.ns .i64 [])), (32, .dat (.slice qa 1 da) (.l 2 [[.v (.int .i64 0), .ns .u8 [120]]])), (34, .dat (.slice sa 1 fa) (.l 11 [[.v (.int .i64 0), .v (.int .i64 3), .v (.int .i64 1), .v (.int .i64 pe), .ns .i64 pl9, .v (.int .i64 0), .v (.int .i64 0), .v (.bool false), .v (.int .i64 0), .ns .i64 [], .l 2 ([((1 : Int), [((0 : Int), [(120 : Int)])])].map wrD)]]))] w) → K3 a w) => ?_) ?_
 ·
  refine wp_region_lit ?_
  refine goCh Hz (.move rfl .nil) fun Az Hz => ?_
  obtain ⟨b139, o139, vs139, hp139, hR139, ho139, m139⟩ := m21.openR (i := 23) rfl (1) (r := [.v (.int .i64 2), .v (.int .i64 0), .v (.int .i64 0), .v (.int .i64 0), .v (.int .i64 0), .ns .i64 [], .v (.int .i64 0), .v (.int .i64 0), .v (.int .i64 0), .l 2 [[.v (.int .i64 0), .ns .u8 [120]]]]) rfl 25 rfl
  revert Hz
  cases hp139; clear m21 ho139
  rcases hR139 with _ | ⟨hd139_0, _ | ⟨hd139_1, _ | ⟨hd139_2, _ | ⟨hd139_3, _ | ⟨hd139_4, _ | ⟨hd139_5, _ | ⟨hd139_6, _ | ⟨hd139_7, _ | ⟨hd139_8, _ | ⟨hd139_9, _ | _⟩⟩⟩⟩⟩⟩⟩⟩⟩⟩
  obtain rfl := hd139_0.v_out
  clear hd139_0
  obtain rfl := hd139_1.v_out
  clear hd139_1
  obtain rfl := hd139_2.v_out
  clear hd139_2
  obtain rfl := hd139_3.v_out
  clear hd139_3
  obtain rfl := hd139_4.v_out
  clear hd139_4
  obtain ⟨p140, c140, hv140, hc140⟩ := hd139_5.ns_shape; subst hv140
  intro Hz
  have m140 := m139.dat 26 rfl (hd139_5.cast (fun _ h => (free_add rfl h))); clear m139 hd139_5
  revert Hz
  obtain rfl := hd139_6.v_out
  clear hd139_6
  obtain rfl := hd139_7.v_out
  clear hd139_7
  obtain rfl := hd139_8.v_out
  clear hd139_8
  obtain ⟨p141, c141, hv141, hc141⟩ := hd139_9.l_shape; subst hv141
  intro Hz
  have m141 := m140.dat 27 rfl (hd139_9.cast (fun _ h => (free_add rfl (free_add rfl h)))); clear m140 hd139_9
  refine goCh Hz (.c rfl (fun _ h_ => y_idx h_ rfl rfl U24 fct19 (1) rfl (by decide)) <| .loadCR m141 (i := 25) rfl rfl U38 rfl fct19 <| .build rfl fct29 fl44kn6 rfl (by dsimp only [setL, List.set] <;> rfl) <| .buildG rfl fct38 ps76kn6 rfl .nil) fun Az Hz => ?_
  refine plz (e_alloc Hz m141 28 fct38 rfl fun g146 Az w147 Hz m147 _ _ => ?_)
  refine plz (stw Hz m147 28 fct16 fun w148 m148 _ => ?_)
  refine wpList_nil ?_
  show K3 _ _
  exact hC3 _ _ ⟨_, _, _, _, _, _, _, Hz.only [2, 3], m148.ren [(30, 28), (31, 26), (32, 27), (34, 24)] (by decide)⟩
 clear Hz m21
 rintro Az w28 ⟨B, pa, qa, sa, ca, da, fa, Hz, m28⟩
 refine hK3 _ _ ?_
 refine zsr fun K4 hK4 => ?_
 refine goCh Hz (.loadBR m28 (i := 30) rfl rfl U76 rfl fct16 (by simp) (by dsimp only [List.drop, List.take] <;> rfl) .nil) fun Az Hz => ?_
 refine plz (e_alloc Hz m28 100 fct38 rfl fun g31 Az w32 Hz m32 _ _ => ?_)
 refine plz (stw Hz m32 100 fct16 fun w33 m33 _ => ?_)
 refine znl (hK4 _ _ ?_)
 refine zsr fun K5 hK5 => ?_
 refine goCh Hz (.fieldAddr (off := 13) rfl U76 rfl (s := 4) (by kernel_rfl) rfl <| .fa 14 rfl U44 .nil) fun Az Hz => ?_
 refine plz (st1 Hz m33 100 fct18 fun w38 m38 _ => ?_)
 refine znl (hK5 _ _ ?_)
 refine wsk fun K6 hK6 => ?_
 obtain ⟨b39, o39, vs39, hp39, hR39, ho39, m39⟩ := m38.openR (i := 34) rfl (0) (r := [.v (.int .i64 0), .v (.int .i64 3), .v (.int .i64 1), .v (.int .i64 pe), .ns .i64 pl9, .v (.int .i64 0), .v (.int .i64 0), .v (.bool false), .v (.int .i64 0), .ns .i64 [], .l 2 ([((1 : Int), [((0 : Int), [(120 : Int)])])].map wrD)]) rfl 101 rfl
 revert Hz
 cases hp39; clear m38 ho39
 rcases hR39 with _ | ⟨hd39_0, _ | ⟨hd39_1, _ | ⟨hd39_2, _ | ⟨hd39_3, _ | ⟨hd39_4, _ | ⟨hd39_5, _ | ⟨hd39_6, _ | ⟨hd39_7, _ | ⟨hd39_8, _ | ⟨hd39_9, _ | ⟨hd39_10, _ | _⟩⟩⟩⟩⟩⟩⟩⟩⟩⟩⟩
 obtain rfl := hd39_0.v_out
 clear hd39_0
 obtain rfl := hd39_1.v_out
 clear hd39_1
 obtain rfl := hd39_2.v_out
 clear hd39_2
 obtain rfl := hd39_3.v_out
 clear hd39_3
 obtain ⟨p40, c40, hv40, hc40⟩ := hd39_4.ns_shape; subst hv40
 intro Hz
 have m40 := m39.dat 102 rfl (hd39_4.cast (fun _ h => (free_add rfl h))); clear m39 hd39_4
 revert Hz
 obtain rfl := hd39_5.v_out
 clear hd39_5
 obtain rfl := hd39_6.v_out
 clear hd39_6
 obtain rfl := hd39_7.v_out
 clear hd39_7
 obtain rfl := hd39_8.v_out
 clear hd39_8
 obtain ⟨p41, c41, hv41, hc41⟩ := hd39_9.ns_shape; subst hv41
 intro Hz
 have m41 := m40.dat 103 rfl (hd39_9.cast (fun _ h => (free_add rfl (free_add rfl h)))); clear m40 hd39_9
 revert Hz
 obtain ⟨p42, c42, hv42, hc42⟩ := hd39_10.l_shape; subst hv42
 intro Hz
 have m42 := m41.dat 104 rfl (hd39_10.cast (fun _ h => (free_add rfl (free_add rfl (free_add rfl h))))); clear m41 hd39_10
 obtain ⟨b43, o43, vs43, hp43, hR43, ho43, m43⟩ := m42.openR (i := 34) rfl (0) (r := [.v (.int .i64 0), .v (.int .i64 3), .v (.int .i64 1), .v (.int .i64 pe), .ns .i64 pl9, .v (.int .i64 0), .v (.int .i64 0), .v (.bool false), .v (.int .i64 0), .ns .i64 [], .l 2 ([((1 : Int), [((0 : Int), [(120 : Int)])])].map wrD)]) rfl 105 rfl
 revert Hz
 cases hp43; clear m42 ho43
 rcases hR43 with _ | ⟨hd43_0, _ | ⟨hd43_1, _ | ⟨hd43_2, _ | ⟨hd43_3, _ | ⟨hd43_4, _ | ⟨hd43_5, _ | ⟨hd43_6, _ | ⟨hd43_7, _ | ⟨hd43_8, _ | ⟨hd43_9, _ | ⟨hd43_10, _ | _⟩⟩⟩⟩⟩⟩⟩⟩⟩⟩⟩
 obtain rfl := hd43_0.v_out
 clear hd43_0
 obtain rfl := hd43_1.v_out
 clear hd43_1
 obtain rfl := hd43_2.v_out
 clear hd43_2
 obtain rfl := hd43_3.v_out
 clear hd43_3
 obtain ⟨p44, c44, hv44, hc44⟩ := hd43_4.ns_shape; subst hv44
 intro Hz
 have m44 := m43.dat 106 rfl (hd43_4.cast (fun _ h => (free_add rfl h))); clear m43 hd43_4
 revert Hz
 obtain rfl := hd43_5.v_out
 clear hd43_5
 obtain rfl := hd43_6.v_out
 clear hd43_6
 obtain rfl := hd43_7.v_out
 clear hd43_7
 obtain rfl := hd43_8.v_out
 clear hd43_8
 obtain ⟨p45, c45, hv45, hc45⟩ := hd43_9.ns_shape; subst hv45
 intro Hz
 have m45 := m44.dat 107 rfl (hd43_9.cast (fun _ h => (free_add rfl (free_add rfl h)))); clear m44 hd43_9
 revert Hz
 obtain ⟨p46, c46, hv46, hc46⟩ := hd43_10.l_shape; subst hv46
 intro Hz
 have m46 := m45.dat 108 rfl (hd43_10.cast (fun _ h => (free_add rfl (free_add rfl (free_add rfl h))))); clear m45 hd43_10
 obtain ⟨b47, o47, vs47, hp47, hR47, ho47, m47⟩ := m46.openR (i := 34) rfl (0) (r := [.v (.int .i64 0), .v (.int .i64 3), .v (.int .i64 1), .v (.int .i64 pe), .ns .i64 pl9, .v (.int .i64 0), .v (.int .i64 0), .v (.bool false), .v (.int .i64 0), .ns .i64 [], .l 2 ([((1 : Int), [((0 : Int), [(120 : Int)])])].map wrD)]) rfl 109 rfl
 revert Hz
 cases hp47; clear m46 ho47
 rcases hR47 with _ | ⟨hd47_0, _ | ⟨hd47_1, _ | ⟨hd47_2, _ | ⟨hd47_3, _ | ⟨hd47_4, _ | ⟨hd47_5, _ | ⟨hd47_6, _ | ⟨hd47_7, _ | ⟨hd47_8, _ | ⟨hd47_9, _ | ⟨hd47_10, _ | _⟩⟩⟩⟩⟩⟩⟩⟩⟩⟩⟩
 obtain rfl := hd47_0.v_out
 clear hd47_0
 obtain rfl := hd47_1.v_out
 clear hd47_1
 obtain rfl := hd47_2.v_out
 clear hd47_2
 obtain rfl := hd47_3.v_out
 clear hd47_3
 obtain ⟨p48, c48, hv48, hc48⟩ := hd47_4.ns_shape; subst hv48
 intro Hz
 have m48 := m47.dat 110 rfl (hd47_4.cast (fun _ h => (free_add rfl h))); clear m47 hd47_4
 revert Hz
 obtain rfl := hd47_5.v_out
 clear hd47_5
 obtain rfl := hd47_6.v_out
 clear hd47_6
 obtain rfl := hd47_7.v_out
 clear hd47_7
 obtain rfl := hd47_8.v_out
 clear hd47_8
 obtain ⟨p49, c49, hv49, hc49⟩ := hd47_9.ns_shape; subst hv49
 intro Hz
 have m49 := m48.dat 111 rfl (hd47_9.cast (fun _ h => (free_add rfl (free_add rfl h)))); clear m48 hd47_9
 revert Hz
 obtain ⟨p50, c50, hv50, hc50⟩ := hd47_10.l_shape; subst hv50
 intro Hz
 have m50 := m49.dat 112 rfl (hd47_10.cast (fun _ h => (free_add rfl (free_add rfl (free_add rfl h))))); clear m49 hd47_10
 obtain ⟨b51, o51, vs51, hp51, hR51, ho51, m51⟩ := m50.openR (i := 34) rfl (0) (r := [.v (.int .i64 0), .v (.int .i64 3), .v (.int .i64 1), .v (.int .i64 pe), .ns .i64 pl9, .v (.int .i64 0), .v (.int .i64 0), .v (.bool false), .v (.int .i64 0), .ns .i64 [], .l 2 ([((1 : Int), [((0 : Int), [(120 : Int)])])].map wrD)]) rfl 113 rfl
 revert Hz
 cases hp51; clear m50 ho51
 rcases hR51 with _ | ⟨hd51_0, _ | ⟨hd51_1, _ | ⟨hd51_2, _ | ⟨hd51_3, _ | ⟨hd51_4, _ | ⟨hd51_5, _ | ⟨hd51_6, _ | ⟨hd51_7, _ | ⟨hd51_8, _ | ⟨hd51_9, _ | ⟨hd51_10, _ | _⟩⟩⟩⟩⟩⟩⟩⟩⟩⟩⟩
 obtain rfl := hd51_0.v_out
 clear hd51_0
 obtain rfl := hd51_1.v_out
 clear hd51_1
 obtain rfl := hd51_2.v_out
 clear hd51_2
 obtain rfl := hd51_3.v_out
 clear hd51_3
 obtain ⟨p52, c52, hv52, hc52⟩ := hd51_4.ns_shape; subst hv52
 intro Hz
 have m52 := m51.dat 114 rfl (hd51_4.cast (fun _ h => (free_add rfl h))); clear m51 hd51_4
 revert Hz
 obtain rfl := hd51_5.v_out
 clear hd51_5
 obtain rfl := hd51_6.v_out
 clear hd51_6
 obtain rfl := hd51_7.v_out
 clear hd51_7
 obtain rfl := hd51_8.v_out
 clear hd51_8
 obtain ⟨p53, c53, hv53, hc53⟩ := hd51_9.ns_shape; subst hv53
 intro Hz
 have m53 := m52.dat 115 rfl (hd51_9.cast (fun _ h => (free_add rfl (free_add rfl h)))); clear m52 hd51_9
 revert Hz
 obtain ⟨p54, c54, hv54, hc54⟩ := hd51_10.l_shape; subst hv54
 intro Hz
 have m54 := m53.dat 116 rfl (hd51_10.cast (fun _ h => (free_add rfl (free_add rfl (free_add rfl h))))); clear m53 hd51_10
 obtain ⟨b55, o55, vs55, hp55, hR55, ho55, m55⟩ := m54.openR (i := 34) rfl (0) (r := [.v (.int .i64 0), .v (.int .i64 3), .v (.int .i64 1), .v (.int .i64 pe), .ns .i64 pl9, .v (.int .i64 0), .v (.int .i64 0), .v (.bool false), .v (.int .i64 0), .ns .i64 [], .l 2 ([((1 : Int), [((0 : Int), [(120 : Int)])])].map wrD)]) rfl 117 rfl
 revert Hz
 cases hp55; clear m54 ho55
 rcases hR55 with _ | ⟨hd55_0, _ | ⟨hd55_1, _ | ⟨hd55_2, _ | ⟨hd55_3, _ | ⟨hd55_4, _ | ⟨hd55_5, _ | ⟨hd55_6, _ | ⟨hd55_7, _ | ⟨hd55_8, _ | ⟨hd55_9, _ | ⟨hd55_10, _ | _⟩⟩⟩⟩⟩⟩⟩⟩⟩⟩⟩
 obtain rfl := hd55_0.v_out
 clear hd55_0
 obtain rfl := hd55_1.v_out
 clear hd55_1
 obtain rfl := hd55_2.v_out
 clear hd55_2
 obtain rfl := hd55_3.v_out
 clear hd55_3
 obtain ⟨p56, c56, hv56, hc56⟩ := hd55_4.ns_shape; subst hv56
 intro Hz
 have m56 := m55.dat 118 rfl (hd55_4.cast (fun _ h => (free_add rfl h))); clear m55 hd55_4
 revert Hz
 obtain rfl := hd55_5.v_out
 clear hd55_5
 obtain rfl := hd55_6.v_out
 clear hd55_6
 obtain rfl := hd55_7.v_out
 clear hd55_7
 obtain rfl := hd55_8.v_out
 clear hd55_8
 obtain ⟨p57, c57, hv57, hc57⟩ := hd55_9.ns_shape; subst hv57
 intro Hz
 have m57 := m56.dat 119 rfl (hd55_9.cast (fun _ h => (free_add rfl (free_add rfl h)))); clear m56 hd55_9
 revert Hz
 obtain ⟨p58, c58, hv58, hc58⟩ := hd55_10.l_shape; subst hv58
 intro Hz
 have m58 := m57.dat 120 rfl (hd55_10.cast (fun _ h => (free_add rfl (free_add rfl (free_add rfl h))))); clear m57 hd55_10
 obtain ⟨b59, o59, vs59, hp59, hR59, ho59, m59⟩ := m58.openR (i := 34) rfl (0) (r := [.v (.int .i64 0), .v (.int .i64 3), .v (.int .i64 1), .v (.int .i64 pe), .ns .i64 pl9, .v (.int .i64 0), .v (.int .i64 0), .v (.bool false), .v (.int .i64 0), .ns .i64 [], .l 2 ([((1 : Int), [((0 : Int), [(120 : Int)])])].map wrD)]) rfl 121 rfl
 revert Hz
 cases hp59; clear m58 ho59
 rcases hR59 with _ | ⟨hd59_0, _ | ⟨hd59_1, _ | ⟨hd59_2, _ | ⟨hd59_3, _ | ⟨hd59_4, _ | ⟨hd59_5, _ | ⟨hd59_6, _ | ⟨hd59_7, _ | ⟨hd59_8, _ | ⟨hd59_9, _ | ⟨hd59_10, _ | _⟩⟩⟩⟩⟩⟩⟩⟩⟩⟩⟩
 obtain rfl := hd59_0.v_out
 clear hd59_0
 obtain rfl := hd59_1.v_out
 clear hd59_1
 obtain rfl := hd59_2.v_out
 clear hd59_2
 obtain rfl := hd59_3.v_out
 clear hd59_3
 obtain ⟨p60, c60, hv60, hc60⟩ := hd59_4.ns_shape; subst hv60
 intro Hz
 have m60 := m59.dat 122 rfl (hd59_4.cast (fun _ h => (free_add rfl h))); clear m59 hd59_4
 revert Hz
 obtain rfl := hd59_5.v_out
 clear hd59_5
 obtain rfl := hd59_6.v_out
 clear hd59_6
 obtain rfl := hd59_7.v_out
 clear hd59_7
 obtain rfl := hd59_8.v_out
 clear hd59_8
 obtain ⟨p61, c61, hv61, hc61⟩ := hd59_9.ns_shape; subst hv61
 intro Hz
 have m61 := m60.dat 123 rfl (hd59_9.cast (fun _ h => (free_add rfl (free_add rfl h)))); clear m60 hd59_9
 revert Hz
 obtain ⟨p62, c62, hv62, hc62⟩ := hd59_10.l_shape; subst hv62
 intro Hz
 have m62 := m61.dat 124 rfl (hd59_10.cast (fun _ h => (free_add rfl (free_add rfl (free_add rfl h))))); clear m61 hd59_10
 obtain ⟨b63, o63, vs63, hp63, hR63, ho63, m63⟩ := m62.openR (i := 34) rfl (0) (r := [.v (.int .i64 0), .v (.int .i64 3), .v (.int .i64 1), .v (.int .i64 pe), .ns .i64 pl9, .v (.int .i64 0), .v (.int .i64 0), .v (.bool false), .v (.int .i64 0), .ns .i64 [], .l 2 ([((1 : Int), [((0 : Int), [(120 : Int)])])].map wrD)]) rfl 125 rfl
 revert Hz
 cases hp63; clear m62 ho63
 rcases hR63 with _ | ⟨hd63_0, _ | ⟨hd63_1, _ | ⟨hd63_2, _ | ⟨hd63_3, _ | ⟨hd63_4, _ | ⟨hd63_5, _ | ⟨hd63_6, _ | ⟨hd63_7, _ | ⟨hd63_8, _ | ⟨hd63_9, _ | ⟨hd63_10, _ | _⟩⟩⟩⟩⟩⟩⟩⟩⟩⟩⟩
 obtain rfl := hd63_0.v_out
 clear hd63_0
 obtain rfl := hd63_1.v_out
 clear hd63_1
 obtain rfl := hd63_2.v_out
 clear hd63_2
 obtain rfl := hd63_3.v_out
 clear hd63_3
 obtain ⟨p64, c64, hv64, hc64⟩ := hd63_4.ns_shape; subst hv64
 intro Hz
 have m64 := m63.dat 126 rfl (hd63_4.cast (fun _ h => (free_add rfl h))); clear m63 hd63_4
 revert Hz
 obtain rfl := hd63_5.v_out
 clear hd63_5
 obtain rfl := hd63_6.v_out
 clear hd63_6
 obtain rfl := hd63_7.v_out
 clear hd63_7
 obtain rfl := hd63_8.v_out
 clear hd63_8
 obtain ⟨p65, c65, hv65, hc65⟩ := hd63_9.ns_shape; subst hv65
 intro Hz
 have m65 := m64.dat 127 rfl (hd63_9.cast (fun _ h => (free_add rfl (free_add rfl h)))); clear m64 hd63_9
 revert Hz
 obtain ⟨p66, c66, hv66, hc66⟩ := hd63_10.l_shape; subst hv66
 intro Hz
 have m66 := m65.dat 128 rfl (hd63_10.cast (fun _ h => (free_add rfl (free_add rfl (free_add rfl h))))); clear m65 hd63_10
 obtain ⟨b67, o67, vs67, hp67, hR67, ho67, m67⟩ := m66.openR (i := 34) rfl (0) (r := [.v (.int .i64 0), .v (.int .i64 3), .v (.int .i64 1), .v (.int .i64 pe), .ns .i64 pl9, .v (.int .i64 0), .v (.int .i64 0), .v (.bool false), .v (.int .i64 0), .ns .i64 [], .l 2 ([((1 : Int), [((0 : Int), [(120 : Int)])])].map wrD)]) rfl 129 rfl
 revert Hz
 cases hp67; clear m66 ho67
 rcases hR67 with _ | ⟨hd67_0, _ | ⟨hd67_1, _ | ⟨hd67_2, _ | ⟨hd67_3, _ | ⟨hd67_4, _ | ⟨hd67_5, _ | ⟨hd67_6, _ | ⟨hd67_7, _ | ⟨hd67_8, _ | ⟨hd67_9, _ | ⟨hd67_10, _ | _⟩⟩⟩⟩⟩⟩⟩⟩⟩⟩⟩
 obtain rfl := hd67_0.v_out
 clear hd67_0
 obtain rfl := hd67_1.v_out
 clear hd67_1
 obtain rfl := hd67_2.v_out
 clear hd67_2
 obtain rfl := hd67_3.v_out
 clear hd67_3
 obtain ⟨p68, c68, hv68, hc68⟩ := hd67_4.ns_shape; subst hv68
 intro Hz
 have m68 := m67.dat 130 rfl (hd67_4.cast (fun _ h => (free_add rfl h))); clear m67 hd67_4
 revert Hz
 obtain rfl := hd67_5.v_out
 clear hd67_5
 obtain rfl := hd67_6.v_out
 clear hd67_6
 obtain rfl := hd67_7.v_out
 clear hd67_7
 obtain rfl := hd67_8.v_out
 clear hd67_8
 obtain ⟨p69, c69, hv69, hc69⟩ := hd67_9.ns_shape; subst hv69
 intro Hz
 have m69 := m68.dat 131 rfl (hd67_9.cast (fun _ h => (free_add rfl (free_add rfl h)))); clear m68 hd67_9
 revert Hz
 obtain ⟨p70, c70, hv70, hc70⟩ := hd67_10.l_shape; subst hv70
 intro Hz
 have m70 := m69.dat 132 rfl (hd67_10.cast (fun _ h => (free_add rfl (free_add rfl (free_add rfl h))))); clear m69 hd67_10
 have m71 := m70.oz [30, 31, 32, 34, 100, 101, 102, 103, 104, 105, 106, 107, 108, 109, 110, 111, 112, 113, 114, 115, 116, 117, 118, 119, 120, 121, 122, 123, 124, 125, 126, 127, 128, 129, 130, 131, 132]
 refine region_p 49 (B := [(30, _), (31, _), (32, _), (34, _), (100, _), (101, _), (102, _), (103, _), (104, _), (105, _), (106, _), (107, _), (108, _), (109, _), (110, _), (111, _), (112, _), (113, _), (114, _), (115, _), (116, _), (117, _), (118, _), (119, _), (120, _), (121, _), (122, _), (123, _), (124, _), (125, _), (126, _), (127, _), (128, _), (129, _), (130, _), (131, _), (132, _)]) (m71.to ⟨il, il, il, il, il, il, il, il, il, il, il, il, il, il, il, il, il, il, il, il, il, il, il, il, il, il, il, il, il, il, il, il, il, il, il, il, il, trivial⟩) m71 (by kernel_rfl) (fun w72 hP72 m72 => ?_); clear m71
 refine goR hP72 [0, 2, 3, 4] [0, 4] 4 0 29 Hz (m72.to ⟨il, il, il, il, il, il, il, il, il, il, il, il, il, il, il, il, il, il, il, il, il, il, il, il, il, il, il, il, il, il, il, il, il, il, il, il, il, trivial⟩) (.loadBR hh (i := 30) rfl rfl U76 rfl fct16 (by simp) (by dsimp only [List.drop, List.take] <;> rfl) <| .move rfl <| .p (fun _ _ h_ => y_idx h_ rfl rfl U30 fct13 (0) rfl (by decide)) <| .loadCR hh (i := 101) rfl rfl U51 rfl fct13 .nil) fun Az Hz => ?_
 refine so 1 ?_
 refine e_litR Hz m72 133 (mm := 18) rfl (.cons rfl rfl (.cons (.v _) (.cons (.v _) (.cons (.v _) (.cons (.v _) (.cons (.v _) (.cons (.v _) (.cons (m72.rd (i := 31) rfl) (.cons (.v _) (.cons (.v _) (.cons (.v _) (.cons (m72.rd (i := 32) rfl) (.cons (.v _) (.cons (.v _) (.cons (.v _) (.cons (.v _) (.cons (.v _) (.cons (.v _) (.cons (Rd.nilN _ _ .u8 _) .nil)))))))))))))))))) .nil) U74 fct37 rfl rfl rfl rfl rfl fun g77 Az w78 Hz m78 => ?_
 refine ⟨m78.to ⟨il, il, il, il, il, il, il, il, il, il, il, il, il, il, il, il, il, il, il, il, il, il, il, il, il, il, il, il, il, il, il, il, il, il, il, il, il, trivial⟩, ?_⟩
 have m79 := m78.freezeR 133 rfl
 refine so 5 ?_
 refine ecb Hz Tryz.func38 rfl m79 (ordT [T1k] (V1k pe pl9) _ (ordK1 pe pl9) _ _ _ _ _ _ _ _ _ _ _ _ _ ((m79.rd (i := 133) rfl).any) ((m79.rd (i := 104) rfl).any) tk1 (vkB pe pl9) (by decide) (vkL pe pl9)) fun Az w80 Hz m81 => ?_
 refine ⟨m81.to ⟨il, il, il, il, il, il, il, il, il, il, il, il, il, il, il, il, il, il, il, il, il, il, il, il, il, il, il, il, il, il, il, il, il, il, il, il, il, trivial⟩, ?_⟩
 refine goR hP72 [6, 7, 9, 10, 11] [7, 11] 5 63 3839 Hz (m81.to ⟨il, il, il, il, il, il, il, il, il, il, il, il, il, il, il, il, il, il, il, il, il, il, il, il, il, il, il, il, il, il, il, il, il, il, il, il, il, trivial⟩) (.move rfl <| .loadBR hh (i := 100) rfl rfl U76 rfl fct16 (by simp) (by dsimp only [List.drop, List.take] <;> rfl) <| .move rfl <| .p (fun _ _ h_ => y_idx h_ rfl rfl U30 fct13 (0) rfl (by decide)) <| .loadCR hh (i := 105) rfl rfl U51 rfl fct13 .nil) fun Az Hz => ?_
 refine stepE_only 8 rfl (by kernel_rfl) (wantedG Hz rfl rfl rfl rfl) (fun K hK => ?_)
 refine e_litR Hz m81 134 (mm := 18) rfl (.cons rfl rfl (.cons (.v _) (.cons (.v _) (.cons (.v _) (.cons (.v _) (.cons (.v _) (.cons (.v _) (.cons (m81.rd (i := 31) rfl) (.cons (.v _) (.cons (.v _) (.cons (.v _) (.cons (m81.rd (i := 32) rfl) (.cons (.v _) (.cons (.v _) (.cons (.v _) (.cons (.v _) (.cons (.v _) (.cons (.v _) (.cons (Rd.nilN _ _ .u8 _) .nil)))))))))))))))))) .nil) U74 fct37 rfl rfl rfl rfl rfl ?_
 intro g88 Az w89 Hz m89
 refine hK _ _ (m89.to ⟨il, il, il, il, il, il, il, il, il, il, il, il, il, il, il, il, il, il, il, il, il, il, il, il, il, il, il, il, il, il, il, il, il, il, il, il, il, trivial⟩) ?_; clear hK K
 have m90 := m89.freezeR 134 rfl
 refine stepE_only 12 rfl (by kernel_rfl) (wantedG Hz rfl rfl rfl rfl) (fun K hK => ?_)
 refine e_call Hz Tryz.func38 rfl rfl rfl rfl (ordT [T2k] (V1k pe pl9) _ (ordK2 pe pl9) _ _ _ _ _ _ _ _ _ _ _ _ _ ((m90.rd (i := 134) rfl).any) ((m90.rd (i := 108) rfl).any) tk2 (vkB pe pl9) (by decide) (vkL pe pl9)) ?_
 rintro e w91 ⟨rfl, hb91⟩
 have m92 := m90.later hb91
 refine ⟨_, rfl, ?_⟩; intro Az Hz
 refine hK _ _ (m92.to ⟨il, il, il, il, il, il, il, il, il, il, il, il, il, il, il, il, il, il, il, il, il, il, il, il, il, il, il, il, il, il, il, il, il, il, il, il, il, trivial⟩) ?_; clear hK K
 refine goR hP72 [13, 14, 15, 16, 17, 18] [18] 6 8191 524287 Hz (m92.to ⟨il, il, il, il, il, il, il, il, il, il, il, il, il, il, il, il, il, il, il, il, il, il, il, il, il, il, il, il, il, il, il, il, il, il, il, il, il, trivial⟩) (.not rfl <| .pickT rfl rfl <| .move rfl <| .move rfl <| .p (fun _ _ h_ => y_idx h_ rfl rfl U30 fct13 (0) rfl (by decide)) <| .loadCR hh (i := 109) rfl rfl U51 rfl fct13 .nil) fun Az Hz => ?_
 refine stepE_only 19 rfl (by kernel_rfl) (wantedG Hz rfl rfl rfl rfl) (fun K hK => ?_)
 refine e_call Hz Tryz.func38 rfl rfl rfl rfl (ordT [] (V1k pe pl9) _ (ordK3 pe pl9) _ _ _ _ _ _ _ _ _ _ _ _ _ (.l0 none 0 18) ((m92.rd (i := 112) rfl).any) tk0 (vkB pe pl9) (Nat.zero_le _) (vkL pe pl9)) ?_
 rintro e w100 ⟨rfl, hb100⟩
 have m101 := m92.later hb100
 refine ⟨_, rfl, ?_⟩; intro Az Hz
 refine hK _ _ (m101.to ⟨il, il, il, il, il, il, il, il, il, il, il, il, il, il, il, il, il, il, il, il, il, il, il, il, il, il, il, il, il, il, il, il, il, il, il, il, il, trivial⟩) ?_; clear hK K
 refine goR hP72 [20, 21, 22, 23, 24, 25, 26, 27, 28] [25, 28] 9 1048575 536870911 Hz (m101.to ⟨il, il, il, il, il, il, il, il, il, il, il, il, il, il, il, il, il, il, il, il, il, il, il, il, il, il, il, il, il, il, il, il, il, il, il, il, il, trivial⟩) (.not rfl <| .pickT rfl rfl <| .move rfl <| .move rfl <| .p (fun _ _ h_ => y_idx h_ rfl rfl U30 fct13 (0) rfl (by decide)) <| .loadCR hh (i := 113) rfl rfl U51 rfl fct13 <| .move rfl <| .p (fun _ _ h_ => y_idx h_ rfl rfl U30 fct13 (0) rfl (by decide)) <| .loadCR hh (i := 117) rfl rfl U51 rfl fct13 .nil) fun Az Hz => ?_
 refine stepE_only 29 rfl (by kernel_rfl) (wantedG Hz rfl rfl rfl rfl) (fun K hK => ?_)
 refine e_call Hz Tryz.func35 rfl rfl rfl rfl (sameT (V1k pe pl9) _ _ _ _ _ _ _ _ _ _ _ _ _ _ _ (v1kB hN) ((m101.rd (i := 114) rfl).any) ((m101.rd (i := 115) rfl).any) ((m101.rd (i := 116) rfl).any) ((m101.rd (i := 118) rfl).any) ((m101.rd (i := 119) rfl).any) ((m101.rd (i := 120) rfl).any)) ?_
 rintro e w112 ⟨rfl, hb112⟩
 have m113 := m101.later hb112
 refine ⟨_, rfl, ?_⟩; intro Az Hz
 refine hK _ _ (m113.to ⟨il, il, il, il, il, il, il, il, il, il, il, il, il, il, il, il, il, il, il, il, il, il, il, il, il, il, il, il, il, il, il, il, il, il, il, il, il, trivial⟩) ?_; clear hK K
 refine goR hP72 [30, 31, 32, 33, 34, 35, 36, 37] [34, 37] 8 1073741823 274877906943 Hz (m113.to ⟨il, il, il, il, il, il, il, il, il, il, il, il, il, il, il, il, il, il, il, il, il, il, il, il, il, il, il, il, il, il, il, il, il, il, il, il, il, trivial⟩) (.pickT rfl rfl <| .move rfl <| .move rfl <| .p (fun _ _ h_ => y_idx h_ rfl rfl U30 fct13 (0) rfl (by decide)) <| .loadCR hh (i := 121) rfl rfl U51 rfl fct13 <| .move rfl <| .p (fun _ _ h_ => y_idx h_ rfl rfl U30 fct13 (0) rfl (by decide)) <| .loadCR hh (i := 125) rfl rfl U51 rfl fct13 .nil) fun Az Hz => ?_
 refine stepE_only 38 rfl (by kernel_rfl) (wantedG Hz rfl rfl rfl rfl) (fun K hK => ?_)
 refine e_call Hz Tryz.func36 rfl rfl rfl rfl (preT (V1k pe pl9) _ _ _ _ _ _ _ _ _ _ _ _ _ _ _ (v1kB hN) ((m113.rd (i := 122) rfl).any) ((m113.rd (i := 124) rfl).any) ((m113.rd (i := 126) rfl).any) ((m113.rd (i := 128) rfl).any)) ?_
 rintro e w123 ⟨rfl, hb123⟩
 have m124 := m113.later hb123
 refine ⟨_, rfl, ?_⟩; intro Az Hz
 refine hK _ _ (m124.to ⟨il, il, il, il, il, il, il, il, il, il, il, il, il, il, il, il, il, il, il, il, il, il, il, il, il, il, il, il, il, il, il, il, il, il, il, il, il, trivial⟩) ?_; clear hK K
 refine goR hP72 [39, 40, 41, 42, 43, 44] [43] 6 549755813887 35184372088831 Hz (m124.to ⟨il, il, il, il, il, il, il, il, il, il, il, il, il, il, il, il, il, il, il, il, il, il, il, il, il, il, il, il, il, il, il, il, il, il, il, il, il, trivial⟩) (.pickT rfl rfl <| .move rfl <| .move rfl <| .p (fun _ _ h_ => y_idx h_ rfl rfl U30 fct13 (0) rfl (by decide)) <| .loadCR hh (i := 129) rfl rfl U51 rfl fct13 <| .build rfl fct14 fl51kn6 rfl (by dsimp only [setL, List.set] <;> rfl) .nil) fun Az Hz => ?_
 refine stepE_only 45 rfl (by kernel_rfl) (wantedG Hz rfl rfl rfl rfl) (fun K hK => ?_)
 refine e_call Hz Tryz.func36 rfl rfl rfl rfl (preF pe pl9 _ _ _ _ _ _ _ _ (v1kB hN) ((m124.rd (i := 130) rfl).any) ((m124.rd (i := 132) rfl).any)) ?_
 rintro e w132 ⟨rfl, hb132⟩
 have m133 := m124.later hb132
 refine ⟨_, rfl, ?_⟩; intro Az Hz
 refine hK _ _ (m133.to ⟨il, il, il, il, il, il, il, il, il, il, il, il, il, il, il, il, il, il, il, il, il, il, il, il, il, il, il, il, il, il, il, il, il, il, il, il, il, trivial⟩) ?_; clear hK K
 refine goA hP72 [46, 47, 48] 3 70368744177663 562949953421311 Hz (m133.to ⟨il, il, il, il, il, il, il, il, il, il, il, il, il, il, il, il, il, il, il, il, il, il, il, il, il, il, il, il, il, il, il, il, il, il, il, il, il, trivial⟩) (.not rfl <| .pickT rfl rfl <| .assign rfl .nil) fun Az Hz => ?_
 refine wpAnyE_done (by kernel_rfl) ?_ _
 refine hK6 _ _ ?_
 refine rt1 Hz ?_
 exact ⟨rfl, m133.below⟩
end
section
theorem volS_B {n : Nat} {x : VolV} (h : VolS n x) (hn : n ≤ 800000) : VolB x := by
 have h2 := h.sm
 obtain ⟨g1, g2, g3, g4, g5⟩ := h
 exact ⟨by omega, by omega, by omega, fun e he => ⟨by have := g1.its.2 e he; omega, g5 e he⟩⟩
theorem callF2 {w w' w0 : World} {X : Cx} {M : Mm} (m : MemOk X w0 M w) (i j : Nat) {u v : Value} {d e : D} (hi : lk M i = none) (hj : lk ((i, .dat u d) :: M) j = none) (hb : Below w.heap.size w w') (h1 : Rd (New w) w' u d) (h2 : Rd (New w) w' v e) : MemOk X w0 ((j, .dat v e) :: (i, .dat u d) :: M) w' :=
 (m.callF i hi hb h1).dat j hj (h2.cast (fun b hb => free_add rfl (m.free_out (.inr hb))))
set_option maxRecDepth 100000
set_option maxHeartbeats 4000000
end
section
set_option maxRecDepth 100000
set_option maxHeartbeats 4000000
end
section
theorem fl38ycm : flatS Tryz.prog 38 [.int .i64 0, .int .i64 0, .int .i64 0, .int .i64 0, .int .i64 0, .slice none 0 0, .int .i64 0, .int .i64 0, .int .i64 0, .slice none 0 0] = true := by kernel_rfl
def ItG (it : List (Int × List Int)) : Prop := it.length ≤ 8 ∧ (∀ e ∈ it, (0 ≤ e.1 ∧ e.1 ≤ 255) ∧ e.2.length ≤ 32) ∧ ItsB it
theorem itG_nil : ItG [] := ⟨by decide, (fun _ h => by cases h), (fun _ h => by cases h)⟩
theorem itG_of {bl : Int} {z : Nat} {it : List (Int × List Int)} (h : ItPre (max bl 1) z it it.length) (h8 : it.length ≤ 8) (hb : ItsB it) (hbl : bl ≤ 256) (hz : z ≤ 32) : ItG it := ⟨h8, fun e he => by
 obtain ⟨j, hj, rfl⟩ := List.getElem_of_mem he
 have h9 := h j hj
 rw [List.getD, List.getElem?_eq_getElem hj] at h9
 simp only [Option.getD_some] at h9
 omega, hb⟩
theorem cmdR_of {kd vo at0 ix : Int} {it : List (Int × List Int)} (hvo : 0 ≤ vo ∧ vo ≤ 7) (hkd : 2 ≤ kd ∧ kd ≤ 8) (hat : 0 ≤ at0 ∧ at0 ≤ 1099511627776) (hix : 0 ≤ ix ∧ ix ≤ 1099511627776) (h : ItG it) : CmdR ⟨kd, vo, 0, 0, 0, [], 0, at0, ix, it⟩ :=
 ⟨by dsimp only; omega, hvo, by dsimp only; omega, by simp, (fun z hz => by cases hz), h.1, h.2.1⟩
theorem tmod255 {xa : Int} {n : Nat} (h : 0 ≤ xa ∧ xa ≤ 255) : 0 ≤ xa.tmod ((n : Int) + 2) ∧ xa.tmod ((n : Int) + 2) ≤ 255 := by
 rw [Int.tmod_eq_emod_of_nonneg h.1]
 have h1 := Int.emod_nonneg xa (show ((n : Int) + 2) ≠ 0 by omega)
 have h2 : xa % ((n : Int) + 2) ≤ xa := by
   rcases Int.lt_or_le xa ((n : Int) + 2) with h3 | h3
   · rw [Int.emod_eq_of_lt h.1 h3]; exact Int.le_refl _
   have := Int.emod_lt_of_pos xa (show (0 : Int) < (n : Int) + 2 by omega); omega
 omega
set_option maxRecDepth 100000
set_option maxHeartbeats 4000000
theorem scmd_r (vo bl : Int) (z : Nat) (pe to ne fl : Int) (hi : Bool) (pp pn pw : Option Addr) (np cp nn9 cn9 nw cw : Nat) (wh xa xb xc : Int) (w0 : World) (hvo : 0 ≤ vo ∧ vo ≤ 7) (hbl : bl ≤ 256) (hz : z ≤ 32) (hnw : nw ≤ 1000000) (hne : 0 ≤ ne ∧ ne ≤ 1099511627776) (hw9 : 0 ≤ wh ∧ wh ≤ 255) (ha9 : 0 ≤ xa ∧ xa ≤ 255) (hb9 : 0 ≤ xb ∧ xb ≤ 255) (hc9 : 0 ≤ xc ∧ xc ≤ 255) :
   Calls Tryz.prog 41 #[.agg #[.int .i64 vo, .int .i64 bl, .int .i64 (z : Int), .int .i64 pe, .slice pp np cp, .int .i64 to, .int .i64 ne, .bool hi, .int .i64 fl, .slice pn nn9 cn9, .slice pw nw cw], .bool true, .int .u8 wh, .int .u8 xa, .int .u8 xb, .int .u8 xc] w0 fun e w' => ∃ (kd at0 ix : Int) (it : List (Int × List Int)) (pi : Option Addr) (ci : Nat), e = .returned (.agg #[.int .i64 kd, .int .i64 vo, .int .i64 0, .int .i64 0, .int .i64 0, .slice none 0 0, .int .i64 0, .int .i64 at0, .int .i64 ix, .slice pi it.length ci]) ∧ (2 ≤ kd ∧ kd ≤ 8) ∧ CmdR ⟨kd, vo, 0, 0, 0, [], 0, at0, ix, it⟩ ∧ ItsB it ∧ Rd (New w0) w' (.slice pi it.length ci) (.l 2 (it.map itD)) ∧ Below w0.heap.size w0 w' := by
 refine ent6 Tryz.func41 rfl Tryz.ntmps41 fun Az Hz => ?_
 have m0 := MemOk.start (fun _ => False) w0
 have htm := tmod255 (n := nw) ha9
 refine zsr fun K0 hK0 => ?_
 refine plz (e_box Hz m0 20 (cs := [_, _, _, _, _, _, _, _, _, _, _]) rfl rfl rfl fun g1 Az w2 Hz m2 _ _ => ?_)
 refine plz (e_alloc Hz m2 21 fct24 rfl fun g3 Az w4 Hz m4 _ _ => ?_)
 refine znl (hK0 _ _ ?_)
 refine wsk fun K1 hK1 => ?_
 refine regS Hz (.move rfl <| .not rfl .nil) fun Az Hz => ?_
 refine wcf Hz ?_
 refine zss (hK1 _ _ ?_)
 refine zsr fun K2 hK2 => ?_
 refine goCh Hz (.fa 0 rfl U51 <| .lb m4 20 U3 rfl rfl rfl <| .build rfl fct24 fl38ycm rfl (by dsimp only [setL, List.set] <;> rfl) .nil) fun Az Hz => ?_
 refine plz (e_alloc Hz m4 22 fct24 rfl fun g13 Az w14 Hz m14 _ _ => ?_)
 refine plz (stw Hz m14 22 fct19 fun w15 m15 _ => ?_)
 refine znl (hK2 _ _ ?_)
 refine wsk fun K3 hK3 => ?_
 have hC3 : ∀ (a : Act) (w : World), (∃ (kd at0 ix : Int) (it : List (Int × List Int)) (pi : Option Addr) (ci : Nat) (B6 B12 B14 : Nat), (2 ≤ kd ∧ kd ≤ 8) ∧ (0 ≤ at0 ∧ at0 ≤ 1099511627776) ∧ (0 ≤ ix ∧ ix ≤ 1099511627776) ∧ ItG it ∧ Has 131 [(2, .int .u8 wh), (3, .int .u8 xa), (4, .int .u8 xb), (5, .int .u8 xc), (6, .pointer (some ⟨B6, 0, none⟩)), (12, .pointer (some ⟨B12, 0, none⟩)), (14, .pointer (some ⟨B14, 0, none⟩))] a ∧ MemOk (cn w0) w0 [(6, .box B6 51 [.int .i64 vo, .int .i64 bl, .int .i64 (z : Int), .int .i64 pe, .slice pp np cp, .int .i64 to, .int .i64 ne, .bool hi, .int .i64 fl, .slice pn nn9 cn9, .slice pw nw cw]), (12, .box B12 38 [.int .i64 0, .int .i64 0, .int .i64 0, .int .i64 0, .int .i64 0, .slice none 0 0, .int .i64 0, .int .i64 0, .int .i64 0, .slice none 0 0]), (14, .box B14 38 [.int .i64 kd, .int .i64 vo, .int .i64 0, .int .i64 0, .int .i64 0, .slice none 0 0, .int .i64 0, .int .i64 at0, .int .i64 ix, .slice pi it.length ci]), (9, .dat (.slice pi it.length ci) (.l 2 (it.map itD)))] w) → K3 a w := by
   clear Hz m15
   rintro Az w16 ⟨kd, at0, ix, it, pi, ci, B6, B12, B14, hkd, hat9, hix9, hIG, Hz, m16⟩
   refine hK3 _ _ ?_
   refine wsk fun K4 hK4 => ?_
   refine zsr fun K5 hK5 => ?_
   refine goCh Hz (.fa 7 rfl U51 <| .lb m16 6 U4 rfl rfl rfl <| .move rfl .nil) fun Az Hz => ?_
   refine bc Hz 111 ?_ ?_
   ·
    intro hb23 Hz; try simp only [QQ, Qax] at hb23
    refine gz hK5 Hz (.moveZ rfl <| .remZ rfl rfl (by decide) rfl <| .lssZ rfl rfl <| .pickT rfl rfl <| .nil) fun Az Hz => ?_
    refine bc Hz 115 ?_ ?_
    ·
     intro hb28 Hz; try simp only [QQ, Qax] at hb28
     refine wct Hz ?_
     replace Hz := Hz.oz [3, 4, 5, 6, 12, 14]
     have m30 := m16.oz [6, 9, 12, 14]
     refine region_p 15 (B := [(6, _)]) (m30.to ⟨il, trivial⟩) m30 (by kernel_rfl) (fun w31 hP31 m31 => ?_); clear m30
     refine goR hP31 [0, 1, 2, 3, 4, 5, 6, 7, 8, 9, 10] [1, 3, 5, 7] 11 0 2047 Hz (m31.to ⟨il, trivial⟩) (.fa 0 rfl U51 <| .lb hh 6 U3 rfl rfl rfl <| .fa 6 rfl U51 <| .lb hh 6 U3 rfl rfl rfl <| .fa 1 rfl U51 <| .lb hh 6 U3 rfl rfl rfl <| .fa 2 rfl U51 <| .lb hh 6 U3 rfl rfl rfl <| .move rfl <| .move rfl <| .move rfl .nil) fun Az Hz => ?_
     refine so 11 ?_
     refine e_litN Hz m31 100 (k := .u8) rfl rfl U22 fct0 rfl rfl rfl rfl fun g43 Az w44 Hz m44 => ?_
     refine ⟨m44.to ⟨il, trivial⟩, ?_⟩
     have m45 := m44.freezeN 100 rfl
     refine so 12 ?_
     refine ecl Hz Tryz.func90 rfl (sitem_any bl z [xa, xb, xc] _ _ _ ((m45.rd (i := 100) rfl).any) (by simp) (b3 ha9 hb9 hc9) (by omega)) ?_
     rintro e w46 ⟨it, p46, c46, rfl, hit8, hpre9, hitb, hit1, hd46, hb46⟩
     have m47 := m45.callF 101 rfl hb46 hd46
     have hIG : ItG it := itG_of hpre9 hit8 hitb (by omega) (by omega)
     refine ⟨_, rfl, ?_⟩; intro Az Hz
     refine ⟨m47.to ⟨il, trivial⟩, ?_⟩
     refine goA hP31 [13] 1 8191 16383 Hz (m47.to ⟨il, trivial⟩) (.build rfl fct24 fl38ycm rfl (by dsimp only [setL, List.set] <;> rfl) .nil) fun Az Hz => ?_
     refine so 14 ?_
     refine stw Hz m47 14 fct19 fun w50 m50 _ => ?_
     refine ⟨m50.to ⟨il, trivial⟩, ?_⟩
     refine wpAnyE_done (by kernel_rfl) ?_ _
     refine hK4 _ _ ?_
     replace Hz := Hz.oz [12, 14]
     refine zsr fun K6 hK6 => ?_
     refine goCh Hz (.loadBR m50 (i := 14) rfl rfl U38 rfl fct19 (by simp) (by dsimp only [List.drop, List.take] <;> rfl) .nil) fun Az Hz => ?_
     refine plz (stw Hz m50 12 fct19 fun w54 m54 _ => ?_)
     refine znl (hK6 _ _ ?_)
     refine rtd (retC (fn := Tryz.f41) Hz m54 (i := 12) rfl rfl rfl U38 rfl fct19 ?_)
     exact ⟨_, _, _, _, _, _, rfl, (by first | exact hkd | decide), cmdR_of hvo (by first | exact hkd | decide) (by first | exact hat9 | decide) (by first | exact hix9 | omega) hIG, hIG.2.2, m54.outF (i := 101) rfl, m54.below⟩
    intro hb28 Hz; try simp only [QQ, Qax] at hb28
    refine wcf Hz ?_
    refine zss (hK4 _ _ ?_)
    replace Hz := Hz.oz [12, 14]
    refine zsr fun K7 hK7 => ?_
    refine goCh Hz (.loadBR m16 (i := 14) rfl rfl U38 rfl fct19 (by simp) (by dsimp only [List.drop, List.take] <;> rfl) .nil) fun Az Hz => ?_
    refine plz (stw Hz m16 12 fct19 fun w58 m58 _ => ?_)
    refine znl (hK7 _ _ ?_)
    refine rtd (retC (fn := Tryz.f41) Hz m58 (i := 12) rfl rfl rfl U38 rfl fct19 ?_)
    exact ⟨_, _, _, _, _, _, rfl, (by first | exact hkd | decide), cmdR_of hvo (by first | exact hkd | decide) (by first | exact hat9 | decide) (by first | exact hix9 | omega) hIG, hIG.2.2, m58.outF (i := 9) rfl, m58.below⟩
   intro hb23 Hz; try simp only [QQ, Qax] at hb23
   refine gz hK5 Hz (.sk <| .sk <| .sk <| .pickF rfl rfl <| .nil) fun Az Hz => ?_
   refine wcf Hz ?_
   refine zss (hK4 _ _ ?_)
   replace Hz := Hz.oz [12, 14]
   refine zsr fun K8 hK8 => ?_
   refine goCh Hz (.loadBR m16 (i := 14) rfl rfl U38 rfl fct19 (by simp) (by dsimp only [List.drop, List.take] <;> rfl) .nil) fun Az Hz => ?_
   refine plz (stw Hz m16 12 fct19 fun w66 m66 _ => ?_)
   refine znl (hK8 _ _ ?_)
   refine rtd (retC (fn := Tryz.f41) Hz m66 (i := 12) rfl rfl rfl U38 rfl fct19 ?_)
   exact ⟨_, _, _, _, _, _, rfl, (by first | exact hkd | decide), cmdR_of hvo (by first | exact hkd | decide) (by first | exact hat9 | decide) (by first | exact hix9 | omega) hIG, hIG.2.2, m66.outF (i := 9) rfl, m66.below⟩
 replace Hz := Hz.oz [2, 3, 4, 5, 6, 12, 14]
 refine regS Hz (.move rfl <| .rem rfl rfl (by decide) rfl .nil) fun Az Hz => ?_
 refine wp_block ?_
 refine wsk fun K9 hK9 => ?_
 refine regS Hz (.eql rfl rfl <| .assign rfl .nil) fun Az Hz => ?_
 refine bc Hz 39 ?_ ?_
 ·
  intro hb72 Hz; try simp only [QQ, Qax] at hb72
  refine wct Hz ?_
  refine zss (hK9 _ _ ?_)
  refine wct Hz ?_
  refine wp_region_lit ?_
  refine goCh Hz (.fa 1 rfl U51 <| .lb m15 20 U3 rfl rfl rfl <| .fa 2 rfl U51 <| .lb m15 20 U3 rfl rfl rfl <| .move rfl <| .move rfl <| .move rfl .nil) fun Az Hz => ?_
  refine plz (e_litN Hz m15 23 (k := .u8) rfl rfl U22 fct0 rfl rfl rfl rfl fun g80 Az w81 Hz m81 => ?_)
  have m82 := m81.freezeN 23 rfl
  refine plz (ecl Hz Tryz.func90 rfl (sitem_any bl z [xa, xb, xc] _ _ _ ((m82.rd (i := 23) rfl).any) (by simp) (b3 ha9 hb9 hc9) (by omega)) ?_)
  rintro e w83 ⟨it, p83, c83, rfl, hit8, hpre9, hitb, hit1, hd83, hb83⟩
  have m84 := m82.callF 24 rfl hb83 hd83
  have hIG : ItG it := itG_of hpre9 hit8 hitb (by omega) (by omega)
  refine ⟨_, rfl, ?_⟩; intro Az Hz
  refine goCh Hz (.fieldAddr (off := 0) rfl U38 rfl (s := 0) (by kernel_rfl) rfl .nil) fun Az Hz => ?_
  refine plz (st1 Hz m84 22 fct15 fun w87 m87 _ => ?_)
  refine goCh Hz (.fieldAddr (off := 9) rfl U38 rfl (s := 0) (by kernel_rfl) rfl .nil) fun Az Hz => ?_
  refine plz (st1 Hz m87 22 fct6 fun w89 m89 _ => ?_)
  refine wpList_nil ?_
  show K3 _ _
  exact hC3 _ _ ⟨_, _, _, it, _, _, _, _, _, by decide, (by omega), (by omega), hIG, Hz.only [2, 3, 4, 5, 6, 12, 14], m89.ren [(6, 20), (12, 21), (14, 22), (9, 24)] (by decide)⟩
 intro hb72 Hz; try simp only [QQ, Qax] at hb72
 refine wcf Hz ?_
 refine regS Hz (.eql rfl rfl <| .assign rfl .nil) fun Az Hz => ?_
 refine bc Hz 39 ?_ ?_
 ·
  intro hb92 Hz; try simp only [QQ, Qax] at hb92
  refine wct Hz ?_
  refine zss (hK9 _ _ ?_)
  refine wct Hz ?_
  refine wp_region_lit ?_
  refine goCh Hz (.fa 1 rfl U51 <| .lb m15 20 U3 rfl rfl rfl <| .fa 2 rfl U51 <| .lb m15 20 U3 rfl rfl rfl <| .move rfl <| .move rfl <| .move rfl .nil) fun Az Hz => ?_
  refine plz (e_litN Hz m15 23 (k := .u8) rfl rfl U22 fct0 rfl rfl rfl rfl fun g100 Az w101 Hz m101 => ?_)
  have m102 := m101.freezeN 23 rfl
  refine plz (ecl Hz Tryz.func90 rfl (sitem_any bl z [xa, xb, xc] _ _ _ ((m102.rd (i := 23) rfl).any) (by simp) (b3 ha9 hb9 hc9) (by omega)) ?_)
  rintro e w103 ⟨it, p103, c103, rfl, hit8, hpre9, hitb, hit1, hd103, hb103⟩
  have m104 := m102.callF 24 rfl hb103 hd103
  have hIG : ItG it := itG_of hpre9 hit8 hitb (by omega) (by omega)
  refine ⟨_, rfl, ?_⟩; intro Az Hz
  refine goCh Hz (.fieldAddr (off := 0) rfl U38 rfl (s := 0) (by kernel_rfl) rfl .nil) fun Az Hz => ?_
  refine plz (st1 Hz m104 22 fct15 fun w107 m107 _ => ?_)
  refine goCh Hz (.fieldAddr (off := 9) rfl U38 rfl (s := 0) (by kernel_rfl) rfl .nil) fun Az Hz => ?_
  refine plz (st1 Hz m107 22 fct6 fun w109 m109 _ => ?_)
  refine wpList_nil ?_
  show K3 _ _
  exact hC3 _ _ ⟨_, _, _, it, _, _, _, _, _, by decide, (by omega), (by omega), hIG, Hz.only [2, 3, 4, 5, 6, 12, 14], m109.ren [(6, 20), (12, 21), (14, 22), (9, 24)] (by decide)⟩
 intro hb92 Hz; try simp only [QQ, Qax] at hb92
 refine wcf Hz ?_
 refine regS Hz (.eql rfl rfl <| .assign rfl .nil) fun Az Hz => ?_
 refine bc Hz 39 ?_ ?_
 ·
  intro hb112 Hz; try simp only [QQ, Qax] at hb112
  refine wct Hz ?_
  refine zss (hK9 _ _ ?_)
  refine wct Hz ?_
  refine wp_region_lit ?_
  refine goCh Hz (.fa 1 rfl U51 <| .lb m15 20 U3 rfl rfl rfl <| .fa 2 rfl U51 <| .lb m15 20 U3 rfl rfl rfl <| .move rfl <| .move rfl <| .move rfl .nil) fun Az Hz => ?_
  refine plz (e_litN Hz m15 23 (k := .u8) rfl rfl U22 fct0 rfl rfl rfl rfl fun g120 Az w121 Hz m121 => ?_)
  have m122 := m121.freezeN 23 rfl
  refine plz (ecl Hz Tryz.func90 rfl (sitem_any bl z [xa, xb, xc] _ _ _ ((m122.rd (i := 23) rfl).any) (by simp) (b3 ha9 hb9 hc9) (by omega)) ?_)
  rintro e w123 ⟨it, p123, c123, rfl, hit8, hpre9, hitb, hit1, hd123, hb123⟩
  have m124 := m122.callF 24 rfl hb123 hd123
  have hIG : ItG it := itG_of hpre9 hit8 hitb (by omega) (by omega)
  refine ⟨_, rfl, ?_⟩; intro Az Hz
  refine goCh Hz (.fieldAddr (off := 0) rfl U38 rfl (s := 0) (by kernel_rfl) rfl .nil) fun Az Hz => ?_
  refine plz (st1 Hz m124 22 fct15 fun w127 m127 _ => ?_)
  refine goCh Hz (.fieldAddr (off := 9) rfl U38 rfl (s := 0) (by kernel_rfl) rfl .nil) fun Az Hz => ?_
  refine plz (st1 Hz m127 22 fct6 fun w129 m129 _ => ?_)
  refine wpList_nil ?_
  show K3 _ _
  exact hC3 _ _ ⟨_, _, _, it, _, _, _, _, _, by decide, (by omega), (by omega), hIG, Hz.only [2, 3, 4, 5, 6, 12, 14], m129.ren [(6, 20), (12, 21), (14, 22), (9, 24)] (by decide)⟩
 intro hb112 Hz; try simp only [QQ, Qax] at hb112
 refine wcf Hz ?_
 refine wp_region_lit ?_
 refine gz hK9 Hz (.eql rfl rfl <| .assign rfl <| .nil) fun Az Hz => ?_
 refine bc Hz 39 ?_ ?_
 ·
  intro hb132 Hz; try simp only [QQ, Qax] at hb132
  refine wct Hz ?_
  replace Hz := Hz.oz [2, 3, 4, 5, 6, 12, 14, 37]
  refine wp_region_lit ?_
  refine goCh Hz (.fa 1 rfl U51 <| .lb m15 20 U3 rfl rfl rfl <| .fa 2 rfl U51 <| .lb m15 20 U3 rfl rfl rfl <| .move rfl <| .move rfl <| .move rfl .nil) fun Az Hz => ?_
  refine plz (e_litN Hz m15 23 (k := .u8) rfl rfl U22 fct0 rfl rfl rfl rfl fun g141 Az w142 Hz m142 => ?_)
  have m143 := m142.freezeN 23 rfl
  refine plz (ecl Hz Tryz.func90 rfl (sitem_any bl z [xa, xb, xc] _ _ _ ((m143.rd (i := 23) rfl).any) (by simp) (b3 ha9 hb9 hc9) (by omega)) ?_)
  rintro e w144 ⟨it, p144, c144, rfl, hit8, hpre9, hitb, hit1, hd144, hb144⟩
  have m145 := m143.callF 24 rfl hb144 hd144
  have hIG : ItG it := itG_of hpre9 hit8 hitb (by omega) (by omega)
  refine ⟨_, rfl, ?_⟩; intro Az Hz
  refine goCh Hz (.fieldAddr (off := 0) rfl U38 rfl (s := 0) (by kernel_rfl) rfl .nil) fun Az Hz => ?_
  refine plz (st1 Hz m145 22 fct15 fun w148 m148 _ => ?_)
  refine goCh Hz (.fieldAddr (off := 9) rfl U38 rfl (s := 0) (by kernel_rfl) rfl .nil) fun Az Hz => ?_
  refine plz (st1 Hz m148 22 fct6 fun w150 m150 _ => ?_)
  refine wpList_nil ?_
  show K3 _ _
  exact hC3 _ _ ⟨_, _, _, it, _, _, _, _, _, by decide, (by omega), (by omega), hIG, Hz.only [2, 3, 4, 5, 6, 12, 14], m150.ren [(6, 20), (12, 21), (14, 22), (9, 24)] (by decide)⟩
 intro hb132 Hz; try simp only [QQ, Qax] at hb132
 refine wcf Hz ?_
 replace Hz := Hz.oz [2, 3, 4, 5, 6, 12, 14, 37]
 refine regS Hz (.eql rfl rfl <| .assign rfl .nil) fun Az Hz => ?_
 refine bc Hz 55 ?_ ?_
 ·
  intro hb154 Hz; try simp only [QQ, Qax] at hb154
  refine wct Hz ?_
  have m155 := m15.oz [20, 21, 22]
  refine region_p 10 (B := [(20, _)]) (m155.to ⟨il, trivial⟩) m155 (by kernel_rfl) (fun w156 hP156 m156 => ?_); clear m155
  refine goR hP156 [0, 1, 2, 6] [2] 4 0 71 Hz (m156.to ⟨il, trivial⟩) (.move rfl <| .conv rfl U5 U2 (r := xa) (IntWalk.i64_in _ (by omega)) <| .loadBR hh (i := 20) rfl rfl U51 rfl fct13 (by simp) (by dsimp only [List.drop, List.take] <;> rfl) <| .fa 0 rfl U38 .nil) fun Az Hz => ?_
  refine so 3 ?_
  refine ecb Hz Tryz.func39 rfl m156 (rlen_any _ _ _ _ _ _ _ _ _ _ _ _ _ _ _ _ _ _) fun Az w161 Hz m162 => ?_
  refine ⟨m162.to ⟨il, trivial⟩, ?_⟩
  refine goA hP156 [4, 5] 2 79 127 Hz (m162.to ⟨il, trivial⟩) (.add rfl rfl (r := (nw : Int) + 2) (IntWalk.i64_in _ (by omega)) <| .rem rfl rfl (by omega) rfl .nil) fun Az Hz => ?_
  refine so 7 ?_
  refine st1 Hz m162 22 fct15 fun w166 m166 _ => ?_
  refine ⟨m166.to ⟨il, trivial⟩, ?_⟩
  refine goA hP156 [8] 1 255 511 Hz (m166.to ⟨il, trivial⟩) (.fa 7 rfl U38 .nil) fun Az Hz => ?_
  refine so 9 ?_
  refine st1 Hz m166 22 fct18 fun w168 m168 _ => ?_
  refine ⟨m168.to ⟨il, trivial⟩, ?_⟩
  refine wpAnyE_done (by kernel_rfl) ?_ _
  have m169 := m168.dat 23 rfl (Rd.l0 none 0 2)
  show K3 _ _
  exact hC3 _ _ ⟨_, _, _, [], _, _, _, _, _, by decide, (by omega), (by omega), itG_nil, Hz.only [2, 3, 4, 5, 6, 12, 14], m169.ren [(6, 20), (12, 21), (14, 22), (9, 23)] (by decide)⟩
 intro hb154 Hz; try simp only [QQ, Qax] at hb154
 refine wcf Hz ?_
 refine regS Hz (.eql rfl rfl <| .assign rfl .nil) fun Az Hz => ?_
 refine bc Hz 65 ?_ ?_
 ·
  intro hb172 Hz; try simp only [QQ, Qax] at hb172
  refine wct Hz ?_
  have m173 := m15.oz [20, 21, 22]
  refine region_p 10 (B := [(20, _)]) (m173.to ⟨il, trivial⟩) m173 (by kernel_rfl) (fun w174 hP174 m174 => ?_); clear m173
  refine goR hP174 [0, 1, 2, 6] [2] 4 0 71 Hz (m174.to ⟨il, trivial⟩) (.move rfl <| .conv rfl U5 U2 (r := xa) (IntWalk.i64_in _ (by omega)) <| .loadBR hh (i := 20) rfl rfl U51 rfl fct13 (by simp) (by dsimp only [List.drop, List.take] <;> rfl) <| .fa 0 rfl U38 .nil) fun Az Hz => ?_
  refine so 3 ?_
  refine ecb Hz Tryz.func39 rfl m174 (rlen_any _ _ _ _ _ _ _ _ _ _ _ _ _ _ _ _ _ _) fun Az w179 Hz m180 => ?_
  refine ⟨m180.to ⟨il, trivial⟩, ?_⟩
  refine goA hP174 [4, 5] 2 79 127 Hz (m180.to ⟨il, trivial⟩) (.add rfl rfl (r := (nw : Int) + 2) (IntWalk.i64_in _ (by omega)) <| .rem rfl rfl (by omega) rfl .nil) fun Az Hz => ?_
  refine so 7 ?_
  refine st1 Hz m180 22 fct15 fun w184 m184 _ => ?_
  refine ⟨m184.to ⟨il, trivial⟩, ?_⟩
  refine goA hP174 [8] 1 255 511 Hz (m184.to ⟨il, trivial⟩) (.fa 7 rfl U38 .nil) fun Az Hz => ?_
  refine so 9 ?_
  refine st1 Hz m184 22 fct18 fun w186 m186 _ => ?_
  refine ⟨m186.to ⟨il, trivial⟩, ?_⟩
  refine wpAnyE_done (by kernel_rfl) ?_ _
  have m187 := m186.dat 23 rfl (Rd.l0 none 0 2)
  show K3 _ _
  exact hC3 _ _ ⟨_, _, _, [], _, _, _, _, _, by decide, (by omega), (by omega), itG_nil, Hz.only [2, 3, 4, 5, 6, 12, 14], m187.ren [(6, 20), (12, 21), (14, 22), (9, 23)] (by decide)⟩
 intro hb172 Hz; try simp only [QQ, Qax] at hb172
 refine wcf Hz ?_
 refine regS Hz (.eql rfl rfl <| .assign rfl .nil) fun Az Hz => ?_
 refine bc Hz 75 ?_ ?_
 ·
  intro hb190 Hz; try simp only [QQ, Qax] at hb190
  refine wct Hz ?_
  replace Hz := Hz.oz [2, 3, 4, 5, 6, 12, 14, 37]
  have m192 := m15.oz [20, 21, 22]
  refine region_p 10 (B := [(20, _)]) (m192.to ⟨il, trivial⟩) m192 (by kernel_rfl) (fun w193 hP193 m193 => ?_); clear m192
  refine goR hP193 [0, 1, 2, 6] [2] 4 0 71 Hz (m193.to ⟨il, trivial⟩) (.move rfl <| .conv rfl U5 U2 (r := xa) (IntWalk.i64_in _ (by omega)) <| .loadBR hh (i := 20) rfl rfl U51 rfl fct13 (by simp) (by dsimp only [List.drop, List.take] <;> rfl) <| .fa 0 rfl U38 .nil) fun Az Hz => ?_
  refine so 3 ?_
  refine ecb Hz Tryz.func39 rfl m193 (rlen_any _ _ _ _ _ _ _ _ _ _ _ _ _ _ _ _ _ _) fun Az w198 Hz m199 => ?_
  refine ⟨m199.to ⟨il, trivial⟩, ?_⟩
  refine goA hP193 [4, 5] 2 79 127 Hz (m199.to ⟨il, trivial⟩) (.add rfl rfl (r := (nw : Int) + 2) (IntWalk.i64_in _ (by omega)) <| .rem rfl rfl (by omega) rfl .nil) fun Az Hz => ?_
  refine so 7 ?_
  refine st1 Hz m199 22 fct15 fun w203 m203 _ => ?_
  refine ⟨m203.to ⟨il, trivial⟩, ?_⟩
  refine goA hP193 [8] 1 255 511 Hz (m203.to ⟨il, trivial⟩) (.fa 7 rfl U38 .nil) fun Az Hz => ?_
  refine so 9 ?_
  refine st1 Hz m203 22 fct18 fun w205 m205 _ => ?_
  refine ⟨m205.to ⟨il, trivial⟩, ?_⟩
  refine wpAnyE_done (by kernel_rfl) ?_ _
  have m206 := m205.dat 23 rfl (Rd.l0 none 0 2)
  show K3 _ _
  exact hC3 _ _ ⟨_, _, _, [], _, _, _, _, _, by decide, (by omega), (by omega), itG_nil, Hz.only [2, 3, 4, 5, 6, 12, 14], m206.ren [(6, 20), (12, 21), (14, 22), (9, 23)] (by decide)⟩
 intro hb190 Hz; try simp only [QQ, Qax] at hb190
 refine wcf Hz ?_
 replace Hz := Hz.oz [2, 3, 4, 5, 6, 12, 14, 37]
 refine regS Hz (.eql rfl rfl <| .assign rfl .nil) fun Az Hz => ?_
 refine bc Hz 85 ?_ ?_
 ·
  intro hb210 Hz; try simp only [QQ, Qax] at hb210
  refine wct Hz ?_
  refine wp_region_lit ?_
  refine goCh Hz (.fieldAddr (off := 0) rfl U38 rfl (s := 0) (by kernel_rfl) rfl .nil) fun Az Hz => ?_
  refine plz (st1 Hz m15 22 fct15 fun w212 m212 _ => ?_)
  refine wpList_nil ?_
  have m213 := m212.dat 23 rfl (Rd.l0 none 0 2)
  show K3 _ _
  exact hC3 _ _ ⟨_, _, _, [], _, _, _, _, _, by decide, (by omega), (by omega), itG_nil, Hz.only [2, 3, 4, 5, 6, 12, 14], m213.ren [(6, 20), (12, 21), (14, 22), (9, 23)] (by decide)⟩
 intro hb210 Hz; try simp only [QQ, Qax] at hb210
 refine wcf Hz ?_
 refine regS Hz (.eql rfl rfl <| .assign rfl .nil) fun Az Hz => ?_
 refine bc Hz 88 ?_ ?_
 ·
  intro hb216 Hz; try simp only [QQ, Qax] at hb216
  refine wct Hz ?_
  have m217 := m15.oz [20, 21, 22]
  refine region_p 22 (B := [(20, _)]) (m217.to ⟨il, trivial⟩) m217 (by kernel_rfl) (fun w218 hP218 m218 => ?_); clear m217
  refine goR hP218 [0, 1, 2, 3, 4, 5, 6, 7, 8, 9, 10, 11, 12, 13, 16] [1, 9, 11] 15 0 81919 Hz (m218.to ⟨il, trivial⟩) (.fa 6 rfl U51 <| .lb hh 20 U3 rfl rfl rfl <| .move rfl <| .rem rfl rfl (by decide) (Int.tmod_eq_emod_of_nonneg (by omega)) <| .conv rfl U5 U3 (r := xc % 5) (IntWalk.i64_in _ (by omega)) <| .quo rfl rfl (by decide) (r := xc % 5 / 4) (by rw [Int.tdiv_eq_ediv_of_nonneg (by omega)]; exact IntWalk.i64_in _ (by omega)) <| .sub rfl rfl (r := ne - xc % 5 / 4) (IntWalk.i64_in _ (by omega)) <| .p (fun _ _ h_ => y_max h_ rfl rfl rfl) <| .fa 1 rfl U51 <| .lb hh 20 U3 rfl rfl rfl <| .fa 2 rfl U51 <| .lb hh 20 U3 rfl rfl rfl <| .move rfl <| .move rfl <| .fa 0 rfl U38 .nil) fun Az Hz => ?_
  refine so 14 ?_
  refine e_litN Hz m218 23 (k := .u8) rfl rfl U22 fct0 rfl rfl rfl rfl fun g234 Az w235 Hz m235 => ?_
  refine ⟨m235.to ⟨il, trivial⟩, ?_⟩
  have m236 := m235.freezeN 23 rfl
  refine so 15 ?_
  refine ecl Hz Tryz.func90 rfl (sitem_any bl z [xa, xb] _ _ _ ((m236.rd (i := 23) rfl).any) (by simp) (b2 ha9 hb9) (by omega)) ?_
  rintro e w237 ⟨it, p237, c237, rfl, hit8, hpre9, hitb, hit1, hd237, hb237⟩
  have m238 := m236.callF 24 rfl hb237 hd237
  have hIG : ItG it := itG_of hpre9 hit8 hitb (by omega) (by omega)
  refine ⟨_, rfl, ?_⟩; intro Az Hz
  refine ⟨m238.to ⟨il, trivial⟩, ?_⟩
  refine so 17 ?_
  refine st1 Hz m238 22 fct15 fun w240 m240 _ => ?_
  refine ⟨m240.to ⟨il, trivial⟩, ?_⟩
  refine goA hP218 [18] 1 262143 524287 Hz (m240.to ⟨il, trivial⟩) (.fa 8 rfl U38 .nil) fun Az Hz => ?_
  refine so 19 ?_
  refine st1 Hz m240 22 fct15 fun w242 m242 _ => ?_
  refine ⟨m242.to ⟨il, trivial⟩, ?_⟩
  refine goA hP218 [20] 1 1048575 2097151 Hz (m242.to ⟨il, trivial⟩) (.fa 9 rfl U38 .nil) fun Az Hz => ?_
  refine so 21 ?_
  refine st1 Hz m242 22 fct6 fun w244 m244 _ => ?_
  refine ⟨m244.to ⟨il, trivial⟩, ?_⟩
  refine wpAnyE_done (by kernel_rfl) ?_ _
  show K3 _ _
  exact hC3 _ _ ⟨_, _, _, it, _, _, _, _, _, by decide, (by omega), (by omega), hIG, Hz.only [2, 3, 4, 5, 6, 12, 14], m244.ren [(6, 20), (12, 21), (14, 22), (9, 24)] (by decide)⟩
 intro hb216 Hz; try simp only [QQ, Qax] at hb216
 refine wcf Hz ?_
 refine wp_region_lit ?_
 refine goCh Hz (.fieldAddr (off := 0) rfl U38 rfl (s := 0) (by kernel_rfl) rfl .nil) fun Az Hz => ?_
 refine plz (st1 Hz m15 22 fct15 fun w246 m246 _ => ?_)
 refine wpList_nil ?_
 have m247 := m246.dat 23 rfl (Rd.l0 none 0 2)
 show K3 _ _
 exact hC3 _ _ ⟨_, _, _, [], _, _, _, _, _, by decide, (by omega), (by omega), itG_nil, Hz.only [2, 3, 4, 5, 6, 12, 14], m247.ren [(6, 20), (12, 21), (14, 22), (9, 23)] (by decide)⟩
end
end Go.Proofs.YtkehgingagggaaaGreat.K
