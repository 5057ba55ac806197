/- chunk: known. -/
import Derived.Test.YteglmahnkfgelaaGreatChu8
import Derived.Test.YteglmahnkfgelaaGreatChu9
namespace Go.Proofs.YteglmahnkfgelaaGreat.K
open Go.ChangeShapes Go.WideShapes Go.ChangeAt Go.RowKit
set_option linter.unusedVariables false
set_option linter.unusedSimpArgs false
theorem fl25ckn : flatS Tryz.prog 25 [.int .i64 0, .int .i64 0, .int .i64 0, .int .i64 0, .int .i64 0, .int .i64 0, .int .i64 0, .slice none 0 0] = true := by kernel_rfl
theorem fl30ckn : flatS Tryz.prog 30 [.int .i64 0, .slice none 0 0] = true := by kernel_rfl
theorem fl78ckn : flatS Tryz.prog 78 [.int .i64 0, .slice none 0 0] = true := by kernel_rfl
set_option maxRecDepth 100000
set_option maxHeartbeats 4000000
def WKn : List (Int × List (Int × List Int)) := [(2, [(1, [120])])]
def HKn : List (List Ver) := [[], [(2, [120])]]
def PBn : List Int := pushB 0 0 2 1 0 3 0 WKn
def CBn : List Int := chunkB 0 0 2 1 3 0 HKn
theorem s120 : ((strOfNums [120]).toList == ByteArray.toList ⟨#[120]⟩) = true := by rw [show (⟨#[120]⟩ : ByteArray) = strOfNums [120] from rfl]; exact beq_self_eq_true _
theorem s000 : ((strOfNums [0]).toList == ByteArray.toList ⟨#[0]⟩) = true := by rw [show (⟨#[0]⟩ : ByteArray) = strOfNums [0] from rfl]; exact beq_self_eq_true _
theorem wkn_ok : PuOk 0 0 2 1 0 3 0 WKn := by
 refine ⟨⟨by decide, by decide, by decide, by decide⟩, by decide, by decide, by decide, by decide, fun j hj => ?_⟩
 obtain rfl : j = 0 := by have : WKn.length = 1 := rfl; omega
 refine ⟨by decide, by decide, by decide, by decide, ?_⟩
 intro j hj
 obtain rfl : j = 0 := by have h9 : ((WKn.getD 0 w1).2).length = 1 := rfl; omega
 decide
theorem wkn_by : ∀ e ∈ WKn, ∀ x ∈ e.2, BytesL x.2 := by
 intro e he x hx y hy
 obtain rfl := List.mem_singleton.1 he
 obtain rfl := List.mem_singleton.1 hx
 obtain rfl := List.mem_singleton.1 hy
 decide
theorem hb0 : HB 900000 (List.replicate 2 []) := fun h hh => by
 rw [List.eq_of_mem_replicate hh]
 exact ⟨List.Pairwise.nil, by decide, (fun v hv => by cases hv), by decide⟩
theorem hkn_mem {h : List Ver} (hh : h ∈ HKn) : h = [] ∨ h = [(2, [120])] := by
 rcases List.mem_cons.1 hh with h | h
 · exact .inl h
 exact .inr (List.mem_singleton.1 h)
theorem hskn : HsOk HKn ∧ (∀ h ∈ HKn, Rise h) ∧ (∀ h ∈ HKn, ∀ v ∈ h, 0 ≤ v.1 ∧ v.1 ≤ 1099511627776 ∧ v.2.length ≤ 1000) ∧ (∀ h ∈ HKn, ∀ v ∈ h, (0 ≤ v.1 ∧ v.1 ≤ 1099511627776) ∧ v.2.length ≤ 32) ∧ (∀ h ∈ HKn, h.length ≤ 1000000 ∧ ∀ v ∈ h, BytesL v.2) := by
 refine ⟨?_, ?_, ?_, ?_, ?_⟩ <;> intro h hh <;> rcases hkn_mem hh with rfl | rfl
 · exact ⟨by decide, fun v hv => by cases hv⟩
 · exact ⟨by decide, fun v hv => by obtain rfl := List.mem_singleton.1 hv; decide⟩
 · exact List.Pairwise.nil
 · exact List.pairwise_singleton _ _
 · intro v hv; cases hv
 · intro v hv; obtain rfl := List.mem_singleton.1 hv; decide
 · intro v hv; cases hv
 · intro v hv; obtain rfl := List.mem_singleton.1 hv; decide
 · exact ⟨by decide, fun v hv => by cases hv⟩
 exact ⟨by decide, fun v hv y hy => by obtain rfl := List.mem_singleton.1 hv; obtain rfl := List.mem_singleton.1 hy; decide⟩
theorem ckn_ok : ChOk 0 0 2 1 3 0 HKn := by
 refine ⟨⟨by decide, by decide, by decide, by decide⟩, by decide, by decide, rfl, fun j hj => ?_⟩
 have h2 : HKn.length = 2 := rfl
 rcases (by omega : j = 0 ∨ j = 1) with rfl | rfl
 · exact ⟨fun j hj => absurd hj (Nat.not_lt_zero _), rfl, fun j hj => absurd hj (Nat.not_lt_zero _)⟩
 refine ⟨fun j hj => ?_, by kernel_rfl, fun j hj => ?_⟩ <;> (obtain rfl : j = 0 := by have h9 : (HKn.getD 1 []).length = 1 := rfl; omega)
 · exact ⟨by decide, fun h => absurd h (Nat.lt_irrefl _)⟩
 decide
theorem cbn : CBn.length ≤ 1000 ∧ BytesL CBn := ⟨by decide, by unfold BytesL; decide⟩
theorem knew_x (X : Cx) (pw : Option Addr) (cw : Nat) (w0 : World) (m0 : MemOk X w0 [] w0) :
   Calls Tryz.prog 21 #[.agg #[.int .i64 0, .int .i64 0, .int .i64 2, .int .i64 1, .int .i64 0, .int .i64 3, .int .i64 0, .slice pw 1 cw]] w0 fun e w' => ∃ (p9 : Option Addr) (c9 : Nat), e = .returned (.agg #[.int .i64 0, .int .i64 0, .int .i64 2, .int .i64 1, .int .i64 0, .int .i64 0, .slice p9 2 c9]) ∧ MemOk X w0 [(9, .row (.slice p9 2 c9) 94 1 ((List.replicate 2 ([] : List Ver)).map hD))] w' := by
 exact cnew_x X 0 0 1 0 3 0 2 pw 1 cw w0 (by decide) m0
theorem kapply_x (X : Cx) (p pw : Option Addr) (c cw : Nat) (w0 : World) (m0 : MemOk X w0 [(1, .dat (.slice p 2 c) (.l 1 ((List.replicate 2 ([] : List Ver)).map hD))), (2, .dat (.slice pw 1 cw) (.l 2 (WKn.map wrD)))] w0) :
   Calls Tryz.prog 17 #[.agg #[.int .i64 0, .int .i64 0, .int .i64 2, .int .i64 1, .int .i64 0, .int .i64 0, .slice p 2 c], .agg #[.int .i64 0, .int .i64 0, .int .i64 2, .int .i64 1, .int .i64 0, .int .i64 3, .int .i64 0, .slice pw 1 cw]] w0 fun e w' => ∃ (p9 : Option Addr) (c9 : Nat), e = .returned (.agg #[.int .i64 0, .int .i64 0, .int .i64 2, .int .i64 1, .int .i64 3, .int .i64 0, .slice p9 2 c9]) ∧ MemOk X w0 [(1, .dat (.slice p 2 c) (.l 1 ((List.replicate 2 ([] : List Ver)).map hD))), (2, .dat (.slice pw 1 cw) (.l 2 (WKn.map wrD))), (9, .row (.slice p9 2 c9) 94 1 (HKn.map hD))] w' := by
 have h := capply_x X 0 0 2 1 0 0 0 3 0 (List.replicate 2 []) WKn p pw 2 c 1 cw w0 hb0 rfl wkn_ok (by decide) m0
 have e1 : (applyW 0 (List.replicate 2 []) WKn).map (fun h => pruneF h (max 0 0)) = HKn := by kernel_rfl
 rw [e1] at h
 exact h
theorem kread_a (X : Cx) (p : Option Addr) (c : Nat) (w0 : World) (m0 : MemOk X w0 [(1, .dat (.slice p 2 c) (.l 1 (HKn.map hD)))] w0) :
   Calls Tryz.prog 33 #[.agg #[.int .i64 0, .int .i64 0, .int .i64 2, .int .i64 1, .int .i64 3, .int .i64 0, .slice p 2 c], .int .i64 1, .int .i64 2] w0 fun e w' => ∃ (p9 : Option Addr) (c9 : Nat), e = .returned (.tuple #[.slice p9 1 c9, .int .i64 0]) ∧ MemOk X w0 [(1, .dat (.slice p 2 c) (.l 1 (HKn.map hD))), (9, .dat (.slice p9 1 c9) (.ns .u8 [120]))] w' := by
 have h := cread_some X 0 0 2 1 3 0 HKn 1 2 p c w0 (by decide) hskn.1 hskn.2.1 (by decide) (by decide) (by decide) (by decide) (by decide) (d := [120]) (by kernel_rfl) m0
 have e1 : (atF (HKn.getD 1 []) 2).getD (List.replicate (1 : Int).toNat 0) = [120] := by kernel_rfl
 rw [e1] at h
 exact h
theorem kread_b (X : Cx) (p : Option Addr) (c : Nat) (w0 : World) (m0 : MemOk X w0 [(1, .dat (.slice p 2 c) (.l 1 (HKn.map hD)))] w0) :
   Calls Tryz.prog 33 #[.agg #[.int .i64 0, .int .i64 0, .int .i64 2, .int .i64 1, .int .i64 3, .int .i64 0, .slice p 2 c], .int .i64 1, .int .i64 1] w0 fun e w' => ∃ (p9 : Option Addr) (c9 : Nat), e = .returned (.tuple #[.slice p9 1 c9, .int .i64 0]) ∧ MemOk X w0 [(1, .dat (.slice p 2 c) (.l 1 (HKn.map hD))), (9, .dat (.slice p9 1 c9) (.ns .u8 [0]))] w' := by
 have h := cread_none X 0 0 2 1 3 0 HKn 1 1 p c w0 (by decide) hskn.1 hskn.2.1 (by decide) (by decide) (by decide) (by decide) (by decide) (by kernel_rfl) m0
 have e1 : (atF (HKn.getD 1 []) 1).getD (List.replicate (1 : Int).toNat 0) = [0] := by kernel_rfl
 rw [e1] at h
 exact h
theorem kread_c (p : Option Addr) (c : Nat) (w0 : World) :
   Calls Tryz.prog 33 #[.agg #[.int .i64 0, .int .i64 0, .int .i64 2, .int .i64 1, .int .i64 3, .int .i64 0, .slice p 2 c], .int .i64 1, .int .i64 4] w0 fun e w' => e = .returned (.tuple #[.slice none 0 0, .int .i64 32]) ∧ Below w0.heap.size w0 w' := by
 exact cread_32 0 0 2 1 3 0 1 4 p 2 c w0 (by decide) (by decide) (by decide)
theorem kread_d (p : Option Addr) (c : Nat) (w0 : World) :
   Calls Tryz.prog 33 #[.agg #[.int .i64 0, .int .i64 0, .int .i64 2, .int .i64 1, .int .i64 3, .int .i64 0, .slice p 2 c], .int .i64 2, .int .i64 1] w0 fun e w' => e = .returned (.tuple #[.slice none 0 0, .int .i64 28]) ∧ Below w0.heap.size w0 w' := by
 exact cread_28 0 0 2 1 3 0 2 1 p 2 c w0 (by decide)
theorem kpp_x (X : Cx) (p : Option Addr) (c : Nat) (w0 : World) (m0 : MemOk X w0 [(1, .dat (.slice p 1 c) (.l 2 (WKn.map wrD)))] w0) :
   Calls Tryz.prog 12 #[.agg #[.int .i64 0, .int .i64 0, .int .i64 2, .int .i64 1, .int .i64 0, .int .i64 3, .int .i64 0, .slice p 1 c]] w0 fun e w' => ∃ (p9 : Option Addr) (c9 : Nat), e = .returned (.tuple #[.slice p9 PBn.length c9, .int .i64 0]) ∧ MemOk X w0 [(1, .dat (.slice p 1 c) (.l 2 (WKn.map wrD))), (9, .num (.slice p9 PBn.length c9) 5 .u8 PBn)] w' := by
 exact cputpush_x X 0 0 2 1 0 3 0 WKn p 1 c w0 wkn_ok m0
theorem krp_x (X : Cx) (p : Option Addr) (c : Nat) (w0 : World) (m0 : MemOk X w0 [(1, .dat (.slice p PBn.length c) (.ns .u8 PBn))] w0) :
   Calls Tryz.prog 19 #[.slice p PBn.length c] w0 fun e w' => ∃ (p9 : Option Addr) (c9 : Nat), e = .returned (.tuple #[.agg #[.int .i64 0, .int .i64 0, .int .i64 2, .int .i64 1, .int .i64 0, .int .i64 3, .int .i64 0, .slice p9 1 c9], .int .i64 0]) ∧ MemOk X w0 [(1, .dat (.slice p PBn.length c) (.ns .u8 PBn)), (9, .dat (.slice p9 1 c9) (.l 2 (WKn.map wrD)))] w' := by
 exact creadpush_x X 0 0 2 1 0 3 0 WKn PBn p c w0 wkn_ok wkn_by rfl m0
theorem kput_x (X : Cx) (p : Option Addr) (c : Nat) (w0 : World) (m0 : MemOk X w0 [(1, .dat (.slice p 2 c) (.l 1 (HKn.map hD)))] w0) :
   Calls Tryz.prog 25 #[.agg #[.int .i64 0, .int .i64 0, .int .i64 2, .int .i64 1, .int .i64 3, .int .i64 0, .slice p 2 c]] w0 fun e w' => ∃ (p9 : Option Addr) (c9 : Nat), e = .returned (.slice p9 CBn.length c9) ∧ MemOk X w0 [(1, .dat (.slice p 2 c) (.l 1 (HKn.map hD))), (9, .num (.slice p9 CBn.length c9) 5 .u8 CBn)] w' := by
 exact cput_x X 0 0 2 1 3 0 HKn p 2 c w0 (by decide) hskn.1 hskn.2.2.1 (by decide) (by decide) (by decide) (by decide) (by decide) (by decide) (by decide) m0
theorem ktake_x (X : Cx) (B : Nat) (p : Option Addr) (c : Nat) (w0 : World) (m0 : MemOk X w0 [(1, .box B 115 [.slice p CBn.length c, .int .i64 0]), (2, .dat (.slice p CBn.length c) (.ns .u8 CBn))] w0) :
   Calls Tryz.prog 28 #[.pointer (some ⟨B, 0, none⟩)] w0 fun e w' => ∃ (p' : Option Addr) (c' : Nat) (p9 : Option Addr) (c9 : Nat), e = .returned (.tuple #[.agg #[.int .i64 0, .int .i64 0, .int .i64 2, .int .i64 1, .int .i64 3, .int .i64 0, .slice p9 2 c9], .bool true]) ∧ MemOk X w0 [(1, .box B 115 [.slice p' 0 c', .int .i64 0]), (2, .dat (.slice p' 0 c') (.ns .u8 [])), (9, .dat (.slice p9 2 c9) (.l 1 (HKn.map hD)))] w' := by
 exact ctake_x X 0 0 2 1 3 0 HKn [] B p c w0 ckn_ok hskn.1 hskn.2.2.2.1 (by rw [List.append_nil]; rfl) ⟨Nat.le_trans cbn.1 (by decide), cbn.2⟩ m0
theorem ksame_x (X : Cx) (p q : Option Addr) (c d : Nat) (w0 : World) (m0 : MemOk X w0 [(1, .dat (.slice p 2 c) (.l 1 (HKn.map hD))), (2, .dat (.slice q 2 d) (.l 1 (HKn.map hD)))] w0) :
   Calls Tryz.prog 35 #[.agg #[.int .i64 0, .int .i64 0, .int .i64 2, .int .i64 1, .int .i64 3, .int .i64 0, .slice p 2 c], .agg #[.int .i64 0, .int .i64 0, .int .i64 2, .int .i64 1, .int .i64 3, .int .i64 0, .slice q 2 d]] w0 fun e w' => e = .returned (.bool true) ∧ MemOk X w0 [(1, .dat (.slice p 2 c) (.l 1 (HKn.map hD))), (2, .dat (.slice q 2 d) (.l 1 (HKn.map hD)))] w' := by
 exact csame_x X 0 0 2 1 3 0 HKn p c q d w0 (by decide) hskn.2.2.2.2 m0
theorem kright_x (X : Cx) (p : Option Addr) (c : Nat) (w0 : World) (m0 : MemOk X w0 [(1, .dat (.slice p 2 c) (.l 1 (HKn.map hD)))] w0) :
   Calls Tryz.prog 23 #[.agg #[.int .i64 0, .int .i64 0, .int .i64 2, .int .i64 1, .int .i64 3, .int .i64 0, .slice p 2 c]] w0 fun e w' => e = .returned (.bool true) ∧ MemOk X w0 [(1, .dat (.slice p 2 c) (.l 1 (HKn.map hD)))] w' := by
 refine (cright_x X 0 0 2 1 3 0 HKn p 2 c w0 (by decide) hskn.1 m0).mono fun e w' h => ?_
 obtain ⟨b, h1, h2, h3⟩ := h
 exact ⟨by rw [h1, h2.2 ckn_ok], h3⟩
theorem kpright_x (X : Cx) (p : Option Addr) (c : Nat) (w0 : World) (m0 : MemOk X w0 [(1, .dat (.slice p 1 c) (.l 2 (WKn.map wrD)))] w0) :
   Calls Tryz.prog 14 #[.agg #[.int .i64 0, .int .i64 0, .int .i64 2, .int .i64 1, .int .i64 0, .int .i64 3, .int .i64 0, .slice p 1 c]] w0 fun e w' => e = .returned (.bool true) ∧ MemOk X w0 [(1, .dat (.slice p 1 c) (.l 2 (WKn.map wrD)))] w' := by
 refine (pright_x X 0 0 2 1 0 3 0 WKn p 1 c w0 (by decide) (fun e he => by obtain rfl := List.mem_singleton.1 he; decide) m0).mono fun e w' h => ?_
 obtain ⟨b, h1, h2, h3⟩ := h
 exact ⟨by rw [h1, h2.2 wkn_ok], h3⟩
theorem cknown_x (w0 : World) : Calls Tryz.prog 7 #[] w0 fun e w' => e = .returned (.bool true) ∧ Below w0.heap.size w0 w' := by
 refine ent0 Tryz.func7 rfl Tryz.ntmps7 fun Az Hz => ?_
 have m0 := MemOk.start (fun _ => False) w0
 refine regS Hz (.assign rfl .nil) fun Az Hz => ?_
 refine zsr fun K0 hK0 => ?_
 refine plz (e_litN Hz m0 60 (k := .u8) rfl rfl U22 fct13 rfl rfl rfl rfl fun g2 Az w3 Hz m3 => ?_)
 refine plz (e_cvN Hz m3 60 rfl rfl U22 U5 rfl fun Az w4 Hz m4 => ?_)
 refine goCh Hz (.build rfl fct17 fl78ckn rfl (by dsimp only [setL, List.set] <;> rfl) .nil) fun Az Hz => ?_
 refine plz (e_litR Hz m4 61 (mm := 2) rfl (.cons rfl rfl (.cons (.v _) (.cons (m4.rd (i := 60) rfl) .nil)) .nil) U28 fct15 rfl rfl rfl rfl rfl fun g6 Az w7 Hz m7 => ?_)
 refine goCh Hz (.build rfl fct9 fl30ckn rfl (by dsimp only [setL, List.set] <;> rfl) .nil) fun Az Hz => ?_
 have m10 := m7.freezeR 61 rfl
 refine plz (e_litR Hz m10 62 (mm := 2) rfl (.cons rfl rfl (.cons (.v _) (.cons (m10.rd (i := 61) rfl) .nil)) .nil) U23 fct14 rfl rfl rfl rfl rfl fun g9 Az w11 Hz m11 => ?_)
 refine goCh Hz (.build rfl fct16 fl25ckn rfl (by dsimp only [setL, List.set] <;> rfl) .nil) fun Az Hz => ?_
 refine plz (e_alloc Hz m11 63 fct16 rfl fun g13 Az w14 Hz m14 _ _ => ?_)
 refine plz (stw Hz m14 63 fct7 fun w15 m15 _ => ?_)
 refine znl (hK0 _ _ ?_)
 refine wsk fun K1 hK1 => ?_
 replace Hz := Hz.oz [0, 1]
 have m17 := m15.freezeR 62 rfl
 have m18 := m17.oz [60, 61, 62, 63]
 have m19 := m18.oz [60, 61, 62, 63]
 refine region_p 5 (B := [(60, _), (61, _), (62, _), (63, _)]) (m19.to ⟨il, il, il, il, trivial⟩) m19 (by kernel_rfl) (fun w20 hP20 m20 => ?_); clear m19
 refine goR hP20 [0, 2] [0, 2] 2 0 5 Hz (m20.to ⟨il, il, il, il, trivial⟩) (.loadBR hh (i := 63) rfl rfl U25 rfl fct7 (by simp) (by dsimp only [List.drop, List.take] <;> rfl) <| .loadBR hh (i := 63) rfl rfl U25 rfl fct7 (by simp) (by dsimp only [List.drop, List.take] <;> rfl) .nil) fun Az Hz => ?_
 refine dtw 1 4 ?_ ?_
 ·
  refine ecl Hz Tryz.func21 rfl (knew_x _ _ _ _ (m20.into [] (by decide) rfl)) ?_
  rintro e w23 ⟨p23, c23, rfl, hm23⟩
  have mx23 := m20.back hm23 [(64, 9)] (by decide); clear hm23 m20
  have m23 := mx23.oz [64, 60, 61, 62, 63]
  refine ⟨_, rfl, ?_⟩; intro Az Hz
  refine ⟨fun _ => (m23.to ⟨il, il, il, il, trivial⟩), ?_⟩
  refine dtw 3 4 ?_ ?_
  ·
   have m25 := m23.freezeR 64 rfl
   refine ecl Hz Tryz.func17 rfl (kapply_x _ _ _ _ _ _ (m25.into [(1, 64), (2, 62)] (by decide) rfl)) ?_
   rintro e w26 ⟨p26, c26, rfl, hm26⟩
   have mx26 := m25.back hm26 [(64, 1), (62, 2), (65, 9)] (by decide); clear hm26 m25
   have m26 := mx26.oz [64, 62, 65, 60, 61, 63]
   refine ⟨_, rfl, ?_⟩; intro Az Hz
   refine ⟨fun _ => (m26.to ⟨il, il, il, il, trivial⟩), ?_⟩
   refine so 4 ?_
   refine e_alloc Hz m26 66 fct6 rfl fun g28 Az w29 Hz m29 _ _ => ?_
   refine ⟨m29.to ⟨il, il, il, il, trivial⟩, ?_⟩
   refine se 5 ?_
   refine stw Hz m29 66 fct5 fun w30 m30 _ => ?_
   refine wpAnyE_done (by kernel_rfl) ?_ _
   refine hK1 _ _ ?_
   refine zsr fun K2 hK2 => ?_
   refine goCh Hz (.loadBR m30 (i := 66) rfl rfl U39 rfl fct5 (by simp) (by dsimp only [List.drop, List.take] <;> rfl) .nil) fun Az Hz => ?_
   have m33 := m30.freezeR 65 rfl
   refine plz (ecl Hz Tryz.func33 rfl (kread_a _ _ _ _ (m33.into [(1, 65)] (by decide) rfl)) ?_)
   rintro e w34 ⟨p34, c34, rfl, hm34⟩
   have mx34 := m33.back hm34 [(65, 1), (67, 9)] (by decide); clear hm34 m33
   have m34 := mx34.oz [65, 67, 60, 61, 62, 63, 64, 66]
   refine ⟨_, rfl, ?_⟩; intro Az Hz
   refine gz hK2 Hz (.move rfl <| .extract rfl rfl <| .extract rfl rfl <| .assign rfl <| .assign rfl <| .nil) fun Az Hz => ?_
   replace Hz := Hz.oz [0, 1, 2, 3, 4]
   refine zsr fun K3 hK3 => ?_
   refine goCh Hz (.loadBR m34 (i := 66) rfl rfl U39 rfl fct5 (by simp) (by dsimp only [List.drop, List.take] <;> rfl) .nil) fun Az Hz => ?_
   refine plz (ecl Hz Tryz.func33 rfl (kread_b _ _ _ _ (m34.into [(1, 65)] (by decide) rfl)) ?_)
   rintro e w44 ⟨p44, c44, rfl, hm44⟩
   have mx44 := m34.back hm44 [(65, 1), (68, 9)] (by decide); clear hm44 m34
   have m44 := mx44.oz [65, 68, 60, 61, 62, 63, 64, 66, 67]
   refine ⟨_, rfl, ?_⟩; intro Az Hz
   refine gz hK3 Hz (.move rfl <| .extract rfl rfl <| .extract rfl rfl <| .assign rfl <| .assign rfl <| .nil) fun Az Hz => ?_
   refine zsr fun K4 hK4 => ?_
   refine goCh Hz (.loadBR m44 (i := 66) rfl rfl U39 rfl fct5 (by simp) (by dsimp only [List.drop, List.take] <;> rfl) .nil) fun Az Hz => ?_
   refine plz (ecb Hz Tryz.func33 rfl m44 (kread_c _ _ _) fun Az w53 Hz m54 => ?_)
   refine gz hK4 Hz (.move rfl <| .extract rfl rfl <| .extract rfl rfl <| .assign rfl <| .assign rfl <| .nil) fun Az Hz => ?_
   replace Hz := Hz.oz [0, 1, 2, 3, 4, 5, 6, 8]
   refine zsr fun K5 hK5 => ?_
   refine goCh Hz (.loadBR m54 (i := 66) rfl rfl U39 rfl fct5 (by simp) (by dsimp only [List.drop, List.take] <;> rfl) .nil) fun Az Hz => ?_
   refine plz (ecb Hz Tryz.func33 rfl m54 (kread_d _ _ _) fun Az w64 Hz m65 => ?_)
   refine gz hK5 Hz (.move rfl <| .extract rfl rfl <| .extract rfl rfl <| .assign rfl <| .assign rfl <| .nil) fun Az Hz => ?_
   replace Hz := Hz.oz [0, 1, 2, 3, 4, 5, 6, 8, 10]
   refine zsr fun K6 hK6 => ?_
   refine goCh Hz (.loadBR m65 (i := 63) rfl rfl U25 rfl fct7 (by simp) (by dsimp only [List.drop, List.take] <;> rfl) .nil) fun Az Hz => ?_
   refine plz (ecl Hz Tryz.func12 rfl (kpp_x _ _ _ _ (m65.into [(1, 62)] (by decide) rfl)) ?_)
   rintro e w75 ⟨p75, c75, rfl, hm75⟩
   have mx75 := m65.back hm75 [(62, 1), (69, 9)] (by decide); clear hm75 m65
   have m75 := mx75.oz [62, 69, 60, 61, 63, 64, 65, 66, 67, 68]
   refine ⟨_, rfl, ?_⟩; intro Az Hz
   refine gz hK6 Hz (.move rfl <| .extract rfl rfl <| .extract rfl rfl <| .assign rfl <| .assign rfl <| .nil) fun Az Hz => ?_
   refine zsr fun K7 hK7 => ?_
   refine goCh Hz (.move rfl .nil) fun Az Hz => ?_
   have m84 := m75.freezeN 69 rfl
   refine plz (ecl Hz Tryz.func19 rfl (krp_x _ _ _ _ (m84.into [(1, 69)] (by decide) rfl)) ?_)
   rintro e w85 ⟨p85, c85, rfl, hm85⟩
   have mx85 := m84.back hm85 [(69, 1), (70, 9)] (by decide); clear hm85 m84
   have m85 := mx85.oz [69, 70, 60, 61, 62, 63, 64, 65, 66, 67, 68]
   refine ⟨_, rfl, ?_⟩; intro Az Hz
   refine goCh Hz (.move rfl <| .extract rfl rfl <| .extract rfl rfl .nil) fun Az Hz => ?_
   refine plz (e_alloc Hz m85 71 fct16 rfl fun g90 Az w91 Hz m91 _ _ => ?_)
   refine plz (stw Hz m91 71 fct7 fun w92 m92 _ => ?_)
   refine gz hK7 Hz (.assign rfl .nil) fun Az Hz => ?_
   replace Hz := Hz.oz [0, 1, 2, 3, 4, 5, 6, 8, 10, 12, 13, 14]
   refine zsr fun K8 hK8 => ?_
   refine goCh Hz (.loadBR m92 (i := 66) rfl rfl U39 rfl fct5 (by simp) (by dsimp only [List.drop, List.take] <;> rfl) .nil) fun Az Hz => ?_
   refine plz (ecl Hz Tryz.func25 rfl (kput_x _ _ _ _ (m92.into [(1, 65)] (by decide) rfl)) ?_)
   rintro e w97 ⟨p97, c97, rfl, hm97⟩
   have mx97 := m92.back hm97 [(65, 1), (72, 9)] (by decide); clear hm97 m92
   have m97 := mx97.oz [65, 72, 60, 61, 62, 63, 64, 66, 67, 68, 69, 70, 71]
   refine ⟨_, rfl, ?_⟩; intro Az Hz
   have m99 := m97.freezeN 72 rfl
   refine plz (ecl Hz Tryz.func27 rfl (pnew_f _ CBn _ _ _ (Nat.le_trans cbn.1 (by decide)) (m99.into [(1, 72)] (by decide) rfl)) ?_)
   rintro e w100 ⟨g100, p100, c100, rfl, hm100⟩
   have mx100 := m99.back hm100 [(73, 1), (74, 2), (72, 3)] (by decide); clear hm100 m99
   have m100 := mx100.oz [73, 74, 72, 60, 61, 62, 63, 64, 65, 66, 67, 68, 69, 70, 71]
   refine ⟨_, rfl, ?_⟩; intro Az Hz
   refine plz (ecl Hz Tryz.func28 rfl (ktake_x _ _ _ _ _ (m100.into [(1, 73), (2, 74)] (by decide) rfl)) ?_)
   rintro e w102 ⟨p102, c102, pq102, cq102, rfl, hm102⟩
   have mx102 := m100.back hm102 [(73, 1), (75, 2), (76, 9)] (by decide); clear hm102 m100
   have m102 := mx102.oz [73, 75, 76, 60, 61, 62, 63, 64, 65, 66, 67, 68, 69, 70, 71, 72]
   refine ⟨_, rfl, ?_⟩; intro Az Hz
   refine goCh Hz (.move rfl <| .extract rfl rfl <| .extract rfl rfl .nil) fun Az Hz => ?_
   refine plz (e_alloc Hz m102 77 fct6 rfl fun g107 Az w108 Hz m108 _ _ => ?_)
   refine plz (stw Hz m108 77 fct5 fun w109 m109 _ => ?_)
   refine gz hK8 Hz (.assign rfl .nil) fun Az Hz => ?_
   replace Hz := Hz.oz [0, 1, 2, 3, 4, 5, 6, 8, 10, 12, 13, 14, 15, 16]
   refine zsr fun K9 hK9 => ?_
   refine goCh Hz (.fa 4 rfl U39 <| .lb m109 66 U2 rfl rfl rfl <| .eql rfl rfl <| .move rfl .nil) fun Az Hz => ?_
   refine bc Hz 68 ?_ ?_
   rotate_left
   · intro hb _; exact absurd hb (by first | decide | (rw [s120]; decide) | (rw [s000]; decide) | simp)
   clear Hz; intro _ Hz
   refine goCh Hz (.moveZ rfl <| .eqlZ rfl rfl <| .pickT rfl rfl <| .move rfl .nil) fun Az Hz => ?_
   refine bc Hz 72 ?_ ?_
   rotate_left
   · intro hb _; exact absurd hb (by first | decide | (rw [s120]; decide) | (rw [s000]; decide) | simp)
   clear Hz; intro _ Hz
   refine goCh Hz (.moveZ rfl <| .strZ rfl (m109.nums (i := 67) rfl) U22 U5 U9 <| .eqlSZ rfl rfl <| .pickT rfl rfl <| .move rfl .nil) fun Az Hz => ?_
   refine bc Hz 77 ?_ ?_
   rotate_left
   · intro hb _; exact absurd hb (by first | decide | (rw [s120]; decide) | (rw [s000]; decide) | simp)
   clear Hz; intro _ Hz
   refine goCh Hz (.moveZ rfl <| .eqlZ rfl rfl <| .pickT rfl rfl <| .move rfl .nil) fun Az Hz => ?_
   refine bc Hz 81 ?_ ?_
   rotate_left
   · intro hb _; exact absurd hb (by first | decide | (rw [s120]; decide) | (rw [s000]; decide) | simp)
   clear Hz; intro _ Hz
   refine goCh Hz (.moveZ rfl <| .strZ rfl (m109.nums (i := 68) rfl) U22 U5 U9 <| .eqlSZ rfl rfl <| .pickT rfl rfl <| .move rfl .nil) fun Az Hz => ?_
   refine bc Hz 86 ?_ ?_
   rotate_left
   · intro hb _; exact absurd hb (by first | decide | (rw [s120]; decide) | (rw [s000]; decide) | simp)
   clear Hz; intro _ Hz
   refine goCh Hz (.moveZ rfl <| .eqlZ rfl rfl <| .pickT rfl rfl <| .move rfl .nil) fun Az Hz => ?_
   refine bc Hz 90 ?_ ?_
   rotate_left
   · intro hb _; exact absurd hb (by first | decide | (rw [s120]; decide) | (rw [s000]; decide) | simp)
   clear Hz; intro _ Hz
   refine goCh Hz (.moveZ rfl <| .eqlZ rfl rfl <| .pickT rfl rfl <| .move rfl .nil) fun Az Hz => ?_
   refine bc Hz 94 ?_ ?_
   rotate_left
   · intro hb _; exact absurd hb (by first | decide | (rw [s120]; decide) | (rw [s000]; decide) | simp)
   clear Hz; intro _ Hz
   refine goCh Hz (.moveZ rfl <| .eqlZ rfl rfl <| .pickT rfl rfl <| .move rfl .nil) fun Az Hz => ?_
   refine bc Hz 98 ?_ ?_
   rotate_left
   · intro hb _; exact absurd hb (by first | decide | (rw [s120]; decide) | (rw [s000]; decide) | simp)
   clear Hz; intro _ Hz
   refine goCh Hz (.moveZ rfl <| .eqlZ rfl rfl <| .pickT rfl rfl <| .move rfl .nil) fun Az Hz => ?_
   refine bc Hz 102 ?_ ?_
   rotate_left
   · intro hb _; exact absurd hb (by first | decide | (rw [s120]; decide) | (rw [s000]; decide) | simp)
   clear Hz; intro _ Hz
   refine goCh Hz (.faZ 5 rfl U25 <| .loadB1Z m109 (i := 71) rfl rfl rfl U2 rfl <| .eqlZ rfl rfl <| .pickT rfl rfl <| .move rfl .nil) fun Az Hz => ?_
   refine bc Hz 107 ?_ ?_
   rotate_left
   · intro hb _; exact absurd hb (by first | decide | (rw [s120]; decide) | (rw [s000]; decide) | simp)
   clear Hz; intro _ Hz
   refine goCh Hz (.moveZ rfl <| .pickT rfl rfl <| .move rfl <| .loadBRZ m109 (i := 77) rfl rfl U39 rfl fct5 (by simp) (by dsimp only [List.drop, List.take] <;> rfl) <| .loadBRZ m109 (i := 66) rfl rfl U39 rfl fct5 (by simp) (by dsimp only [List.drop, List.take] <;> rfl) .nil) fun Az Hz => ?_
   refine stz Hz (ecl Hz Tryz.func35 rfl (ksame_x _ _ _ _ _ _ (m109.into [(1, 76), (2, 65)] (by decide) rfl)) ?_)
   rintro e w174 ⟨rfl, hm174⟩
   have mx174 := m109.back hm174 [(76, 1), (65, 2)] (by decide); clear hm174 m109
   have m174 := mx174.oz [76, 65, 60, 61, 62, 63, 64, 66, 67, 68, 69, 70, 71, 72, 73, 75, 77]
   refine ⟨_, rfl, ?_⟩; intro Az Hz
   refine goCh Hz (.pickT rfl rfl <| .move rfl <| .loadBRZ m174 (i := 66) rfl rfl U39 rfl fct5 (by simp) (by dsimp only [List.drop, List.take] <;> rfl) .nil) fun Az Hz => ?_
   refine stz Hz (ecl Hz Tryz.func23 rfl (kright_x _ _ _ _ (m174.into [(1, 65)] (by decide) rfl)) ?_)
   rintro e w179 ⟨rfl, hm179⟩
   have mx179 := m174.back hm179 [(65, 1)] (by decide); clear hm179 m174
   have m179 := mx179.oz [65, 60, 61, 62, 63, 64, 66, 67, 68, 69, 70, 71, 72, 73, 75, 76, 77]
   refine ⟨_, rfl, ?_⟩; intro Az Hz
   refine goCh Hz (.pickT rfl rfl <| .move rfl <| .loadBRZ m179 (i := 63) rfl rfl U25 rfl fct7 (by simp) (by dsimp only [List.drop, List.take] <;> rfl) .nil) fun Az Hz => ?_
   refine stz Hz (ecl Hz Tryz.func14 rfl (kpright_x _ _ _ _ (m179.into [(1, 62)] (by decide) rfl)) ?_)
   rintro e w184 ⟨rfl, hm184⟩
   have mx184 := m179.back hm184 [(62, 1)] (by decide); clear hm184 m179
   have m184 := mx184.oz [62, 60, 61, 63, 64, 65, 66, 67, 68, 69, 70, 71, 72, 73, 75, 76, 77]
   refine ⟨_, rfl, ?_⟩; intro Az Hz
   refine gz hK9 Hz (.pickT rfl rfl <| .assign rfl <| .nil) fun Az Hz => ?_
   refine rt1 Hz ?_
   exact ⟨by (first | rfl | simp), m184.below⟩
  refine e_alloc Hz m23 65 fct6 rfl fun g188 Az w189 Hz m189 _ _ => ?_
  refine ⟨fun _ => (m189.to ⟨il, il, il, il, trivial⟩), ?_⟩
  have m190 := m189.freezeR 64 rfl
  refine so 3 ?_
  refine ecl Hz Tryz.func17 rfl (kapply_x _ _ _ _ _ _ (m190.into [(1, 64), (2, 62)] (by decide) rfl)) ?_
  rintro e w191 ⟨p191, c191, rfl, hm191⟩
  have mx191 := m190.back hm191 [(64, 1), (62, 2), (66, 9)] (by decide); clear hm191 m190
  have m191 := mx191.oz [64, 62, 66, 60, 61, 63, 65]
  refine ⟨_, rfl, ?_⟩; intro Az Hz
  refine ⟨m191.to ⟨il, il, il, il, trivial⟩, ?_⟩
  refine se 5 ?_
  refine stw Hz m191 65 fct5 fun w193 m193 _ => ?_
  refine wpAnyE_done (by kernel_rfl) ?_ _
  refine hK1 _ _ ?_
  refine zsr fun K10 hK10 => ?_
  refine goCh Hz (.loadBR m193 (i := 65) rfl rfl U39 rfl fct5 (by simp) (by dsimp only [List.drop, List.take] <;> rfl) .nil) fun Az Hz => ?_
  have m196 := m193.freezeR 66 rfl
  refine plz (ecl Hz Tryz.func33 rfl (kread_a _ _ _ _ (m196.into [(1, 66)] (by decide) rfl)) ?_)
  rintro e w197 ⟨p197, c197, rfl, hm197⟩
  have mx197 := m196.back hm197 [(66, 1), (67, 9)] (by decide); clear hm197 m196
  have m197 := mx197.oz [66, 67, 60, 61, 62, 63, 64, 65]
  refine ⟨_, rfl, ?_⟩; intro Az Hz
  refine gz hK10 Hz (.move rfl <| .extract rfl rfl <| .extract rfl rfl <| .assign rfl <| .assign rfl <| .nil) fun Az Hz => ?_
  replace Hz := Hz.oz [0, 1, 2, 3, 4]
  refine zsr fun K11 hK11 => ?_
  refine goCh Hz (.loadBR m197 (i := 65) rfl rfl U39 rfl fct5 (by simp) (by dsimp only [List.drop, List.take] <;> rfl) .nil) fun Az Hz => ?_
  refine plz (ecl Hz Tryz.func33 rfl (kread_b _ _ _ _ (m197.into [(1, 66)] (by decide) rfl)) ?_)
  rintro e w207 ⟨p207, c207, rfl, hm207⟩
  have mx207 := m197.back hm207 [(66, 1), (68, 9)] (by decide); clear hm207 m197
  have m207 := mx207.oz [66, 68, 60, 61, 62, 63, 64, 65, 67]
  refine ⟨_, rfl, ?_⟩; intro Az Hz
  refine gz hK11 Hz (.move rfl <| .extract rfl rfl <| .extract rfl rfl <| .assign rfl <| .assign rfl <| .nil) fun Az Hz => ?_
  refine zsr fun K12 hK12 => ?_
  refine goCh Hz (.loadBR m207 (i := 65) rfl rfl U39 rfl fct5 (by simp) (by dsimp only [List.drop, List.take] <;> rfl) .nil) fun Az Hz => ?_
  refine plz (ecb Hz Tryz.func33 rfl m207 (kread_c _ _ _) fun Az w216 Hz m217 => ?_)
  refine gz hK12 Hz (.move rfl <| .extract rfl rfl <| .extract rfl rfl <| .assign rfl <| .assign rfl <| .nil) fun Az Hz => ?_
  replace Hz := Hz.oz [0, 1, 2, 3, 4, 5, 6, 8]
  refine zsr fun K13 hK13 => ?_
  refine goCh Hz (.loadBR m217 (i := 65) rfl rfl U39 rfl fct5 (by simp) (by dsimp only [List.drop, List.take] <;> rfl) .nil) fun Az Hz => ?_
  refine plz (ecb Hz Tryz.func33 rfl m217 (kread_d _ _ _) fun Az w227 Hz m228 => ?_)
  refine gz hK13 Hz (.move rfl <| .extract rfl rfl <| .extract rfl rfl <| .assign rfl <| .assign rfl <| .nil) fun Az Hz => ?_
  replace Hz := Hz.oz [0, 1, 2, 3, 4, 5, 6, 8, 10]
  refine zsr fun K14 hK14 => ?_
  refine goCh Hz (.loadBR m228 (i := 63) rfl rfl U25 rfl fct7 (by simp) (by dsimp only [List.drop, List.take] <;> rfl) .nil) fun Az Hz => ?_
  refine plz (ecl Hz Tryz.func12 rfl (kpp_x _ _ _ _ (m228.into [(1, 62)] (by decide) rfl)) ?_)
  rintro e w238 ⟨p238, c238, rfl, hm238⟩
  have mx238 := m228.back hm238 [(62, 1), (69, 9)] (by decide); clear hm238 m228
  have m238 := mx238.oz [62, 69, 60, 61, 63, 64, 65, 66, 67, 68]
  refine ⟨_, rfl, ?_⟩; intro Az Hz
  refine gz hK14 Hz (.move rfl <| .extract rfl rfl <| .extract rfl rfl <| .assign rfl <| .assign rfl <| .nil) fun Az Hz => ?_
  refine zsr fun K15 hK15 => ?_
  refine goCh Hz (.move rfl .nil) fun Az Hz => ?_
  have m247 := m238.freezeN 69 rfl
  refine plz (ecl Hz Tryz.func19 rfl (krp_x _ _ _ _ (m247.into [(1, 69)] (by decide) rfl)) ?_)
  rintro e w248 ⟨p248, c248, rfl, hm248⟩
  have mx248 := m247.back hm248 [(69, 1), (70, 9)] (by decide); clear hm248 m247
  have m248 := mx248.oz [69, 70, 60, 61, 62, 63, 64, 65, 66, 67, 68]
  refine ⟨_, rfl, ?_⟩; intro Az Hz
  refine goCh Hz (.move rfl <| .extract rfl rfl <| .extract rfl rfl .nil) fun Az Hz => ?_
  refine plz (e_alloc Hz m248 71 fct16 rfl fun g253 Az w254 Hz m254 _ _ => ?_)
  refine plz (stw Hz m254 71 fct7 fun w255 m255 _ => ?_)
  refine gz hK15 Hz (.assign rfl .nil) fun Az Hz => ?_
  replace Hz := Hz.oz [0, 1, 2, 3, 4, 5, 6, 8, 10, 12, 13, 14]
  refine zsr fun K16 hK16 => ?_
  refine goCh Hz (.loadBR m255 (i := 65) rfl rfl U39 rfl fct5 (by simp) (by dsimp only [List.drop, List.take] <;> rfl) .nil) fun Az Hz => ?_
  refine plz (ecl Hz Tryz.func25 rfl (kput_x _ _ _ _ (m255.into [(1, 66)] (by decide) rfl)) ?_)
  rintro e w260 ⟨p260, c260, rfl, hm260⟩
  have mx260 := m255.back hm260 [(66, 1), (72, 9)] (by decide); clear hm260 m255
  have m260 := mx260.oz [66, 72, 60, 61, 62, 63, 64, 65, 67, 68, 69, 70, 71]
  refine ⟨_, rfl, ?_⟩; intro Az Hz
  have m262 := m260.freezeN 72 rfl
  refine plz (ecl Hz Tryz.func27 rfl (pnew_f _ CBn _ _ _ (Nat.le_trans cbn.1 (by decide)) (m262.into [(1, 72)] (by decide) rfl)) ?_)
  rintro e w263 ⟨g263, p263, c263, rfl, hm263⟩
  have mx263 := m262.back hm263 [(73, 1), (74, 2), (72, 3)] (by decide); clear hm263 m262
  have m263 := mx263.oz [73, 74, 72, 60, 61, 62, 63, 64, 65, 66, 67, 68, 69, 70, 71]
  refine ⟨_, rfl, ?_⟩; intro Az Hz
  refine plz (ecl Hz Tryz.func28 rfl (ktake_x _ _ _ _ _ (m263.into [(1, 73), (2, 74)] (by decide) rfl)) ?_)
  rintro e w265 ⟨p265, c265, pq265, cq265, rfl, hm265⟩
  have mx265 := m263.back hm265 [(73, 1), (75, 2), (76, 9)] (by decide); clear hm265 m263
  have m265 := mx265.oz [73, 75, 76, 60, 61, 62, 63, 64, 65, 66, 67, 68, 69, 70, 71, 72]
  refine ⟨_, rfl, ?_⟩; intro Az Hz
  refine goCh Hz (.move rfl <| .extract rfl rfl <| .extract rfl rfl .nil) fun Az Hz => ?_
  refine plz (e_alloc Hz m265 77 fct6 rfl fun g270 Az w271 Hz m271 _ _ => ?_)
  refine plz (stw Hz m271 77 fct5 fun w272 m272 _ => ?_)
  refine gz hK16 Hz (.assign rfl .nil) fun Az Hz => ?_
  replace Hz := Hz.oz [0, 1, 2, 3, 4, 5, 6, 8, 10, 12, 13, 14, 15, 16]
  refine zsr fun K17 hK17 => ?_
  refine goCh Hz (.fa 4 rfl U39 <| .lb m272 65 U2 rfl rfl rfl <| .eql rfl rfl <| .move rfl .nil) fun Az Hz => ?_
  refine bc Hz 68 ?_ ?_
  rotate_left
  · intro hb _; exact absurd hb (by first | decide | (rw [s120]; decide) | (rw [s000]; decide) | simp)
  clear Hz; intro _ Hz
  refine goCh Hz (.moveZ rfl <| .eqlZ rfl rfl <| .pickT rfl rfl <| .move rfl .nil) fun Az Hz => ?_
  refine bc Hz 72 ?_ ?_
  rotate_left
  · intro hb _; exact absurd hb (by first | decide | (rw [s120]; decide) | (rw [s000]; decide) | simp)
  clear Hz; intro _ Hz
  refine goCh Hz (.moveZ rfl <| .strZ rfl (m272.nums (i := 67) rfl) U22 U5 U9 <| .eqlSZ rfl rfl <| .pickT rfl rfl <| .move rfl .nil) fun Az Hz => ?_
  refine bc Hz 77 ?_ ?_
  rotate_left
  · intro hb _; exact absurd hb (by first | decide | (rw [s120]; decide) | (rw [s000]; decide) | simp)
  clear Hz; intro _ Hz
  refine goCh Hz (.moveZ rfl <| .eqlZ rfl rfl <| .pickT rfl rfl <| .move rfl .nil) fun Az Hz => ?_
  refine bc Hz 81 ?_ ?_
  rotate_left
  · intro hb _; exact absurd hb (by first | decide | (rw [s120]; decide) | (rw [s000]; decide) | simp)
  clear Hz; intro _ Hz
  refine goCh Hz (.moveZ rfl <| .strZ rfl (m272.nums (i := 68) rfl) U22 U5 U9 <| .eqlSZ rfl rfl <| .pickT rfl rfl <| .move rfl .nil) fun Az Hz => ?_
  refine bc Hz 86 ?_ ?_
  rotate_left
  · intro hb _; exact absurd hb (by first | decide | (rw [s120]; decide) | (rw [s000]; decide) | simp)
  clear Hz; intro _ Hz
  refine goCh Hz (.moveZ rfl <| .eqlZ rfl rfl <| .pickT rfl rfl <| .move rfl .nil) fun Az Hz => ?_
  refine bc Hz 90 ?_ ?_
  rotate_left
  · intro hb _; exact absurd hb (by first | decide | (rw [s120]; decide) | (rw [s000]; decide) | simp)
  clear Hz; intro _ Hz
  refine goCh Hz (.moveZ rfl <| .eqlZ rfl rfl <| .pickT rfl rfl <| .move rfl .nil) fun Az Hz => ?_
  refine bc Hz 94 ?_ ?_
  rotate_left
  · intro hb _; exact absurd hb (by first | decide | (rw [s120]; decide) | (rw [s000]; decide) | simp)
  clear Hz; intro _ Hz
  refine goCh Hz (.moveZ rfl <| .eqlZ rfl rfl <| .pickT rfl rfl <| .move rfl .nil) fun Az Hz => ?_
  refine bc Hz 98 ?_ ?_
  rotate_left
  · intro hb _; exact absurd hb (by first | decide | (rw [s120]; decide) | (rw [s000]; decide) | simp)
  clear Hz; intro _ Hz
  refine goCh Hz (.moveZ rfl <| .eqlZ rfl rfl <| .pickT rfl rfl <| .move rfl .nil) fun Az Hz => ?_
  refine bc Hz 102 ?_ ?_
  rotate_left
  · intro hb _; exact absurd hb (by first | decide | (rw [s120]; decide) | (rw [s000]; decide) | simp)
  clear Hz; intro _ Hz
  refine goCh Hz (.faZ 5 rfl U25 <| .loadB1Z m272 (i := 71) rfl rfl rfl U2 rfl <| .eqlZ rfl rfl <| .pickT rfl rfl <| .move rfl .nil) fun Az Hz => ?_
  refine bc Hz 107 ?_ ?_
  rotate_left
  · intro hb _; exact absurd hb (by first | decide | (rw [s120]; decide) | (rw [s000]; decide) | simp)
  clear Hz; intro _ Hz
  refine goCh Hz (.moveZ rfl <| .pickT rfl rfl <| .move rfl <| .loadBRZ m272 (i := 77) rfl rfl U39 rfl fct5 (by simp) (by dsimp only [List.drop, List.take] <;> rfl) <| .loadBRZ m272 (i := 65) rfl rfl U39 rfl fct5 (by simp) (by dsimp only [List.drop, List.take] <;> rfl) .nil) fun Az Hz => ?_
  refine stz Hz (ecl Hz Tryz.func35 rfl (ksame_x _ _ _ _ _ _ (m272.into [(1, 76), (2, 66)] (by decide) rfl)) ?_)
  rintro e w337 ⟨rfl, hm337⟩
  have mx337 := m272.back hm337 [(76, 1), (66, 2)] (by decide); clear hm337 m272
  have m337 := mx337.oz [76, 66, 60, 61, 62, 63, 64, 65, 67, 68, 69, 70, 71, 72, 73, 75, 77]
  refine ⟨_, rfl, ?_⟩; intro Az Hz
  refine goCh Hz (.pickT rfl rfl <| .move rfl <| .loadBRZ m337 (i := 65) rfl rfl U39 rfl fct5 (by simp) (by dsimp only [List.drop, List.take] <;> rfl) .nil) fun Az Hz => ?_
  refine stz Hz (ecl Hz Tryz.func23 rfl (kright_x _ _ _ _ (m337.into [(1, 66)] (by decide) rfl)) ?_)
  rintro e w342 ⟨rfl, hm342⟩
  have mx342 := m337.back hm342 [(66, 1)] (by decide); clear hm342 m337
  have m342 := mx342.oz [66, 60, 61, 62, 63, 64, 65, 67, 68, 69, 70, 71, 72, 73, 75, 76, 77]
  refine ⟨_, rfl, ?_⟩; intro Az Hz
  refine goCh Hz (.pickT rfl rfl <| .move rfl <| .loadBRZ m342 (i := 63) rfl rfl U25 rfl fct7 (by simp) (by dsimp only [List.drop, List.take] <;> rfl) .nil) fun Az Hz => ?_
  refine stz Hz (ecl Hz Tryz.func14 rfl (kpright_x _ _ _ _ (m342.into [(1, 62)] (by decide) rfl)) ?_)
  rintro e w347 ⟨rfl, hm347⟩
  have mx347 := m342.back hm347 [(62, 1)] (by decide); clear hm347 m342
  have m347 := mx347.oz [62, 60, 61, 63, 64, 65, 66, 67, 68, 69, 70, 71, 72, 73, 75, 76, 77]
  refine ⟨_, rfl, ?_⟩; intro Az Hz
  refine gz hK17 Hz (.pickT rfl rfl <| .assign rfl <| .nil) fun Az Hz => ?_
  refine rt1 Hz ?_
  exact ⟨by (first | rfl | simp), m347.below⟩
 refine e_alloc Hz m20 64 fct6 rfl fun g351 Az w352 Hz m352 _ _ => ?_
 refine ⟨fun _ => (m352.to ⟨il, il, il, il, trivial⟩), ?_⟩
 refine so 1 ?_
 refine ecl Hz Tryz.func21 rfl (knew_x _ _ _ _ (m352.into [] (by decide) rfl)) ?_
 rintro e w353 ⟨p353, c353, rfl, hm353⟩
 have mx353 := m352.back hm353 [(65, 9)] (by decide); clear hm353 m352
 have m353 := mx353.oz [65, 60, 61, 62, 63, 64]
 refine ⟨_, rfl, ?_⟩; intro Az Hz
 refine ⟨m353.to ⟨il, il, il, il, trivial⟩, ?_⟩
 have m355 := m353.freezeR 65 rfl
 refine so 3 ?_
 refine ecl Hz Tryz.func17 rfl (kapply_x _ _ _ _ _ _ (m355.into [(1, 65), (2, 62)] (by decide) rfl)) ?_
 rintro e w356 ⟨p356, c356, rfl, hm356⟩
 have mx356 := m355.back hm356 [(65, 1), (62, 2), (66, 9)] (by decide); clear hm356 m355
 have m356 := mx356.oz [65, 62, 66, 60, 61, 63, 64]
 refine ⟨_, rfl, ?_⟩; intro Az Hz
 refine ⟨m356.to ⟨il, il, il, il, trivial⟩, ?_⟩
 refine se 5 ?_
 refine stw Hz m356 64 fct5 fun w358 m358 _ => ?_
 refine wpAnyE_done (by kernel_rfl) ?_ _
 refine hK1 _ _ ?_
 refine zsr fun K18 hK18 => ?_
 refine goCh Hz (.loadBR m358 (i := 64) rfl rfl U39 rfl fct5 (by simp) (by dsimp only [List.drop, List.take] <;> rfl) .nil) fun Az Hz => ?_
 have m361 := m358.freezeR 66 rfl
 refine plz (ecl Hz Tryz.func33 rfl (kread_a _ _ _ _ (m361.into [(1, 66)] (by decide) rfl)) ?_)
 rintro e w362 ⟨p362, c362, rfl, hm362⟩
 have mx362 := m361.back hm362 [(66, 1), (67, 9)] (by decide); clear hm362 m361
 have m362 := mx362.oz [66, 67, 60, 61, 62, 63, 64, 65]
 refine ⟨_, rfl, ?_⟩; intro Az Hz
 refine gz hK18 Hz (.move rfl <| .extract rfl rfl <| .extract rfl rfl <| .assign rfl <| .assign rfl <| .nil) fun Az Hz => ?_
 replace Hz := Hz.oz [0, 1, 2, 3, 4]
 refine zsr fun K19 hK19 => ?_
 refine goCh Hz (.loadBR m362 (i := 64) rfl rfl U39 rfl fct5 (by simp) (by dsimp only [List.drop, List.take] <;> rfl) .nil) fun Az Hz => ?_
 refine plz (ecl Hz Tryz.func33 rfl (kread_b _ _ _ _ (m362.into [(1, 66)] (by decide) rfl)) ?_)
 rintro e w372 ⟨p372, c372, rfl, hm372⟩
 have mx372 := m362.back hm372 [(66, 1), (68, 9)] (by decide); clear hm372 m362
 have m372 := mx372.oz [66, 68, 60, 61, 62, 63, 64, 65, 67]
 refine ⟨_, rfl, ?_⟩; intro Az Hz
 refine gz hK19 Hz (.move rfl <| .extract rfl rfl <| .extract rfl rfl <| .assign rfl <| .assign rfl <| .nil) fun Az Hz => ?_
 refine zsr fun K20 hK20 => ?_
 refine goCh Hz (.loadBR m372 (i := 64) rfl rfl U39 rfl fct5 (by simp) (by dsimp only [List.drop, List.take] <;> rfl) .nil) fun Az Hz => ?_
 refine plz (ecb Hz Tryz.func33 rfl m372 (kread_c _ _ _) fun Az w381 Hz m382 => ?_)
 refine gz hK20 Hz (.move rfl <| .extract rfl rfl <| .extract rfl rfl <| .assign rfl <| .assign rfl <| .nil) fun Az Hz => ?_
 replace Hz := Hz.oz [0, 1, 2, 3, 4, 5, 6, 8]
 refine zsr fun K21 hK21 => ?_
 refine goCh Hz (.loadBR m382 (i := 64) rfl rfl U39 rfl fct5 (by simp) (by dsimp only [List.drop, List.take] <;> rfl) .nil) fun Az Hz => ?_
 refine plz (ecb Hz Tryz.func33 rfl m382 (kread_d _ _ _) fun Az w392 Hz m393 => ?_)
 refine gz hK21 Hz (.move rfl <| .extract rfl rfl <| .extract rfl rfl <| .assign rfl <| .assign rfl <| .nil) fun Az Hz => ?_
 replace Hz := Hz.oz [0, 1, 2, 3, 4, 5, 6, 8, 10]
 refine zsr fun K22 hK22 => ?_
 refine goCh Hz (.loadBR m393 (i := 63) rfl rfl U25 rfl fct7 (by simp) (by dsimp only [List.drop, List.take] <;> rfl) .nil) fun Az Hz => ?_
 refine plz (ecl Hz Tryz.func12 rfl (kpp_x _ _ _ _ (m393.into [(1, 62)] (by decide) rfl)) ?_)
 rintro e w403 ⟨p403, c403, rfl, hm403⟩
 have mx403 := m393.back hm403 [(62, 1), (69, 9)] (by decide); clear hm403 m393
 have m403 := mx403.oz [62, 69, 60, 61, 63, 64, 65, 66, 67, 68]
 refine ⟨_, rfl, ?_⟩; intro Az Hz
 refine gz hK22 Hz (.move rfl <| .extract rfl rfl <| .extract rfl rfl <| .assign rfl <| .assign rfl <| .nil) fun Az Hz => ?_
 refine zsr fun K23 hK23 => ?_
 refine goCh Hz (.move rfl .nil) fun Az Hz => ?_
 have m412 := m403.freezeN 69 rfl
 refine plz (ecl Hz Tryz.func19 rfl (krp_x _ _ _ _ (m412.into [(1, 69)] (by decide) rfl)) ?_)
 rintro e w413 ⟨p413, c413, rfl, hm413⟩
 have mx413 := m412.back hm413 [(69, 1), (70, 9)] (by decide); clear hm413 m412
 have m413 := mx413.oz [69, 70, 60, 61, 62, 63, 64, 65, 66, 67, 68]
 refine ⟨_, rfl, ?_⟩; intro Az Hz
 refine goCh Hz (.move rfl <| .extract rfl rfl <| .extract rfl rfl .nil) fun Az Hz => ?_
 refine plz (e_alloc Hz m413 71 fct16 rfl fun g418 Az w419 Hz m419 _ _ => ?_)
 refine plz (stw Hz m419 71 fct7 fun w420 m420 _ => ?_)
 refine gz hK23 Hz (.assign rfl .nil) fun Az Hz => ?_
 replace Hz := Hz.oz [0, 1, 2, 3, 4, 5, 6, 8, 10, 12, 13, 14]
 refine zsr fun K24 hK24 => ?_
 refine goCh Hz (.loadBR m420 (i := 64) rfl rfl U39 rfl fct5 (by simp) (by dsimp only [List.drop, List.take] <;> rfl) .nil) fun Az Hz => ?_
 refine plz (ecl Hz Tryz.func25 rfl (kput_x _ _ _ _ (m420.into [(1, 66)] (by decide) rfl)) ?_)
 rintro e w425 ⟨p425, c425, rfl, hm425⟩
 have mx425 := m420.back hm425 [(66, 1), (72, 9)] (by decide); clear hm425 m420
 have m425 := mx425.oz [66, 72, 60, 61, 62, 63, 64, 65, 67, 68, 69, 70, 71]
 refine ⟨_, rfl, ?_⟩; intro Az Hz
 have m427 := m425.freezeN 72 rfl
 refine plz (ecl Hz Tryz.func27 rfl (pnew_f _ CBn _ _ _ (Nat.le_trans cbn.1 (by decide)) (m427.into [(1, 72)] (by decide) rfl)) ?_)
 rintro e w428 ⟨g428, p428, c428, rfl, hm428⟩
 have mx428 := m427.back hm428 [(73, 1), (74, 2), (72, 3)] (by decide); clear hm428 m427
 have m428 := mx428.oz [73, 74, 72, 60, 61, 62, 63, 64, 65, 66, 67, 68, 69, 70, 71]
 refine ⟨_, rfl, ?_⟩; intro Az Hz
 refine plz (ecl Hz Tryz.func28 rfl (ktake_x _ _ _ _ _ (m428.into [(1, 73), (2, 74)] (by decide) rfl)) ?_)
 rintro e w430 ⟨p430, c430, pq430, cq430, rfl, hm430⟩
 have mx430 := m428.back hm430 [(73, 1), (75, 2), (76, 9)] (by decide); clear hm430 m428
 have m430 := mx430.oz [73, 75, 76, 60, 61, 62, 63, 64, 65, 66, 67, 68, 69, 70, 71, 72]
 refine ⟨_, rfl, ?_⟩; intro Az Hz
 refine goCh Hz (.move rfl <| .extract rfl rfl <| .extract rfl rfl .nil) fun Az Hz => ?_
 refine plz (e_alloc Hz m430 77 fct6 rfl fun g435 Az w436 Hz m436 _ _ => ?_)
 refine plz (stw Hz m436 77 fct5 fun w437 m437 _ => ?_)
 refine gz hK24 Hz (.assign rfl .nil) fun Az Hz => ?_
 replace Hz := Hz.oz [0, 1, 2, 3, 4, 5, 6, 8, 10, 12, 13, 14, 15, 16]
 refine zsr fun K25 hK25 => ?_
 refine goCh Hz (.fa 4 rfl U39 <| .lb m437 64 U2 rfl rfl rfl <| .eql rfl rfl <| .move rfl .nil) fun Az Hz => ?_
 refine bc Hz 68 ?_ ?_
 rotate_left
 · intro hb _; exact absurd hb (by first | decide | (rw [s120]; decide) | (rw [s000]; decide) | simp)
 clear Hz; intro _ Hz
 refine goCh Hz (.moveZ rfl <| .eqlZ rfl rfl <| .pickT rfl rfl <| .move rfl .nil) fun Az Hz => ?_
 refine bc Hz 72 ?_ ?_
 rotate_left
 · intro hb _; exact absurd hb (by first | decide | (rw [s120]; decide) | (rw [s000]; decide) | simp)
 clear Hz; intro _ Hz
 refine goCh Hz (.moveZ rfl <| .strZ rfl (m437.nums (i := 67) rfl) U22 U5 U9 <| .eqlSZ rfl rfl <| .pickT rfl rfl <| .move rfl .nil) fun Az Hz => ?_
 refine bc Hz 77 ?_ ?_
 rotate_left
 · intro hb _; exact absurd hb (by first | decide | (rw [s120]; decide) | (rw [s000]; decide) | simp)
 clear Hz; intro _ Hz
 refine goCh Hz (.moveZ rfl <| .eqlZ rfl rfl <| .pickT rfl rfl <| .move rfl .nil) fun Az Hz => ?_
 refine bc Hz 81 ?_ ?_
 rotate_left
 · intro hb _; exact absurd hb (by first | decide | (rw [s120]; decide) | (rw [s000]; decide) | simp)
 clear Hz; intro _ Hz
 refine goCh Hz (.moveZ rfl <| .strZ rfl (m437.nums (i := 68) rfl) U22 U5 U9 <| .eqlSZ rfl rfl <| .pickT rfl rfl <| .move rfl .nil) fun Az Hz => ?_
 refine bc Hz 86 ?_ ?_
 rotate_left
 · intro hb _; exact absurd hb (by first | decide | (rw [s120]; decide) | (rw [s000]; decide) | simp)
 clear Hz; intro _ Hz
 refine goCh Hz (.moveZ rfl <| .eqlZ rfl rfl <| .pickT rfl rfl <| .move rfl .nil) fun Az Hz => ?_
 refine bc Hz 90 ?_ ?_
 rotate_left
 · intro hb _; exact absurd hb (by first | decide | (rw [s120]; decide) | (rw [s000]; decide) | simp)
 clear Hz; intro _ Hz
 refine goCh Hz (.moveZ rfl <| .eqlZ rfl rfl <| .pickT rfl rfl <| .move rfl .nil) fun Az Hz => ?_
 refine bc Hz 94 ?_ ?_
 rotate_left
 · intro hb _; exact absurd hb (by first | decide | (rw [s120]; decide) | (rw [s000]; decide) | simp)
 clear Hz; intro _ Hz
 refine goCh Hz (.moveZ rfl <| .eqlZ rfl rfl <| .pickT rfl rfl <| .move rfl .nil) fun Az Hz => ?_
 refine bc Hz 98 ?_ ?_
 rotate_left
 · intro hb _; exact absurd hb (by first | decide | (rw [s120]; decide) | (rw [s000]; decide) | simp)
 clear Hz; intro _ Hz
 refine goCh Hz (.moveZ rfl <| .eqlZ rfl rfl <| .pickT rfl rfl <| .move rfl .nil) fun Az Hz => ?_
 refine bc Hz 102 ?_ ?_
 rotate_left
 · intro hb _; exact absurd hb (by first | decide | (rw [s120]; decide) | (rw [s000]; decide) | simp)
 clear Hz; intro _ Hz
 refine goCh Hz (.faZ 5 rfl U25 <| .loadB1Z m437 (i := 71) rfl rfl rfl U2 rfl <| .eqlZ rfl rfl <| .pickT rfl rfl <| .move rfl .nil) fun Az Hz => ?_
 refine bc Hz 107 ?_ ?_
 rotate_left
 · intro hb _; exact absurd hb (by first | decide | (rw [s120]; decide) | (rw [s000]; decide) | simp)
 clear Hz; intro _ Hz
 refine goCh Hz (.moveZ rfl <| .pickT rfl rfl <| .move rfl <| .loadBRZ m437 (i := 77) rfl rfl U39 rfl fct5 (by simp) (by dsimp only [List.drop, List.take] <;> rfl) <| .loadBRZ m437 (i := 64) rfl rfl U39 rfl fct5 (by simp) (by dsimp only [List.drop, List.take] <;> rfl) .nil) fun Az Hz => ?_
 refine stz Hz (ecl Hz Tryz.func35 rfl (ksame_x _ _ _ _ _ _ (m437.into [(1, 76), (2, 66)] (by decide) rfl)) ?_)
 rintro e w502 ⟨rfl, hm502⟩
 have mx502 := m437.back hm502 [(76, 1), (66, 2)] (by decide); clear hm502 m437
 have m502 := mx502.oz [76, 66, 60, 61, 62, 63, 64, 65, 67, 68, 69, 70, 71, 72, 73, 75, 77]
 refine ⟨_, rfl, ?_⟩; intro Az Hz
 refine goCh Hz (.pickT rfl rfl <| .move rfl <| .loadBRZ m502 (i := 64) rfl rfl U39 rfl fct5 (by simp) (by dsimp only [List.drop, List.take] <;> rfl) .nil) fun Az Hz => ?_
 refine stz Hz (ecl Hz Tryz.func23 rfl (kright_x _ _ _ _ (m502.into [(1, 66)] (by decide) rfl)) ?_)
 rintro e w507 ⟨rfl, hm507⟩
 have mx507 := m502.back hm507 [(66, 1)] (by decide); clear hm507 m502
 have m507 := mx507.oz [66, 60, 61, 62, 63, 64, 65, 67, 68, 69, 70, 71, 72, 73, 75, 76, 77]
 refine ⟨_, rfl, ?_⟩; intro Az Hz
 refine goCh Hz (.pickT rfl rfl <| .move rfl <| .loadBRZ m507 (i := 63) rfl rfl U25 rfl fct7 (by simp) (by dsimp only [List.drop, List.take] <;> rfl) .nil) fun Az Hz => ?_
 refine stz Hz (ecl Hz Tryz.func14 rfl (kpright_x _ _ _ _ (m507.into [(1, 62)] (by decide) rfl)) ?_)
 rintro e w512 ⟨rfl, hm512⟩
 have mx512 := m507.back hm512 [(62, 1)] (by decide); clear hm512 m507
 have m512 := mx512.oz [62, 60, 61, 63, 64, 65, 66, 67, 68, 69, 70, 71, 72, 73, 75, 76, 77]
 refine ⟨_, rfl, ?_⟩; intro Az Hz
 refine gz hK25 Hz (.pickT rfl rfl <| .assign rfl <| .nil) fun Az Hz => ?_
 refine rt1 Hz ?_
 exact ⟨by (first | rfl | simp), m512.below⟩
end Go.Proofs.YteglmahnkfgelaaGreat.K
