/- stream: known. -/
import Derived.Test.YtodiklpfdfjikaaDoorStr13
namespace Go.Proofs.YtodiklpfdfjikaaDoor.K
open Go.ChangeShapes Go.WideShapes Go.ChangeAt Go.RowKit
set_option linter.unusedVariables false
set_option linter.unusedSimpArgs false
theorem fl29skn : flatS Tryd.prog 29 [.int .i64 0, .int .i64 0, .int .i64 0, .int .i64 0, .slice none 0 0] = true := by kernel_rfl
theorem fl46skn : flatS Tryd.prog 46 [.int .i64 0, .slice none 0 0] = true := by kernel_rfl
set_option maxRecDepth 100000
set_option maxHeartbeats 4000000
theorem sread_good (bl sz fr to : Int) (its : List (Int × List Int)) (p : Option Addr) (c : Nat) (w0 : World) (hT : TabOk w0) (h01 : 1 ≤ w0.heap.size) (h0 : Rd (fun _ => True) w0 (.slice p (strB bl sz fr to its).length c) (.ns .u8 (strB bl sz fr to its))) (hs : StreamOk bl sz fr to its) (hby : ∀ e ∈ its, BytesL e.2) (hl : (strB bl sz fr to its).length ≤ 10000) :
   Calls Tryd.prog 10 #[.slice p (strB bl sz fr to its).length c] w0 fun e w' => ∃ (pa : Option Addr) (ca : Nat), e = .returned (.tuple #[.agg #[.int .i64 bl, .int .i64 sz, .int .i64 fr, .int .i64 to, .slice pa (its.map itD).length ca], .int .i64 0]) ∧ Rd (New w0) w' (.slice pa (its.map itD).length ca) (.l 2 (its.map itD)) ∧ Below w0.heap.size w0 w' := by
 refine (sread_any _ p c w0 hT h01 h0 (strBytes hs hby) hl).mono fun e w' h => ?_
 obtain ⟨bl', sz', fr', to', its', pa, ca, er, rfl, hR, hd, hb⟩ := h
 obtain ⟨rfl, rfl, rfl, rfl, rfl, rfl⟩ := ReadIs.one hR (.inl ⟨rfl, hs, hby, rfl⟩)
 exact ⟨pa, ca, rfl, hd, hb⟩
theorem sread_nil (w0 : World) (hT : TabOk w0) (h01 : 1 ≤ w0.heap.size) :
   Calls Tryd.prog 10 #[.slice none 0 0] w0 fun e w' => ∃ (pa : Option Addr) (ca : Nat), e = .returned (.tuple #[.agg #[.int .i64 0, .int .i64 0, .int .i64 0, .int .i64 0, .slice pa 0 ca], .int .i64 21]) ∧ Below w0.heap.size w0 w' := by
 refine (sread_any [] none 0 w0 hT h01 (Rd.nilN _ _ .u8 none) (fun x hx => by cases hx) (by decide)).mono fun e w' h => ?_
 obtain ⟨bl', sz', fr', to', its', pa, ca, er, rfl, hR, hd, hb⟩ := h
 rcases hR with ⟨_, h1, _, h3⟩ | ⟨rfl, rfl, rfl, rfl, rfl, rfl, _⟩
 · have := (open_str bl' sz' fr' to' its').2.2
   rw [h3] at this; simp at this
 exact ⟨pa, ca, rfl, hb⟩
theorem sknown_any (w0 : World) (hT : TabOk w0) (h01 : 1 ≤ w0.heap.size) : Calls Tryd.prog 6 #[] w0 fun e w' => e = .returned (.bool true) ∧ Below w0.heap.size w0 w' := by
 refine ent0 Tryd.func6 rfl Tryd.ntmps6 fun Az Hz => ?_
 have m0 := MemOk.start (fun _ => False) w0
 have hs : StreamOk 1 1 (-1) 3 [((0 : Int), [(120 : Int)])] := ⟨by decide, by decide, by decide, by decide, by decide, fun _ => rfl, (fun k e he => by
   match k, he with
   | 0, he => obtain rfl := Option.some.inj he; exact ⟨by decide, by decide, rfl⟩
   | k + 1, he => cases he), by decide⟩
 have hby : ∀ e ∈ [((0 : Int), [(120 : Int)])], BytesL e.2 := fun e he x hx => by
   revert Hz
   obtain rfl := List.mem_singleton.1 he
   obtain rfl := List.mem_singleton.1 hx
   intro Hz
   decide
 have hsl : (strB 1 1 (-1) 3 [((0 : Int), [(120 : Int)])]).length ≤ 10000 := by
   have h1 := headB_len 1 1 (-1) 3 ([((0 : Int), [(120 : Int)])] : List (Int × List Int)).length
   have h2 := itemsB_len [((0 : Int), [(120 : Int)])] (fun e he => by obtain rfl := List.mem_singleton.1 he; decide)
   rw [strB, List.length_append, bodyB, List.length_append, fourC_len]
   simp only [List.length_cons, List.length_nil] at h1 h2 ⊢
   omega
 refine regS Hz (.assign rfl <| .nil) fun Az Hz => ?_
 refine zsr fun K0 hK0 => ?_
 refine plz (e_litN Hz m0 60 (k := .u8) rfl rfl U22 fct0 rfl rfl rfl rfl fun g2 Az w3 Hz m3 => ?_)
 refine plz (e_cvN Hz m3 60 rfl rfl U22 U5 rfl fun Az w4 Hz m4 => ?_)
 refine goCh Hz (.build rfl fct18 fl46skn rfl (by dsimp only [setL, List.set] <;> rfl) .nil) fun Az Hz => ?_
 refine plz (e_litR Hz m4 61 (mm := 2) rfl (.cons rfl rfl (.cons (.v _) (.cons (m4.rd (i := 60) rfl) .nil)) <| .nil) U27 fct17 rfl rfl rfl rfl rfl fun g6 Az w7 Hz m7 => ?_)
 refine goCh Hz (.build rfl fct12 fl29skn rfl (by dsimp only [setL, List.set] <;> rfl) .nil) fun Az Hz => ?_
 refine plz (e_alloc Hz m7 62 fct12 rfl fun g9 Az w10 Hz m10 _ _ => ?_)
 refine plz (e_storeW Hz m10 62 rfl rfl rfl rfl rfl fct11 fun w11 m11 _ => ?_)
 refine znl (hK0 _ _ ?_); clear hK0
 refine zsr fun K1 hK1 => ?_
 refine goCh Hz (.loadBR m11 (i := 62) rfl rfl U29 rfl fct11 (by simp) (by dsimp only [List.drop, List.take] <;> rfl) .nil) fun Az Hz => ?_
 have m14 := m11.freezeR 61 rfl; clear m11
 refine plz (ecn Hz Tryd.func13 rfl m14 63 (sput_yes 1 1 (-1) 3 [((0 : Int), [(120 : Int)])] _ _ _ _ (hT.below m14.below h01) (Nat.le_trans h01 m14.below.size) ((m14.rd (i := 61) rfl).any) hs hby) fun p15 c15 Az w15 Hz m16 => ?_)
 refine goCh Hz (.move rfl <| .extract rfl rfl <| .extract rfl rfl <| .assign rfl <| .assign rfl <| .nil) fun Az Hz => ?_
 refine znl (hK1 _ _ ?_); clear hK1
 replace Hz : Has 63 [(0, _), (1, _), (2, _), (3, _)] Az := Hz.only [0, 1, 2, 3]
 refine zsr fun K2 hK2 => ?_
 refine goCh Hz (.move rfl .nil) fun Az Hz => ?_
 have m26 := m16.freezeN 63 rfl; clear m16
 refine plz (ecl Hz Tryd.func10 rfl (sread_good 1 1 (-1) 3 [((0 : Int), [(120 : Int)])] _ _ _ (hT.below m26.below h01) (Nat.le_trans h01 m26.below.size) ((m26.rd (i := 63) rfl).any) hs hby hsl) ?_)
 rintro e w27 ⟨pa27, ca27, rfl, hd27, hb27⟩
 have m28 := m26.callF 64 rfl hb27 hd27
 clear m26
 clear hb27 hd27
 refine ⟨_, rfl, ?_⟩; intro Az Hz
 refine goCh Hz (.move rfl <| .extract rfl rfl <| .extract rfl rfl <| .nil) fun Az Hz => ?_
 refine plz (e_alloc Hz m28 65 fct12 rfl fun g33 Az w34 Hz m34 _ _ => ?_)
 refine plz (e_storeW Hz m34 65 rfl rfl rfl rfl rfl fct11 fun w35 m35 _ => ?_)
 refine goCh Hz (.assign rfl .nil) fun Az Hz => ?_
 refine znl (hK2 _ _ ?_); clear hK2
 replace Hz : Has 63 [(0, _), (1, _), (3, _), (4, _), (5, _)] Az := Hz.only [0, 1, 3, 4, 5]
 refine zsr fun K3 hK3 => ?_
 refine plz (ecl Hz Tryd.func10 rfl (sread_nil _ (hT.below m35.below h01) (Nat.le_trans h01 m35.below.size)) ?_)
 rintro e w38 ⟨pa38, ca38, rfl, hb38⟩
 have m39 := m35.later hb38
 clear m35
 clear hb38
 refine ⟨_, rfl, ?_⟩; intro Az Hz
 refine goCh Hz (.move rfl <| .extract rfl rfl <| .extract rfl rfl <| .nil) fun Az Hz => ?_
 refine plz (e_alloc Hz m39 66 fct12 rfl fun g44 Az w45 Hz m45 _ _ => ?_)
 refine plz (e_storeW Hz m45 66 rfl rfl rfl rfl rfl fct11 fun w46 m46 _ => ?_)
 refine goCh Hz (.assign rfl .nil) fun Az Hz => ?_
 refine znl (hK3 _ _ ?_); clear hK3
 refine zsr fun K4 hK4 => ?_
 refine goCh Hz (.build rfl fct12 fl29skn rfl (by dsimp only [setL, List.set] <;> rfl) .nil) fun Az Hz => ?_
 refine plz (ecb Hz Tryd.func13 rfl m46 (sput_no 0 0 0 0 [] none 0 0 _ (.l0 none 0 2) (by decide) (fun h => by have := h.b; omega)) fun Az w50 Hz m51 => ?_)
 refine goCh Hz (.move rfl <| .extract rfl rfl <| .extract rfl rfl <| .assign rfl <| .assign rfl <| .nil) fun Az Hz => ?_
 refine znl (hK4 _ _ ?_); clear hK4
 replace Hz : Has 63 [(0, _), (1, _), (3, _), (4, _), (5, _), (7, _), (9, _)] Az := Hz.only [0, 1, 3, 4, 5, 7, 9]
 refine zsr fun K5 hK5 => ?_
 refine goCh Hz (.move rfl <| .eql rfl rfl <| .move rfl <| .nil) fun Az Hz => ?_
 refine bc Hz 36 ?_ ?_
 rotate_left
 · intro hb _; exact absurd hb (by simp)
 clear Hz; intro _ Hz
 refine goCh Hz (.moveZ rfl <| .eqlZ rfl rfl <| .pickT rfl rfl <| .move rfl <| .nil) fun Az Hz => ?_
 refine bc Hz 40 ?_ ?_
 rotate_left
 · intro hb _; exact absurd hb (by simp)
 clear Hz; intro _ Hz
 refine goCh Hz (.loadBRZ m51 (i := 62) rfl rfl U29 rfl fct11 (by simp) (by dsimp only [List.drop, List.take] <;> rfl) <| .loadBRZ m51 (i := 65) rfl rfl U29 rfl fct11 (by simp) (by dsimp only [List.drop, List.take] <;> rfl) <| .nil) fun Az Hz => ?_
 refine stz Hz (ecb Hz Tryd.func14 rfl m51 (ssame_yes 1 1 (-1) 3 [((0 : Int), [(120 : Int)])] _ _ _ _ _ _ _ ((m51.rd (i := 61) rfl).any) ((m51.rd (i := 64) rfl).any) (by decide)) fun Az w73 Hz m74 => ?_)
 refine goCh Hz (.pickT rfl rfl <| .move rfl <| .loadBRZ m74 (i := 62) rfl rfl U29 rfl fct11 (by simp) (by dsimp only [List.drop, List.take] <;> rfl) <| .buildZ rfl fct12 fl29skn rfl (by dsimp only [setL, List.set] <;> rfl) <| .nil) fun Az Hz => ?_
 refine stz Hz (ecb Hz Tryd.func14 rfl m74 (ssame_no 1 1 (-1) 3 0 0 0 0 _ _ _ _ _ _ _ (by omega)) fun Az w80 Hz m81 => ?_)
 refine goCh Hz (.notZ rfl <| .pickT rfl rfl <| .move rfl <| .moveZ rfl <| .eqlZ rfl rfl <| .pickT rfl rfl <| .move rfl <| .nil) fun Az Hz => ?_
 refine bc Hz 55 ?_ ?_
 rotate_left
 · intro hb _; exact absurd hb (by simp)
 clear Hz; intro _ Hz
 refine goCh Hz (.moveZ rfl <| .eqlZ rfl rfl <| .pickT rfl rfl <| .move rfl <| .nil) fun Az Hz => ?_
 refine bc Hz 59 ?_ ?_
 rotate_left
 · intro hb _; exact absurd hb (by simp)
 clear Hz; intro _ Hz
 refine goCh Hz (.loadBRZ m81 (i := 62) rfl rfl U29 rfl fct11 (by simp) (by dsimp only [List.drop, List.take] <;> rfl) .nil) fun Az Hz => ?_
 refine stz Hz (ecb Hz Tryd.func15 rfl m81 (sright_yes 1 1 (-1) 3 [((0 : Int), [(120 : Int)])] _ _ _ _ ((m81.rd (i := 61) rfl).any) hs) fun Az w97 Hz m98 => ?_)
 refine goCh Hz (.pickT rfl rfl <| .assign rfl <| .nil) fun Az Hz => ?_
 refine znl (hK5 _ _ ?_); clear hK5
 refine rtd (ret1 (fn := Tryd.f6) Hz rfl rfl ?_)
 exact ⟨by (first | rfl | simp), m98.below⟩
end Go.Proofs.YtodiklpfdfjikaaDoor.K
