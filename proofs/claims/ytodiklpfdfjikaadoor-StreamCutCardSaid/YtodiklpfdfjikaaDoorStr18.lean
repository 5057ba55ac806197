/- stream: StreamCut's walk. -/
import Derived.Test.YtodiklpfdfjikaaDoorStr17
import Derived.Test.YtodiklpfdfjikaaDoorStr16
namespace Go.Proofs.YtodiklpfdfjikaaDoor.K
open Go.ChangeShapes Go.WideShapes Go.ChangeAt Go.RowKit
set_option linter.unusedVariables false
set_option linter.unusedSimpArgs false
theorem sread_l (b : List Int) (n : Nat) (p : Option Addr) (c : Nat) (w0 : World) (hT : TabOk w0) (h01 : 1 ≤ w0.heap.size) (h0 : Rd (fun _ => True) w0 (.slice p n c) (.ns .u8 b)) (hn : n = b.length) (hy : BytesL b) (hl : b.length ≤ 10000) :
   Calls Tryd.prog 10 #[.slice p n c] w0 fun e w' => ∃ (bl sz fr to : Int) (its : List (Int × List Int)) (pa : Option Addr) (ca : Nat) (er : Int), e = .returned (.tuple #[.agg #[.int .i64 bl, .int .i64 sz, .int .i64 fr, .int .i64 to, .slice pa (its.map itD).length ca], .int .i64 er]) ∧ ReadIs b bl sz fr to its er ∧ Rd (New w0) w' (.slice pa (its.map itD).length ca) (.l 2 (its.map itD)) ∧ Below w0.heap.size w0 w' := by
 subst hn; exact sread_any b p c w0 hT h01 h0 hy hl
theorem rread_l (X : Cx) (b : List Int) (n : Nat) (p : Option Addr) (c : Nat) (w0 : World) (hn : n = b.length) (hy : BytesL b) (hl : b.length ≤ 10000) (m0 : MemOk X w0 [(1, .dat (.slice p n c) (.ns .u8 b))] w0) :
   Calls Tryd.prog 11 #[.slice p n c] w0 fun e w' => ∃ (bl sz fr to : Int) (its : List (Int × List Int)) (pa : Option Addr) (ca : Nat) (er : Int), e = .returned (.tuple #[.agg #[.int .i64 bl, .int .i64 sz, .int .i64 fr, .int .i64 to, .slice pa (its.map itD).length ca], .int .i64 er]) ∧ ReadIs b bl sz fr to its er ∧ MemOk X w0 [(1, .dat (.slice p n c) (.ns .u8 b)), (2, .dat (.slice pa (its.map itD).length ca) (.l 2 (its.map itD)))] w' := by
 subst hn; exact rread_any X b p c w0 hy hl m0
theorem takeE_pre {bl sz fr to : Int} {its : List (Int × List Int)} (h : StreamOk bl sz fr to its) (rest : List Int) : takeE (bodyB bl sz fr to its ++ rest) = (bl, sz, fr, to, its) := by
 have e1 : bodyB bl sz fr to its ++ rest = magicB ++ (encs [bl, sz, fr + 1, to, (its.length : Int)] ++ (fourC (sumC [magicB ++ encs [bl, sz, fr + 1, to, (its.length : Int)]]) ++ (itemsB its ++ rest))) := by simp [bodyB, headB, sealC]
 have e2 := headR_head (itemsB its ++ rest) h.head (n := its.length) h.len
 obtain ⟨Y, hY⟩ : ∃ Y, encs [bl, sz, fr + 1, to, (its.length : Int)] ++ (fourC (sumC [magicB ++ encs [bl, sz, fr + 1, to, (its.length : Int)]]) ++ (itemsB its ++ rest)) = Y := ⟨_, rfl⟩
 rw [hY] at e1 e2
 have e3 : (magicB ++ Y).take 5 = magicB := List.take_left (l₁ := magicB)
 have e4 : (magicB ++ Y).drop 5 = Y := List.drop_left (l₁ := magicB)
 have e5 := itemsR_items its rest h.it
 rw [e1]
 unfold takeE
 rw [if_pos e3, e4, e2]
 dsimp only
 rw [show ((its.length : Int)).toNat = its.length by omega, e5]
theorem pre_one {bl sz fr to bl' sz' fr' to' : Int} {its its' : List (Int × List Int)} {r r' : List Int} (h : StreamOk bl sz fr to its) (h' : StreamOk bl' sz' fr' to' its') (e : bodyB bl sz fr to its ++ r = bodyB bl' sz' fr' to' its' ++ r') : r = r' ∧ strB bl sz fr to its = strB bl' sz' fr' to' its' := by
 have h1 := takeE_pre h r
 rw [e, takeE_pre h' r'] at h1
 injection h1 with q1 q2
 injection q2 with q2 q3
 injection q3 with q3 q4
 injection q4 with q4 q5
 subst q1; subst q2; subst q3; subst q4; subst q5
 exact ⟨List.append_cancel_left e, rfl⟩
section
variable {bs mo : List Int} {F : Nat} {bl sz fr to bl2 sz2 fr2 to2 er : Int} {its its2 : List (Int × List Int)}
theorem cut_no (hs : StreamOk bl sz fr to its) (hbs : strB bl sz fr to its = bs) (hF : F < bs.length) (hR : ReadIs (bs.take F) bl2 sz2 fr2 to2 its2 er) : er ≠ 0 := by
 rcases hR with ⟨-, h1, -, h3⟩ | ⟨h3, -⟩
 · exfalso
   have e1 : bs = strB bl2 sz2 fr2 to2 its2 ++ bs.drop F := by rw [h3, List.take_append_drop]
   have e2 := pre_one hs h1 (r := fourC (sumC [bodyB bl sz fr to its])) (r' := fourC (sumC [bodyB bl2 sz2 fr2 to2 its2]) ++ bs.drop F) (by rw [← List.append_assoc]; exact hbs.trans e1)
   have e3 := e2.2
   rw [hbs, h3] at e3
   have e4 := congrArg List.length e3
   rw [List.length_take] at e4
   omega
 rw [h3]; unfold errE; split <;> (try split) <;> decide
theorem more_no (hs : StreamOk bl sz fr to its) (hbs : strB bl sz fr to its = bs) (hm : mo.length ≠ 0) (hR : ReadIs (bs ++ mo) bl2 sz2 fr2 to2 its2 er) : er ≠ 0 := by
 rcases hR with ⟨-, h1, -, h3⟩ | ⟨h3, -⟩
 · exfalso
   have e2 := pre_one hs h1 (r := fourC (sumC [bodyB bl sz fr to its]) ++ mo) (r' := fourC (sumC [bodyB bl2 sz2 fr2 to2 its2])) (by rw [← List.append_assoc]; exact ((congrArg (· ++ mo) hbs).trans h3.symm))
   have e4 := congrArg List.length e2.1
   rw [List.length_append, fourC_len, fourC_len] at e4
   omega
 rw [h3]; unfold errE; split <;> (try split) <;> decide
theorem open_seal (X : List Int) : openB (sealC X) = true ∧ 4 ≤ (sealC X).length := by
 have hl : (X ++ fourC (sumC [X])).length - 4 = X.length := by rw [List.length_append, fourC_len]; omega
 have h1 : openB (X ++ fourC (sumC [X])) = true := by
   rw [openB, decide_eq_true_eq, hl, List.take_left, List.drop_left]
   exact ⟨by rw [List.length_append, fourC_len]; omega, rfl⟩
 exact ⟨h1, by rw [sealC_len]; omega⟩
theorem seal_no (hs : StreamOk bl sz fr to its) (hbs : strB bl sz fr to its = bs) (hm : mo.length ≠ 0) (hR : ReadIs (sealC (bs.take (bs.length - 4) ++ mo)) bl2 sz2 fr2 to2 its2 er) : er = 20 := by
 have e0 : bs.take (bs.length - 4) = bodyB bl sz fr to its := by
   have h9 := open_str bl sz fr to its
   rw [openC, if_pos h9.1, hbs] at h9
   exact h9.2.1
 rw [e0] at hR
 rcases hR with ⟨-, h1, -, h3⟩ | ⟨h3, -⟩
 · exfalso
   have e2 := pre_one hs h1 (r := mo ++ fourC (sumC [bodyB bl sz fr to its ++ mo])) (r' := fourC (sumC [bodyB bl2 sz2 fr2 to2 its2])) (by rw [← List.append_assoc]; exact h3.symm)
   have e4 := congrArg List.length e2.1
   rw [List.length_append, fourC_len, fourC_len] at e4
   omega
 have h4 := open_seal (bodyB bl sz fr to its ++ mo)
 rw [h3]; unfold errE; rw [if_neg (by omega), if_neg (by rw [h4.1]; decide)]
end
set_option maxRecDepth 100000
set_option maxHeartbeats 4000000
theorem cut21_walk (l mo : List Int) (fv tv cv : Nat) (pl pm : Option Addr) (cl cm : Nat) (w0 : World) (hT : TabOk w0) (h01 : 1 ≤ w0.heap.size) (h1 : Rd (fun _ => True) w0 (.slice pl l.length cl) (.ns .u8 l)) (h2 : Rd (fun _ => True) w0 (.slice pm mo.length cm) (.ns .u8 mo)) (hlb : ∀ j, j < l.length → 0 ≤ l.getD j 0 ∧ l.getD j 0 ≤ 255) (hmb : BytesL mo) (hf : fv ≤ 255) (ht : tv ≤ 255) (hc9 : cv ≤ 65535) :
   Calls Tryd.prog 5 #[.slice pl l.length cl, .int .u8 (fv : Int), .int .u8 (tv : Int), .int .u16 (cv : Int), .slice pm mo.length cm] w0 fun e w' => e = .returned (.bool true) ∧ Below w0.heap.size w0 w' := by
 refine ent5 Tryd.func5 rfl Tryd.ntmps5 fun Az Hz => ?_
 have m0 := MemOk.start (fun _ => False) w0
 refine regS Hz (.assign rfl <| .nil) fun Az Hz => ?_
 refine wp_seq_k (fun K0 hK0 => ?_)
 refine zsr fun K1 hK1 => ?_
 refine plz (ecb Hz Tryd.func6 rfl m0 (sknown_any _ (hT.below m0.below h01) (Nat.le_trans h01 m0.below.size)) fun Az w2 Hz m3 => ?_)
 refine goCh Hz (.not rfl .nil) fun Az Hz => ?_
 refine znl (hK1 _ _ ?_); clear hK1
 refine wcf Hz ?_
 refine zss (hK0 _ _ ?_); clear hK0
 refine wp_seq_k (fun K2 hK2 => ?_)
 refine zsr fun K3 hK3 => ?_
 refine goCh Hz (.move rfl <| .len rfl U22 <| .gtr rfl rfl <| .move rfl <| .nil) fun Az Hz => ?_
 refine bc Hz 29 ?_ ?_
 ·
  intro hb14 Hz; try simp only [QQ, Qax] at hb14
  refine goCh Hz (.sk <| .sk <| .sk <| .pickT rfl rfl <| .move rfl <| .sk <| .sk <| .sk <| .pickT rfl rfl <| .nil) fun Az Hz => ?_
  refine znl (hK3 _ _ ?_); clear hK3
  refine wct Hz ?_
  replace Hz : Has 126 [(0, _), (1, _), (2, _), (3, _), (4, _), (10, _), (29, _), (34, _), (38, _)] Az := Hz.only [0, 1, 2, 3, 4, 10, 29, 34, 38]
  refine regS Hz (.assign rfl <| .nil) fun Az Hz => ?_
  refine rtd (ret1 (fn := Tryd.f5) Hz rfl rfl ?_)
  exact ⟨rfl, m3.below⟩
 intro hb14 Hz; try simp only [QQ, Qax] at hb14
 have hl60 : l.length ≤ 60 := by have := hb14; first | omega | (simp at this; omega)
 refine goCh Hz (.moveZ rfl <| .lenZ rfl U22 <| .gtrZ rfl rfl <| .pickF rfl rfl <| .move rfl <| .nil) fun Az Hz => ?_
 refine bc Hz 34 ?_ ?_
 ·
  intro hb31 Hz; try simp only [QQ, Qax] at hb31
  refine goCh Hz (.sk <| .sk <| .sk <| .pickT rfl rfl <| .nil) fun Az Hz => ?_
  refine znl (hK3 _ _ ?_); clear hK3
  refine wct Hz ?_
  replace Hz : Has 126 [(0, _), (1, _), (2, _), (3, _), (4, _), (10, _), (29, _), (34, _), (38, _)] Az := Hz.only [0, 1, 2, 3, 4, 10, 29, 34, 38]
  refine regS Hz (.assign rfl <| .nil) fun Az Hz => ?_
  refine rtd (ret1 (fn := Tryd.f5) Hz rfl rfl ?_)
  exact ⟨rfl, m3.below⟩
 intro hb31 Hz; try simp only [QQ, Qax] at hb31
 have hm20 : mo.length ≤ 20 := by have := hb31; first | omega | (simp at this; omega)
 refine goCh Hz (.moveZ rfl <| .lenZ rfl U22 <| .eqlZ rfl rfl <| .pickF rfl rfl <| .nil) fun Az Hz => ?_
 refine znl (hK3 _ _ ?_); clear hK3
 refine bc Hz 38 ?_ ?_
 ·
  intro hb42 Hz; try simp only [QQ, Qax] at hb42
  refine wct Hz ?_
  replace Hz : Has 126 [(0, _), (1, _), (2, _), (3, _), (4, _), (10, _), (29, _), (34, _), (38, _)] Az := Hz.only [0, 1, 2, 3, 4, 10, 29, 34, 38]
  refine regS Hz (.assign rfl <| .nil) fun Az Hz => ?_
  refine rtd (ret1 (fn := Tryd.f5) Hz rfl rfl ?_)
  exact ⟨rfl, m3.below⟩
 intro hb42 Hz; try simp only [QQ, Qax] at hb42
 have hm1 : mo.length ≠ 0 := by have := hb42; first | omega | (simp at this; omega)
 refine wcf Hz ?_
 refine zss (hK2 _ _ ?_); clear hK2
 replace Hz : Has 126 [(0, _), (1, _), (2, _), (3, _), (4, _), (10, _), (29, _), (34, _), (38, _)] Az := Hz.only [0, 1, 2, 3, 4, 10, 29, 34, 38]
 refine zsr fun K4 hK4 => ?_
 refine goCh Hz (.move rfl <| .move rfl <| .move rfl <| .nil) fun Az Hz => ?_
 refine plz (ecl Hz Tryd.func8 rfl (some_any l fv tv _ _ _ ((h1.now' m3 rfl).any) (by omega) hlb hf ht) ?_)
 rintro e w52 ⟨bl, sz, fr, to, its, pa52, ca52, rfl, hs, hby, hd52, hb52⟩
 have m53 := m3.callF 70 rfl hb52 hd52
 clear m3
 clear hb52 hd52
 refine ⟨_, rfl, ?_⟩; intro Az Hz
 refine plz (e_alloc Hz m53 71 fct27 rfl fun g55 Az w56 Hz m56 _ _ => ?_)
 refine plz (e_storeW Hz m56 71 rfl rfl rfl rfl rfl fct26 fun w57 m57 _ => ?_)
 refine znl (hK4 _ _ ?_); clear hK4
 replace Hz : Has 126 [(3, _), (4, _), (10, _), (29, _), (34, _), (38, _), (11, _)] Az := Hz.only [3, 4, 10, 29, 34, 38, 11]
 refine zsr fun K5 hK5 => ?_
 refine goCh Hz (.loadBR m57 (i := 71) rfl rfl U29 rfl fct26 (by simp) (by dsimp only [List.drop, List.take] <;> rfl) .nil) fun Az Hz => ?_
 refine plz (ecn Hz Tryd.func13 rfl m57 72 (sput_yes bl sz fr to its _ _ _ _ (hT.below m57.below h01) (Nat.le_trans h01 m57.below.size) ((m57.rd (i := 70) rfl).any) hs hby) fun p61 c61 Az w61 Hz m62 => ?_)
 obtain ⟨bs, hbs⟩ : ∃ L, strB bl sz fr to its = L := ⟨_, rfl⟩
 have hsl : bs.length ≤ 9800 := by rw [← hbs]; exact str_len hs
 have hbb : BytesL bs := by rw [← hbs]; exact strBytes hs hby
 have h8 : 8 ≤ bs.length := by rw [← hbs, strB, bodyB, headB, List.length_append, List.length_append, sealC_len, fourC_len, List.length_append]; have : magicB.length = 5 := rfl; omega
 obtain ⟨F, hF⟩ : ∃ F, cv % bs.length = F := ⟨_, rfl⟩
 have hFl : F < bs.length := by rw [← hF]; exact Nat.mod_lt _ (by omega)
 have hFn : F = (bs.take F).length := by rw [List.length_take]; omega
 have hbt : BytesL (bs.take F) := fun z hz => hbb z (List.mem_of_mem_take hz)
 have hbm : BytesL (bs ++ mo) := bytesApp hbb hmb
 have hbc : BytesL (bs.take (bs.length - 4) ++ mo) := bytesApp (fun z hz => hbb z (List.mem_of_mem_take hz)) hmb
 have hcl : (bs.take (bs.length - 4) ++ mo).length ≤ 9900 := by rw [List.length_append, List.length_take]; omega
 rw [hbs] at m62 Hz
 have m64 := m62.freezeN 72 rfl; clear m62
 refine goCh Hz (.move rfl <| .extract rfl rfl <| .extract rfl rfl <| .assign rfl <| .assign rfl <| .nil) fun Az Hz => ?_
 refine znl (hK5 _ _ ?_); clear hK5
 refine wp_seq_k (fun K6 hK6 => ?_)
 replace Hz : Has 126 [(3, _), (4, _), (10, _), (29, _), (34, _), (38, _), (12, _), (13, _)] Az := Hz.only [3, 4, 10, 29, 34, 38, 12, 13]
 refine zsr fun K7 hK7 => ?_
 refine goCh Hz (.move rfl <| .neq rfl rfl <| .move rfl <| .nil) fun Az Hz => ?_
 refine bc Hz 50 ?_ ?_
 · intro hb _; exact absurd hb (by simp)
 clear Hz; intro _ Hz
 refine goCh Hz (.moveZ rfl <| .lenZ rfl U22 <| .lssZ rfl rfl <| .pickF rfl rfl <| .nil) fun Az Hz => ?_
 refine znl (hK7 _ _ ?_); clear hK7
 refine bc Hz 54 ?_ ?_
 · intro hb _; exact absurd hb (by simp; omega)
 clear Hz; intro _ Hz
 refine wcf Hz ?_
 refine zss (hK6 _ _ ?_); clear hK6
 replace Hz : Has 126 [(3, _), (4, _), (10, _), (29, _), (34, _), (38, _), (12, _)] Az := Hz.only [3, 4, 10, 29, 34, 38, 12]
 refine zsr fun K8 hK8 => ?_
 refine goCh Hz (.move rfl <| .move rfl <| .conv rfl U23 U3 (r := (cv : Int)) (IntWalk.i64_in _ (by omega)) <| .move rfl <| .len rfl U22 <| .rem rfl rfl (by omega) (r := (F : Int)) (by rw [Int.tmod_eq_emod_of_nonneg (by omega), ← hF]; simp) <| .nil) fun Az Hz => ?_
 have m97 := m64.takeN (i := 72) rfl (F) (show F ≤ bs.length by omega) 73 rfl
 have hcap97 := (m64.rd (i := 72) rfl).ns_out.cap; clear m64
 refine goCh Hz (.c rfl (fun _ h => y_sliceHn h (F) rfl rfl U22 fct7 rfl (Nat.le_trans (show F ≤ bs.length by omega) hcap97.1)) .nil) fun Az Hz => ?_
 refine plz (ecl Hz Tryd.func10 rfl (sread_l (bs.take F) _ _ _ _ (hT.below m97.below h01) (Nat.le_trans h01 m97.below.size) ((m97.rd (i := 73) rfl).any) hFn hbt (by omega)) ?_)
 rintro e w99 ⟨bl1, sz1, fr1, to1, its1, pa99, ca99, er1, rfl, hR1, hd99, hb99⟩
 clear hd99
 have m100 := m97.later hb99
 clear m97
 clear hb99
 refine ⟨_, rfl, ?_⟩; intro Az Hz
 refine goCh Hz (.move rfl <| .extract rfl rfl <| .extract rfl rfl <| .nil) fun Az Hz => ?_
 refine plz (e_alloc Hz m100 74 fct27 rfl fun g105 Az w106 Hz m106 _ _ => ?_)
 refine plz (e_storeW Hz m106 74 rfl rfl rfl rfl rfl fct26 fun w107 m107 _ => ?_)
 refine goCh Hz (.assign rfl .nil) fun Az Hz => ?_
 refine znl (hK8 _ _ ?_); clear hK8
 replace Hz : Has 126 [(3, _), (4, _), (10, _), (29, _), (34, _), (38, _), (12, _), (15, _)] Az := Hz.only [3, 4, 10, 29, 34, 38, 12, 15]
 refine zsr fun K9 hK9 => ?_
 refine goCh Hz (.move rfl <| .move rfl <| .conv rfl U23 U3 (r := (cv : Int)) (IntWalk.i64_in _ (by omega)) <| .move rfl <| .len rfl U22 <| .rem rfl rfl (by omega) (r := (F : Int)) (by rw [Int.tmod_eq_emod_of_nonneg (by omega), ← hF]; simp) <| .nil) fun Az Hz => ?_
 have m123 := m107.takeN (i := 72) rfl (F) (show F ≤ bs.length by omega) 75 rfl
 have hcap123 := (m107.rd (i := 72) rfl).ns_out.cap; clear m107
 refine goCh Hz (.c rfl (fun _ h => y_sliceHn h (F) rfl rfl U22 fct7 rfl (Nat.le_trans (show F ≤ bs.length by omega) hcap123.1)) .nil) fun Az Hz => ?_
 refine plz (ecl Hz Tryd.func11 rfl (rread_l _ (bs.take F) _ _ _ _ hFn hbt (by omega) (m123.into [(1, 75)] (by decide) rfl)) ?_)
 rintro e w125 ⟨bl2, sz2, fr2, to2, its2, pa125, ca125, er2, rfl, hR2, hm125⟩
 have mx125 := m123.back hm125 [(75, 1), (76, 2)] (by decide); clear hm125 m123
 have m125 : MemOk _ _ [(75, _), (76, _), (70, _), (71, _), (72, _), (73, _), (74, _)] _ := mx125.only [75, 76, 70, 71, 72, 73, 74]; clear mx125
 refine ⟨_, rfl, ?_⟩; intro Az Hz
 refine goCh Hz (.move rfl <| .extract rfl rfl <| .extract rfl rfl <| .nil) fun Az Hz => ?_
 refine plz (e_alloc Hz m125 77 fct27 rfl fun g130 Az w131 Hz m131 _ _ => ?_)
 refine plz (e_storeW Hz m131 77 rfl rfl rfl rfl rfl fct26 fun w132 m132 _ => ?_)
 refine goCh Hz (.assign rfl .nil) fun Az Hz => ?_
 refine znl (hK9 _ _ ?_); clear hK9
 replace Hz : Has 126 [(4, _), (10, _), (29, _), (34, _), (38, _), (12, _), (15, _), (17, _)] Az := Hz.only [4, 10, 29, 34, 38, 12, 15, 17]
 refine zsr fun K10 hK10 => ?_
 refine goCh Hz (.move rfl .nil) fun Az Hz => ?_
 refine plz (e_app0N Hz m132 78 rfl rfl (m132.nums (i := 72) rfl) U22 fct0 (by decide) (by omega) rfl fun p137 c137 Az w138 Hz m138 => ?_)
 refine goCh Hz (.move rfl .nil) fun Az Hz => ?_
 refine plz (e_appN Hz m138 78 rfl rfl rfl (h2.now' m138 rfl).ns_out.nums U22 fct0 (by decide) (by omega) rfl fun p140 c140 Az w141 Hz m141 => ?_)
 have m142 := m141.freezeN 78 rfl; clear m141
 refine plz (ecl Hz Tryd.func10 rfl (sread_l (bs ++ mo) _ _ _ _ (hT.below m142.below h01) (Nat.le_trans h01 m142.below.size) ((m142.rd (i := 78) rfl).any) rfl hbm (by rw [List.length_append]; omega)) ?_)
 rintro e w143 ⟨bl3, sz3, fr3, to3, its3, pa143, ca143, er3, rfl, hR3, hd143, hb143⟩
 clear hd143
 have m144 := m142.later hb143
 clear m142
 clear hb143
 refine ⟨_, rfl, ?_⟩; intro Az Hz
 refine goCh Hz (.move rfl <| .extract rfl rfl <| .extract rfl rfl <| .nil) fun Az Hz => ?_
 refine plz (e_alloc Hz m144 79 fct27 rfl fun g149 Az w150 Hz m150 _ _ => ?_)
 refine plz (e_storeW Hz m150 79 rfl rfl rfl rfl rfl fct26 fun w151 m151 _ => ?_)
 refine goCh Hz (.assign rfl .nil) fun Az Hz => ?_
 refine znl (hK10 _ _ ?_); clear hK10
 replace Hz : Has 126 [(4, _), (10, _), (29, _), (34, _), (38, _), (12, _), (15, _), (17, _), (19, _)] Az := Hz.only [4, 10, 29, 34, 38, 12, 15, 17, 19]
 refine zsr fun K11 hK11 => ?_
 refine goCh Hz (.move rfl .nil) fun Az Hz => ?_
 refine plz (e_app0N Hz m151 80 rfl rfl (m151.nums (i := 72) rfl) U22 fct0 (by decide) (by omega) rfl fun p156 c156 Az w157 Hz m157 => ?_)
 refine goCh Hz (.move rfl .nil) fun Az Hz => ?_
 refine plz (e_appN Hz m157 80 rfl rfl rfl (h2.now' m157 rfl).ns_out.nums U22 fct0 (by decide) (by omega) rfl fun p159 c159 Az w160 Hz m160 => ?_)
 have m161 := m160.freezeN 80 rfl; clear m160
 refine plz (ecl Hz Tryd.func11 rfl (rread_l _ (bs ++ mo) _ _ _ _ rfl hbm (by rw [List.length_append]; omega) (m161.into [(1, 80)] (by decide) rfl)) ?_)
 rintro e w162 ⟨bl4, sz4, fr4, to4, its4, pa162, ca162, er4, rfl, hR4, hm162⟩
 have mx162 := m161.back hm162 [(80, 1), (81, 2)] (by decide); clear hm162 m161
 have m162 : MemOk _ _ [(80, _), (81, _), (70, _), (71, _), (72, _), (73, _), (74, _), (75, _), (76, _), (77, _), (78, _), (79, _)] _ := mx162.only [80, 81, 70, 71, 72, 73, 74, 75, 76, 77, 78, 79]; clear mx162
 refine ⟨_, rfl, ?_⟩; intro Az Hz
 refine goCh Hz (.move rfl <| .extract rfl rfl <| .extract rfl rfl <| .nil) fun Az Hz => ?_
 refine plz (e_alloc Hz m162 82 fct27 rfl fun g167 Az w168 Hz m168 _ _ => ?_)
 refine plz (e_storeW Hz m168 82 rfl rfl rfl rfl rfl fct26 fun w169 m169 _ => ?_)
 refine goCh Hz (.assign rfl .nil) fun Az Hz => ?_
 refine znl (hK11 _ _ ?_); clear hK11
 replace Hz : Has 126 [(4, _), (10, _), (29, _), (34, _), (38, _), (12, _), (15, _), (17, _), (19, _), (21, _)] Az := Hz.only [4, 10, 29, 34, 38, 12, 15, 17, 19, 21]
 refine zsr fun K12 hK12 => ?_
 refine goCh Hz (.move rfl <| .move rfl <| .len rfl U22 <| .sub rfl rfl (r := ((bs.length - 4 : Nat) : Int)) (by rw [IntWalk.i64_in _ (by omega)]; omega) <| .nil) fun Az Hz => ?_
 have m181 := m169.takeN (i := 72) rfl (bs.length - 4) (show bs.length - 4 ≤ bs.length by omega) 83 rfl
 have hcap181 := (m169.rd (i := 72) rfl).ns_out.cap; clear m169
 refine goCh Hz (.c rfl (fun _ h => y_sliceHn h (bs.length - 4) rfl rfl U22 fct7 rfl (Nat.le_trans (show bs.length - 4 ≤ bs.length by omega) hcap181.1)) .nil) fun Az Hz => ?_
 refine plz (e_app0N Hz m181 84 rfl rfl (m181.nums (i := 83) rfl) U22 fct0 (by decide) (by rw [List.length_take]; omega) rfl fun p183 c183 Az w184 Hz m184 => ?_)
 refine goCh Hz (.move rfl .nil) fun Az Hz => ?_
 refine plz (e_appN Hz m184 84 rfl rfl rfl (h2.now' m184 rfl).ns_out.nums U22 fct0 (by decide) (by rw [List.length_take]; omega) rfl fun p186 c186 Az w187 Hz m187 => ?_)
 have m188 := m187.freezeN 84 rfl; clear m187
 refine plz (ecn Hz Tryd.func9 rfl m188 85 (rseal_x _ _ _ ((m188.rd (i := 84) rfl).any) hbc (by omega)) fun p189 c189 Az w189 Hz m190 => ?_)
 have m192 := m190.freezeN 85 rfl; clear m190
 refine plz (ecl Hz Tryd.func10 rfl (sread_l (sealC (bs.take (bs.length - 4) ++ mo)) _ _ _ _ (hT.below m192.below h01) (Nat.le_trans h01 m192.below.size) ((m192.rd (i := 85) rfl).any) rfl (sealBytes hbc) (by rw [sealC_len]; omega)) ?_)
 rintro e w193 ⟨bl5, sz5, fr5, to5, its5, pa193, ca193, er5, rfl, hR5, hd193, hb193⟩
 clear hd193
 have m194 := m192.later hb193
 clear m192
 clear hb193
 refine ⟨_, rfl, ?_⟩; intro Az Hz
 refine goCh Hz (.move rfl <| .extract rfl rfl <| .extract rfl rfl <| .nil) fun Az Hz => ?_
 refine plz (e_alloc Hz m194 86 fct27 rfl fun g199 Az w200 Hz m200 _ _ => ?_)
 refine plz (e_storeW Hz m200 86 rfl rfl rfl rfl rfl fct26 fun w201 m201 _ => ?_)
 refine goCh Hz (.assign rfl .nil) fun Az Hz => ?_
 refine znl (hK12 _ _ ?_); clear hK12
 refine wp_seq_k (fun K13 hK13 => ?_)
 skip
 have hE1 : er1 = er2 := (ReadIs.one hR1 hR2).1
 have hE2 : er3 = er4 := (ReadIs.one hR3 hR4).1
 have hN1 : er1 ≠ 0 := cut_no hs hbs hFl hR1
 have hN2 : er3 ≠ 0 := more_no hs hbs hm1 hR3
 have hJ : er5 = 20 := seal_no hs hbs hm1 hR5
 replace Hz : Has 126 [(10, _), (29, _), (34, _), (38, _), (15, _), (17, _), (19, _), (21, _), (23, _)] Az := Hz.only [10, 29, 34, 38, 15, 17, 19, 21, 23]
 refine wp_region_lit ?_
 refine goCh Hz (.move rfl <| .move rfl <| .eql rfl rfl <| .move rfl <| .nil) fun Az Hz => ?_
 refine bc Hz 109 ?_ ?_
 rotate_left
 · intro hb _; exact absurd hb (by simp; exact hE1)
 clear Hz; intro _ Hz
 refine goCh Hz (.moveZ rfl <| .neqZ rfl rfl <| .pickT rfl rfl <| .move rfl <| .nil) fun Az Hz => ?_
 refine bc Hz 113 ?_ ?_
 rotate_left
 · intro hb _; exact absurd hb (by simp; exact hN1)
 clear Hz; intro _ Hz
 refine goCh Hz (.moveZ rfl <| .moveZ rfl <| .eqlZ rfl rfl <| .pickT rfl rfl <| .move rfl <| .nil) fun Az Hz => ?_
 refine bc Hz 118 ?_ ?_
 rotate_left
 · intro hb _; exact absurd hb (by simp; exact hE2)
 clear Hz; intro _ Hz
 refine goCh Hz (.moveZ rfl <| .neqZ rfl rfl <| .pickT rfl rfl <| .move rfl <| .nil) fun Az Hz => ?_
 refine bc Hz 122 ?_ ?_
 rotate_left
 · intro hb _; exact absurd hb (by simp; exact hN2)
 clear Hz; intro _ Hz
 refine goCh Hz (.moveZ rfl <| .eqlZ rfl rfl <| .pickT rfl rfl <| .assign rfl <| .nil) fun Az Hz => ?_
 refine znl (hK13 _ _ ?_); clear hK13
 refine rtd (ret1 (fn := Tryd.f5) Hz rfl rfl ?_)
 exact ⟨(by rw [hJ]; rfl), m201.below⟩
end Go.Proofs.YtodiklpfdfjikaaDoor.K
