/- stream: the reference's Read of any bytes. -/
import Derived.Test.YtcccomafnmdlfaaDoorStr14
namespace Go.Proofs.YtcccomafnmdlfaaDoor.K
open Go.ChangeShapes Go.WideShapes Go.ChangeAt Go.RowKit
set_option linter.unusedVariables false
set_option linter.unusedSimpArgs false
theorem fl38rrsh : flatS Tryd.prog 38 [.int .i64 0, .int .i64 0, .int .i64 0, .int .i64 0, .slice none 0 0] = true := by kernel_rfl
theorem fl38rrsu : flatS Tryd.prog 38 [.int .i64 0, .int .i64 0, .int .i64 0, .int .i64 0, .slice none 0 0] = true := by kernel_rfl
theorem fl38rrma : flatS Tryd.prog 38 [.int .i64 0, .int .i64 0, .int .i64 0, .int .i64 0, .slice none 0 0] = true := by kernel_rfl
theorem fl38rrre : flatS Tryd.prog 38 [.int .i64 0, .int .i64 0, .int .i64 0, .int .i64 0, .slice none 0 0] = true := by kernel_rfl
theorem fl48rrre : flatS Tryd.prog 48 [.int .i64 0, .slice none 0 0] = true := by kernel_rfl
theorem fl101rrre : flatS Tryd.prog 101 [.slice none 0 0, .int .i64 0] = true := by kernel_rfl
def skipR (x : List Int) (er n : Int) : List Int × List Int × Int := if (x.length : Int) < n then ([], [], 21) else (x.take n.toNat, x.drop n.toNat, er)
theorem skipR_all {x d y : List Int} {er n er2 : Int} (h : skipR x er n = (d, y, er2)) (hl : x.length ≤ 1000000) (hb : BytesL x) : y.length ≤ 1000000 ∧ BytesL y ∧ BytesL d := by
 unfold skipR at h
 split at h
 · injection h with h1 h2; injection h2 with h2 h3; subst h1; subst h2; exact ⟨by simp, (fun z hz => by cases hz), (fun z hz => by cases hz)⟩
 injection h with h1 h2; injection h2 with h2 h3; subst h1; subst h2
 exact ⟨by rw [List.length_drop]; omega, fun z hz => hb z (List.mem_of_mem_drop hz), fun z hz => hb z (List.mem_of_mem_take hz)⟩
theorem skipR_ok (d y : List Int) (er : Int) {n : Int} (hn : n = (d.length : Int)) : skipR (d ++ y) er n = (d, y, er) := by
 subst hn
 unfold skipR
 rw [if_neg (by rw [List.length_append]; omega), Int.toNat_natCast, List.take_left, List.drop_left]
theorem app_by {dn : List (Int × List Int)} {u : Int} {sd : List Int} (h : ∀ e ∈ dn, BytesL e.2) (hd : BytesL sd) : ∀ e ∈ dn ++ [(u, sd)], BytesL e.2 := fun e he => by
 rcases List.mem_append.1 he with h1 | h1
 · exact h e h1
 obtain rfl := List.mem_singleton.1 h1; exact hd
def KeyAt (b : List Int) (a1 a2 a3 a4 : Int) (nn k : Nat) (dn : List (Int × List Int)) (x : List Int) (er : Int) : Prop :=
 ∀ bl sz fr to (its : List (Int × List Int)), StreamOk bl sz fr to its → (∀ e ∈ its, BytesL e.2) → strB bl sz fr to its = b → (a1 = bl ∧ a2 = sz ∧ a3 = fr ∧ a4 = to) ∧ nn = its.length ∧ dn = its.take k ∧ x = itemsB (its.drop k) ∧ er = 0
def KeyEnd (b : List Int) (a1 a2 a3 a4 : Int) (dn : List (Int × List Int)) (er : Int) : Prop :=
 ∀ bl sz fr to (its : List (Int × List Int)), StreamOk bl sz fr to its → (∀ e ∈ its, BytesL e.2) → strB bl sz fr to its = b → (a1 = bl ∧ a2 = sz ∧ a3 = fr ∧ a4 = to) ∧ dn = its ∧ er = 0
section
variable {b x x1 x2 x3 x4 x5 y y1 y2 y3 sd sd4 wb : List Int} {a1 a2 a3 a4 er u f1 f2 f3 e1 e2 e3 e4 e5 e6 e9 : Int} {nn k : Nat} {dn : List (Int × List Int)}
theorem KeyAt.step (h : KeyAt b a1 a2 a3 a4 nn k dn x er) (hk : k < nn) (hU : numR x er 256 = (u, y1, f1)) (hS : skipR y1 f1 a2 = (sd, y2, f2)) (hT : skipR y2 f2 4 = (sd4, y3, f3)) : KeyAt b a1 a2 a3 a4 nn (k + 1) (dn ++ [(u, sd)]) y3 f3 := by
 intro bl sz fr to its h1 h2 h3
 obtain ⟨⟨q1, q2, q3, q4⟩, rfl, rfl, rfl, rfl⟩ := h _ _ _ _ _ h1 h2 h3
 have he := List.getElem?_eq_getElem hk
 obtain ⟨e, hee⟩ : ∃ e, its[k] = e := ⟨_, rfl⟩
 rw [hee] at he
 have hok := h1.it e (List.mem_of_getElem? he)
 have e1 : its.drop k = e :: its.drop (k + 1) := by rw [← hee]; exact List.drop_eq_getElem_cons hk
 have e2 : itemsB (its.drop k) = enc e.1 ++ (e.2 ++ (fourC (sumC [enc e.1 ++ e.2]) ++ itemsB (its.drop (k + 1)))) := by rw [e1]; simp [itemsB, itemB, sealC]
 rw [e2, numR_ok e.1 hok.1.1 (by omega) _ 256 hok.1.2] at hU
 injection hU with r1 r2; injection r2 with r2 r3
 subst r1; subst r2; subst r3
 rw [skipR_ok _ _ _ (by omega)] at hS
 injection hS with r1 r2; injection r2 with r2 r3
 subst r1; subst r2; subst r3
 rw [skipR_ok _ _ _ (by rw [fourC_len]; rfl)] at hT
 injection hT with r1 r2; injection r2 with r2 r3
 exact ⟨⟨q1, q2, q3, q4⟩, rfl, by rw [take_snoc he], r2.symm, r3.symm⟩
theorem KeyAt.fin (h : KeyAt b a1 a2 a3 a4 nn k dn x er) (hs : k = nn ∨ er ≠ 0) : KeyEnd b a1 a2 a3 a4 dn er := by
 intro bl sz fr to its h1 h2 h3
 obtain ⟨q, rfl, rfl, rfl, rfl⟩ := h _ _ _ _ _ h1 h2 h3
 rcases hs with rfl | hs
 · exact ⟨q, by rw [List.take_length], rfl⟩
 exact absurd rfl hs
theorem KeyEnd.bad (h : KeyEnd b a1 a2 a3 a4 dn er) (hW : (e9 = 0 ∧ StreamOk a1 a2 a3 a4 dn ∧ wb = strB a1 a2 a3 a4 dn) ∨ (e9 = 23 ∧ ¬ StreamOk a1 a2 a3 a4 dn)) (hs : er ≠ 0 ∨ e9 ≠ 0 ∨ ¬ wb = b) : ∀ bl sz fr to (its : List (Int × List Int)), StreamOk bl sz fr to its → (∀ e ∈ its, BytesL e.2) → strB bl sz fr to its ≠ b := by
 intro bl sz fr to its h1 h2 h3
 obtain ⟨⟨rfl, rfl, rfl, rfl⟩, rfl, rfl⟩ := h _ _ _ _ _ h1 h2 h3
 rcases hs with hs | hs | hs
 · exact absurd rfl hs
 · rcases hW with ⟨h4, _⟩ | ⟨_, h4⟩
   · exact hs h4
   exact h4 h1
 rcases hW with ⟨_, _, h4⟩ | ⟨_, h4⟩
 · exact hs (h4.trans h3)
 exact h4 h1
theorem putw_is (hW : (e9 = 0 ∧ StreamOk a1 a2 a3 a4 dn ∧ wb = strB a1 a2 a3 a4 dn) ∨ (e9 = 23 ∧ ¬ StreamOk a1 a2 a3 a4 dn)) (h0 : e9 = 0) (hb : wb = b) : StreamOk a1 a2 a3 a4 dn ∧ strB a1 a2 a3 a4 dn = b := by
 rcases hW with ⟨_, h1, h2⟩ | ⟨h1, _⟩
 · exact ⟨h1, h2.symm.trans hb⟩
 omega
theorem key_start (hzb : ∀ bl sz fr to (its : List (Int × List Int)), strB bl sz fr to its = b → magicB ++ x = bodyB bl sz fr to its) (hA : numR x 0 256 = (a1, x1, e1)) (hB : numR x1 e1 32 = (a2, x2, e2)) (hC : numR x2 e2 1099511627777 = (a3, x3, e3)) (hD : numR x3 e3 1099511627776 = (a4, x4, e4)) (hE : numR x4 e4 256 = ((nn : Int), x5, e5)) (hK : skipR x5 e5 4 = (sd, y, e6)) : KeyAt b a1 a2 (a3 - 1) a4 nn 0 [] y e6 := by
 intro bl sz fr to its h1 h2 h3
 have h4 := hzb _ _ _ _ _ h3
 obtain ⟨⟨a1', a2'⟩, ⟨a3', a4'⟩, a5', ⟨a6', a7'⟩, a8'⟩ := h1.head
 have hn := h1.len
 have e1 : bodyB bl sz fr to its = magicB ++ (enc bl ++ (enc sz ++ (enc (fr + 1) ++ (enc to ++ (enc (its.length : Int) ++ (fourC (sumC [magicB ++ encs [bl, sz, fr + 1, to, (its.length : Int)]]) ++ itemsB its)))))) := by simp [bodyB, headB, sealC, encs]
 have e2 := List.append_cancel_left (h4.trans e1)
 obtain ⟨Fo, hFo⟩ : ∃ Y, fourC (sumC [magicB ++ encs [bl, sz, fr + 1, to, (its.length : Int)]]) = Y := ⟨_, rfl⟩
 have hFl : Fo.length = 4 := by rw [← hFo, fourC_len]
 rw [hFo] at e2
 rw [e2, numR_ok bl (by omega) (by omega) _ 256 (by omega)] at hA
 injection hA with r1 r2; injection r2 with r2 r3; subst r1; subst r2; subst r3
 rw [numR_ok sz (by omega) (by omega) _ 32 (by omega)] at hB
 injection hB with r1 r2; injection r2 with r2 r3; subst r1; subst r2; subst r3
 rw [numR_ok (fr + 1) (by omega) (by omega) _ _ (by omega)] at hC
 injection hC with r1 r2; injection r2 with r2 r3; subst r1; subst r2; subst r3
 rw [numR_ok to (by omega) (by omega) _ _ (by omega)] at hD
 injection hD with r1 r2; injection r2 with r2 r3; subst r1; subst r2; subst r3
 rw [numR_ok (its.length : Int) (by omega) (by omega) _ _ (by omega)] at hE
 injection hE with r1 r2; injection r2 with r2 r3; subst r2; subst r3
 rw [skipR_ok _ _ _ (by rw [hFl]; rfl)] at hK
 injection hK with q1 q2; injection q2 with q2 q3
 exact ⟨⟨rfl, rfl, by omega, rfl⟩, by omega, rfl, q2.symm, q3.symm⟩
end
theorem rnum_e {b y : List Int} {er mx a er2 : Int} (hN : numR b er mx = (a, y, er2)) (X : Cx) (B : Nat) (p : Option Addr) (c : Nat) (w0 : World) (hb : b.length ≤ 1000000) (hbb : BytesL b) (m0 : MemOk X w0 [(1, .box B 101 [.slice p (b).length c, .int .i64 er]), (2, .dat (.slice p (b).length c) (.ns .u8 (b)))] w0) :
   Calls Tryd.prog 45 #[.pointer (some ⟨B, 0, none⟩), .int .u64 mx] w0 fun e w' => ∃ (p' : Option Addr) (c' : Nat), e = .returned (.int .u64 a) ∧ MemOk X w0 [(1, .box B 101 [.slice p' (y).length c', .int .i64 er2]), (2, .dat (.slice p' (y).length c') (.ns .u8 (y)))] w' := by
 have h := rnum_x X B b er mx p c w0 hb hbb m0
 rw [hN] at h
 exact h
theorem skip_e {x d y : List Int} {er er2 n : Int} (hS : skipR x er n = (d, y, er2)) (X : Cx) (B : Nat) (p : Option Addr) (c : Nat) (w0 : World) (hn : 0 ≤ n) (m0 : MemOk X w0 [(1, .box B 101 [.slice p (x).length c, .int .i64 er]), (2, .dat (.slice p (x).length c) (.ns .u8 (x)))] w0) :
   Calls Tryd.prog 46 #[.pointer (some ⟨B, 0, none⟩), .int .i64 n] w0 fun e w' => ∃ (p' : Option Addr) (c' : Nat) (p3 : Option Addr) (c3 : Nat), e = .returned (.slice p3 d.length c3) ∧ MemOk X w0 [(1, .box B 101 [.slice p' (y).length c', .int .i64 er2]), (2, .dat (.slice p' (y).length c') (.ns .u8 (y))), (3, .dat (.slice p3 d.length c3) (.ns .u8 d))] w' := by
 obtain ⟨j, rfl⟩ : ∃ j : Nat, n = (j : Int) := ⟨n.toNat, by omega⟩
 unfold skipR at hS
 split at hS
 · injection hS with h1 h2; injection h2 with h2 h3; subst h1; subst h2; subst h3
   refine (skip_no X B x er j p c w0 (by omega) m0).mono fun e w' h => ?_
   obtain ⟨rfl, m⟩ := h
   have m2 := m.dat 3 rfl (Rd.nilN _ _ .u8 none)
   exact ⟨none, 0, none, 0, rfl, m2.ren [(1, 1), (2, 2), (3, 3)] (by decide)⟩
 injection hS with h1 h2; injection h2 with h2 h3; subst h1; subst h2; subst h3
 have hj : (x.take j).length = j := by rw [List.length_take]; omega
 rw [Int.toNat_natCast, hj]
 exact skip_yes X B x er j p c w0 (by omega) m0
theorem ropen_x (X : Cx) (b : List Int) (p : Option Addr) (c : Nat) (w0 : World) (hy : BytesL b) (hl : b.length ≤ 1000000) (h4 : 4 ≤ b.length) (hO : openB b = true) (mm : MemOk X w0 [(1, .dat (.slice p b.length c) (.ns .u8 b))] w0) :
   Calls Tryd.prog 44 #[.slice p b.length c] w0 fun e w' => ∃ (p' : Option Addr) (c' : Nat), e = .returned (.tuple #[.slice p' (b.take (b.length - 4)).length c', .bool true]) ∧ MemOk X w0 [(1, .dat (.slice p b.length c) (.ns .u8 b)), (3, .dat (.slice p' (b.take (b.length - 4)).length c') (.ns .u8 (b.take (b.length - 4))))] w' := by
 have hz : (b.take (b.length - 4)).length = b.length - 4 := by rw [List.length_take]; omega
 rw [hz]
 refine (ropen_yes X b p c w0 hy hl h4 hO mm).mono fun e w' h => ?_
 obtain ⟨rfl, m⟩ := h
 exact ⟨_, _, rfl, m⟩
theorem rput21_x (bl sz fr to : Int) (its : List (Int × List Int)) (pi : Option Addr) (ni ci : Nat) (w0 : World) (h1 : Rd (fun _ => True) w0 (.slice pi ni ci) (.l 2 (its.map itD))) (hil : its.length ≤ 256) (hby : ∀ e ∈ its, BytesL e.2) :
   Calls Tryd.prog 6 #[.agg #[.int .i64 bl, .int .i64 sz, .int .i64 fr, .int .i64 to, .slice pi ni ci]] w0 fun e w' => ∃ (wb : List Int) (er : Int) (p : Option Addr) (c : Nat), e = .returned (.tuple #[.slice p wb.length c, .int .i64 er]) ∧ ((er = 0 ∧ StreamOk bl sz fr to its ∧ wb = strB bl sz fr to its) ∨ (er = 23 ∧ ¬ StreamOk bl sz fr to its)) ∧ BytesL wb ∧ Rd (New w0) w' (.slice p wb.length c) (.ns .u8 wb) ∧ Below w0.heap.size w0 w' := by
 by_cases hs : StreamOk bl sz fr to its
 · refine (rput21_yes bl sz fr to its pi ni ci w0 h1 hs hby).mono fun e w' h => ?_
   obtain ⟨p, c, rfl, ho, hb⟩ := h
   exact ⟨_, _, p, c, rfl, .inl ⟨rfl, hs, rfl⟩, strBytes hs hby, (((MemOk.start (fun _ => False) w0).newN 20 hb ho).freezeN 20 rfl).outF (i := 20) rfl, hb⟩
 refine (rput21_no bl sz fr to its pi ni ci w0 h1 hil hs).mono fun e w' h => ?_
 obtain ⟨rfl, hb⟩ := h
 exact ⟨[], _, none, 0, rfl, .inr ⟨rfl, hs⟩, (fun x hx => by cases hx), Rd.nilN _ _ .u8 none, hb⟩
set_option maxRecDepth 100000
set_option maxHeartbeats 4000000
theorem rread_short (X : Cx) (b : List Int) (p : Option Addr) (c : Nat) (w0 : World) (hy : BytesL b) (hl : b.length ≤ 10000) (h4 : b.length < 4) (hER : (21 : Int) = errE b) (hne : ∀ bl sz fr to (its : List (Int × List Int)), StreamOk bl sz fr to its → (∀ e ∈ its, BytesL e.2) → strB bl sz fr to its ≠ b) (m0 : MemOk X w0 [(1, .dat (.slice p b.length c) (.ns .u8 b))] w0) :
   Calls Tryd.prog 25 #[.slice p b.length c] w0 fun e w' => ∃ (bl sz fr to : Int) (its : List (Int × List Int)) (pa : Option Addr) (ca : Nat) (er : Int), e = .returned (.tuple #[.agg #[.int .i64 bl, .int .i64 sz, .int .i64 fr, .int .i64 to, .slice pa (its.map itD).length ca], .int .i64 er]) ∧ ReadIs b bl sz fr to its er ∧ MemOk X w0 [(1, .dat (.slice p b.length c) (.ns .u8 b)), (2, .dat (.slice pa (its.map itD).length ca) (.l 2 (its.map itD)))] w' := by
 refine ent1 Tryd.func25 rfl Tryd.ntmps25 fun Az Hz => ?_
 refine zsr fun K0 hK0 => ?_
 refine plz (e_alloc Hz m0 20 fct17 rfl fun g1 Az w2 Hz m2 _ _ => ?_)
 refine gz hK0 Hz (.assign rfl .nil) fun Az Hz => ?_
 refine wsk fun K1 hK1 => ?_
 refine regS Hz (.move rfl <| .len rfl U22 <| .lss rfl rfl .nil) fun Az Hz => ?_
 refine bc Hz 15 ?_ ?_
 rotate_left
 · intro hb _; exact absurd hb (by simp; omega)
 clear Hz; intro _ Hz
 refine wct Hz ?_
 refine zsr fun K2 hK2 => ?_
 refine goCh Hz (.build rfl fct17 fl38rrsh rfl (by dsimp only [setL, List.set] <;> rfl) .nil) fun Az Hz => ?_
 refine plz (stw Hz m2 20 fct2 fun w10 m10 _ => ?_)
 refine gz hK2 Hz (.assign rfl .nil) fun Az Hz => ?_
 refine rtd (retCT (fn := Tryd.f25) Hz m10 (i := 20) rfl rfl rfl rfl U38 rfl fct2 ?_)
 have m12 := m10.dat 91 rfl (.l0 none 0 2)
 exact ⟨0, 0, 0, 0, [], none, 0, _, rfl, .inr ⟨hER, rfl, rfl, rfl, rfl, rfl, hne⟩, m12.ren [(1, 1), (2, 91)] (by decide)⟩
theorem rread_sum (X : Cx) (b : List Int) (p : Option Addr) (c : Nat) (w0 : World) (hy : BytesL b) (hl : b.length ≤ 10000) (h4 : 4 ≤ b.length) (hO : openB b = false) (hER : (24 : Int) = errE b) (hne : ∀ bl sz fr to (its : List (Int × List Int)), StreamOk bl sz fr to its → (∀ e ∈ its, BytesL e.2) → strB bl sz fr to its ≠ b) (m0 : MemOk X w0 [(1, .dat (.slice p b.length c) (.ns .u8 b))] w0) :
   Calls Tryd.prog 25 #[.slice p b.length c] w0 fun e w' => ∃ (bl sz fr to : Int) (its : List (Int × List Int)) (pa : Option Addr) (ca : Nat) (er : Int), e = .returned (.tuple #[.agg #[.int .i64 bl, .int .i64 sz, .int .i64 fr, .int .i64 to, .slice pa (its.map itD).length ca], .int .i64 er]) ∧ ReadIs b bl sz fr to its er ∧ MemOk X w0 [(1, .dat (.slice p b.length c) (.ns .u8 b)), (2, .dat (.slice pa (its.map itD).length ca) (.l 2 (its.map itD)))] w' := by
 refine ent1 Tryd.func25 rfl Tryd.ntmps25 fun Az Hz => ?_
 refine zsr fun K0 hK0 => ?_
 refine plz (e_alloc Hz m0 20 fct17 rfl fun g1 Az w2 Hz m2 _ _ => ?_)
 refine gz hK0 Hz (.assign rfl .nil) fun Az Hz => ?_
 refine wsk fun K1 hK1 => ?_
 refine regS Hz (.move rfl <| .len rfl U22 <| .lss rfl rfl .nil) fun Az Hz => ?_
 refine bc Hz 15 ?_ ?_
 · intro hb _; exact absurd hb (by simp; omega)
 clear Hz; intro _ Hz
 refine wcf Hz ?_
 refine zss (hK1 _ _ ?_)
 refine zsr fun K2 hK2 => ?_
 refine goCh Hz (.move rfl .nil) fun Az Hz => ?_
 refine plz (ecl Hz Tryd.func44 rfl (ropen_no _ b _ _ _ hy (by omega) h4 hO (m2.into [(1, 1)] (by decide) rfl)) ?_)
 rintro e w10 ⟨rfl, hm10⟩
 have mx10 := m2.back hm10 [(1, 1)] (by decide); clear hm10 m2
 have m10 := mx10.oz [1, 20]
 refine ⟨_, rfl, ?_⟩; intro Az Hz
 refine gz hK2 Hz (.move rfl <| .extract rfl rfl <| .extract rfl rfl <| .assign rfl <| .assign rfl <| .nil) fun Az Hz => ?_
 refine wsk fun K3 hK3 => ?_
 replace Hz := Hz.oz [0, 2, 3, 4, 5]
 refine regS Hz (.move rfl <| .not rfl .nil) fun Az Hz => ?_
 refine wct Hz ?_
 refine zsr fun K4 hK4 => ?_
 refine goCh Hz (.build rfl fct17 fl38rrsu rfl (by dsimp only [setL, List.set] <;> rfl) .nil) fun Az Hz => ?_
 refine plz (stw Hz m10 20 fct2 fun w22 m22 _ => ?_)
 refine gz hK4 Hz (.assign rfl .nil) fun Az Hz => ?_
 refine rtd (retCT (fn := Tryd.f25) Hz m22 (i := 20) rfl rfl rfl rfl U38 rfl fct2 ?_)
 have m24 := m22.dat 91 rfl (.l0 none 0 2)
 exact ⟨0, 0, 0, 0, [], none, 0, _, rfl, .inr ⟨hER, rfl, rfl, rfl, rfl, rfl, hne⟩, m24.ren [(1, 1), (2, 91)] (by decide)⟩
theorem rread_magic (X : Cx) (b : List Int) (p : Option Addr) (c : Nat) (w0 : World) (hy : BytesL b) (hl : b.length ≤ 10000) (h4 : 4 ≤ b.length) (hO : openB b = true) (hm9 : ¬ (b.take (b.length - 4)).take 5 = magicB) (hER : (20 : Int) = errE b) (hne : ∀ bl sz fr to (its : List (Int × List Int)), StreamOk bl sz fr to its → (∀ e ∈ its, BytesL e.2) → strB bl sz fr to its ≠ b) (m0 : MemOk X w0 [(1, .dat (.slice p b.length c) (.ns .u8 b))] w0) :
   Calls Tryd.prog 25 #[.slice p b.length c] w0 fun e w' => ∃ (bl sz fr to : Int) (its : List (Int × List Int)) (pa : Option Addr) (ca : Nat) (er : Int), e = .returned (.tuple #[.agg #[.int .i64 bl, .int .i64 sz, .int .i64 fr, .int .i64 to, .slice pa (its.map itD).length ca], .int .i64 er]) ∧ ReadIs b bl sz fr to its er ∧ MemOk X w0 [(1, .dat (.slice p b.length c) (.ns .u8 b)), (2, .dat (.slice pa (its.map itD).length ca) (.l 2 (its.map itD)))] w' := by
 have hyt : BytesL ((b.take (b.length - 4)).take 5) := fun z hz => hy z (List.mem_of_mem_take (List.mem_of_mem_take hz))
 have hMg : ((strOfNums ((b.take (b.length - 4)).take 5)).toList == (ByteArray.mk #[77, 69, 77, 79, 49]).toList) = false := by
   rw [show (ByteArray.mk #[77, 69, 77, 79, 49]) = strOfNums magicB from rfl, str_beq hyt magicBytes]
   exact decide_eq_false hm9
 refine ent1 Tryd.func25 rfl Tryd.ntmps25 fun Az Hz => ?_
 refine zsr fun K0 hK0 => ?_
 refine plz (e_alloc Hz m0 20 fct17 rfl fun g1 Az w2 Hz m2 _ _ => ?_)
 refine gz hK0 Hz (.assign rfl .nil) fun Az Hz => ?_
 refine wsk fun K1 hK1 => ?_
 refine regS Hz (.move rfl <| .len rfl U22 <| .lss rfl rfl .nil) fun Az Hz => ?_
 refine bc Hz 15 ?_ ?_
 · intro hb _; exact absurd hb (by simp; omega)
 clear Hz; intro _ Hz
 refine wcf Hz ?_
 refine zss (hK1 _ _ ?_)
 refine zsr fun K2 hK2 => ?_
 refine goCh Hz (.move rfl .nil) fun Az Hz => ?_
 refine plz (ecl Hz Tryd.func44 rfl (ropen_x _ b _ _ _ hy (by omega) h4 hO (m2.into [(1, 1)] (by decide) rfl)) ?_)
 rintro e w10 ⟨p10, c10, rfl, hm10⟩
 have mx10 := m2.back hm10 [(1, 1), (21, 3)] (by decide); clear hm10 m2
 have m10 := mx10.oz [1, 21, 20]
 refine ⟨_, rfl, ?_⟩; intro Az Hz
 refine gz hK2 Hz (.move rfl <| .extract rfl rfl <| .extract rfl rfl <| .assign rfl <| .assign rfl <| .nil) fun Az Hz => ?_
 refine wsk fun K3 hK3 => ?_
 replace Hz := Hz.oz [0, 2, 3, 4, 5]
 refine regS Hz (.move rfl <| .not rfl .nil) fun Az Hz => ?_
 refine wcf Hz ?_
 refine zss (hK3 _ _ ?_)
 refine wsk fun K4 hK4 => ?_
 refine zsr fun K5 hK5 => ?_
 refine goCh Hz (.move rfl <| .len rfl U22 <| .lss rfl rfl <| .move rfl .nil) fun Az Hz => ?_
 refine bc Hz 28 ?_ ?_
 ·
  intro hb28 Hz; try simp only [QQ, Qax] at hb28
  refine gz hK5 Hz (.sk <| .sk <| .sk <| .sk <| .pickT rfl rfl <| .nil) fun Az Hz => ?_
  refine wct Hz ?_
  replace Hz := Hz.oz [0, 2, 3, 4, 28]
  refine zsr fun K6 hK6 => ?_
  refine goCh Hz (.build rfl fct17 fl38rrma rfl (by dsimp only [setL, List.set] <;> rfl) .nil) fun Az Hz => ?_
  refine plz (stw Hz m10 20 fct2 fun w37 m37 _ => ?_)
  refine gz hK6 Hz (.assign rfl .nil) fun Az Hz => ?_
  refine rtd (retCT (fn := Tryd.f25) Hz m37 (i := 20) rfl rfl rfl rfl U38 rfl fct2 ?_)
  have m39 := m37.dat 91 rfl (.l0 none 0 2)
  exact ⟨0, 0, 0, 0, [], none, 0, _, rfl, .inr ⟨hER, rfl, rfl, rfl, rfl, rfl, hne⟩, m39.ren [(1, 1), (2, 91)] (by decide)⟩
 intro hb28 Hz; try simp only [QQ, Qax] at hb28
 refine goCh Hz (.moveZ rfl .nil) fun Az Hz => ?_
 have m41 := m10.takeN (i := 21) rfl (5) (show 5 ≤ (b.take (b.length - 4)).length by omega) 22 rfl
 have hcap41 := (m10.rd (i := 21) rfl).ns_out.cap; clear m10
 refine gz hK5 Hz (.g rfl rfl rfl rfl (fun _ h => y_sliceHn h (5) rfl rfl U22 fct7 rfl (Nat.le_trans (show 5 ≤ (b.take (b.length - 4)).length by omega) hcap41.1)) <| .strZ rfl (m41.nums (i := 22) rfl) U22 U5 U9 <| .neqSZ rfl rfl <| .pickF rfl rfl <| .nil) fun Az Hz => ?_
 refine bc Hz 33 ?_ ?_
 rotate_left
 · intro hb _; exact absurd hb (by rw [hMg]; decide)
 clear Hz; intro _ Hz
 refine wct Hz ?_
 replace Hz := Hz.oz [0, 2, 3, 4, 28]
 refine zsr fun K7 hK7 => ?_
 refine goCh Hz (.build rfl fct17 fl38rrma rfl (by dsimp only [setL, List.set] <;> rfl) .nil) fun Az Hz => ?_
 refine plz (stw Hz m41 20 fct2 fun w50 m50 _ => ?_)
 refine gz hK7 Hz (.assign rfl .nil) fun Az Hz => ?_
 refine rtd (retCT (fn := Tryd.f25) Hz m50 (i := 20) rfl rfl rfl rfl U38 rfl fct2 ?_)
 have m52 := m50.dat 91 rfl (.l0 none 0 2)
 exact ⟨0, 0, 0, 0, [], none, 0, _, rfl, .inr ⟨hER, rfl, rfl, rfl, rfl, rfl, hne⟩, m52.ren [(1, 1), (2, 91)] (by decide)⟩
theorem rread_rest (X : Cx) (b : List Int) (p : Option Addr) (c : Nat) (w0 : World) (hy : BytesL b) (hl : b.length ≤ 10000) (h4 : 4 ≤ b.length) (hO : openB b = true) (hm9 : (b.take (b.length - 4)).take 5 = magicB) (hER : (20 : Int) = errE b) {x x1 x2 x3 x4 x5 x6 sd6 : List Int} {a1 a2 a3 a4 e1 e2 e3 e4 e5 e6 : Int} {nn : Nat} (hzd : (b.take (b.length - 4)).drop 5 = x) (hA : numR x 0 256 = (a1, x1, e1)) (hB : numR x1 e1 32 = (a2, x2, e2)) (hC : numR x2 e2 1099511627777 = (a3, x3, e3)) (hD : numR x3 e3 1099511627776 = (a4, x4, e4)) (hE : numR x4 e4 256 = ((nn : Int), x5, e5)) (hKs : skipR x5 e5 4 = (sd6, x6, e6)) (m0 : MemOk X w0 [(1, .dat (.slice p b.length c) (.ns .u8 b))] w0) :
   Calls Tryd.prog 25 #[.slice p b.length c] w0 fun e w' => ∃ (bl sz fr to : Int) (its : List (Int × List Int)) (pa : Option Addr) (ca : Nat) (er : Int), e = .returned (.tuple #[.agg #[.int .i64 bl, .int .i64 sz, .int .i64 fr, .int .i64 to, .slice pa (its.map itD).length ca], .int .i64 er]) ∧ ReadIs b bl sz fr to its er ∧ MemOk X w0 [(1, .dat (.slice p b.length c) (.ns .u8 b)), (2, .dat (.slice pa (its.map itD).length ca) (.l 2 (its.map itD)))] w' := by
 have hyt : BytesL ((b.take (b.length - 4)).take 5) := fun z hz => hy z (List.mem_of_mem_take (List.mem_of_mem_take hz))
 have hMg : ((strOfNums ((b.take (b.length - 4)).take 5)).toList == (ByteArray.mk #[77, 69, 77, 79, 49]).toList) = true := by
   rw [show (ByteArray.mk #[77, 69, 77, 79, 49]) = strOfNums magicB from rfl, str_beq hyt magicBytes]
   exact decide_eq_true hm9
 have h5 : 5 ≤ (b.take (b.length - 4)).length := by have h9 := congrArg List.length hm9; rw [List.length_take] at h9; have : magicB.length = 5 := rfl; omega
 have hzb : ∀ bl sz fr to (its : List (Int × List Int)), strB bl sz fr to its = b → magicB ++ x = bodyB bl sz fr to its := fun bl sz fr to its h => by
   have h9 := (open_str bl sz fr to its).2.1
   rw [h] at h9
   rw [← h9, openC, if_pos hO, ← hzd, ← hm9]
   exact List.take_append_drop 5 _
 have hkey0 := key_start hzb hA hB hC hD hE hKs
 have hlz : x.length ≤ 1000000 := by rw [← hzd, List.length_drop, List.length_take]; omega
 have hyz : BytesL x := fun z hz => hy z (List.mem_of_mem_take (List.mem_of_mem_drop (by rw [hzd]; exact hz)))
 have hz5 : (b.take (b.length - 4)).length - 5 = x.length := by rw [← hzd, List.length_drop]
 obtain ⟨hb1, hk1, hlA, hyA, hs1⟩ := numR_all hA hyz hlz (by decide)
 obtain ⟨hb2, hk2, hlB, hyB, hs2⟩ := numR_all hB hyA hlA (by decide)
 obtain ⟨hb3, hk3, hlC, hyC, hs3⟩ := numR_all hC hyB hlB (by decide)
 obtain ⟨hb4, hk4, hlD, hyD, hs4⟩ := numR_all hD hyC hlC (by decide)
 obtain ⟨hb5, hk5, hlE, hyE, hs5⟩ := numR_all hE hyD hlD (by decide)
 obtain ⟨hl6, hy6, -⟩ := skipR_all hKs hlE hyE
 refine ent1 Tryd.func25 rfl Tryd.ntmps25 fun Az Hz => ?_
 refine zsr fun K0 hK0 => ?_
 refine plz (e_alloc Hz m0 20 fct17 rfl fun g1 Az w2 Hz m2 _ _ => ?_)
 refine gz hK0 Hz (.assign rfl .nil) fun Az Hz => ?_
 refine wsk fun K1 hK1 => ?_
 refine regS Hz (.move rfl <| .len rfl U22 <| .lss rfl rfl .nil) fun Az Hz => ?_
 refine bc Hz 15 ?_ ?_
 · intro hb _; exact absurd hb (by simp; omega)
 clear Hz; intro _ Hz
 refine wcf Hz ?_
 refine zss (hK1 _ _ ?_)
 refine zsr fun K2 hK2 => ?_
 refine goCh Hz (.move rfl .nil) fun Az Hz => ?_
 refine plz (ecl Hz Tryd.func44 rfl (ropen_x _ b _ _ _ hy (by omega) h4 hO (m2.into [(1, 1)] (by decide) rfl)) ?_)
 rintro e w10 ⟨p10, c10, rfl, hm10⟩
 have mx10 := m2.back hm10 [(1, 1), (21, 3)] (by decide); clear hm10 m2
 have m10 := mx10.oz [1, 21, 20]
 refine ⟨_, rfl, ?_⟩; intro Az Hz
 refine gz hK2 Hz (.move rfl <| .extract rfl rfl <| .extract rfl rfl <| .assign rfl <| .assign rfl <| .nil) fun Az Hz => ?_
 refine wsk fun K3 hK3 => ?_
 replace Hz := Hz.oz [0, 2, 3, 4, 5]
 refine regS Hz (.move rfl <| .not rfl .nil) fun Az Hz => ?_
 refine wcf Hz ?_
 refine zss (hK3 _ _ ?_)
 refine wsk fun K4 hK4 => ?_
 refine zsr fun K5 hK5 => ?_
 refine goCh Hz (.move rfl <| .len rfl U22 <| .lss rfl rfl <| .move rfl .nil) fun Az Hz => ?_
 refine bc Hz 28 ?_ ?_
 · intro hb _; exact absurd hb (by rw [decide_eq_true_eq]; omega)
 clear Hz; intro _ Hz
 refine goCh Hz (.moveZ rfl .nil) fun Az Hz => ?_
 have m30 := m10.takeN (i := 21) rfl (5) (show 5 ≤ (b.take (b.length - 4)).length by omega) 22 rfl
 have hcap30 := (m10.rd (i := 21) rfl).ns_out.cap; clear m10
 refine gz hK5 Hz (.g rfl rfl rfl rfl (fun _ h => y_sliceHn h (5) rfl rfl U22 fct7 rfl (Nat.le_trans (show 5 ≤ (b.take (b.length - 4)).length by omega) hcap30.1)) <| .strZ rfl (m30.nums (i := 22) rfl) U22 U5 U9 <| .neqSZ rfl rfl <| .pickF rfl rfl <| .nil) fun Az Hz => ?_
 refine bc Hz 33 ?_ ?_
 · intro hb _; exact absurd hb (by rw [hMg]; decide)
 clear Hz; intro _ Hz
 refine wcf Hz ?_
 refine zss (hK4 _ _ ?_)
 replace Hz := Hz.oz [0, 2, 3, 4]
 refine zsr fun K6 hK6 => ?_
 refine goCh Hz (.move rfl .nil) fun Az Hz => ?_
 have m40 := m30.dropN (i := 21) rfl (5) (show 5 ≤ (b.take (b.length - 4)).length by omega) 23 rfl
 refine goCh Hz (.c rfl (fun _ h => y_sliceLn h (5) rfl rfl U22 fct7 rfl (show 5 ≤ (b.take (b.length - 4)).length by omega)) <| .build rfl fct22 fl101rrre rfl (by dsimp only [setL, List.set] <;> rfl) .nil) fun Az Hz => ?_
 refine plz (e_box Hz m40 24 (cs := [_, _]) rfl rfl rfl fun g43 Az w44 Hz m44 _ _ => ?_)
 refine gz hK6 Hz (.assign rfl .nil) fun Az Hz => ?_
 refine zsr fun K7 hK7 => ?_
 refine plz (e_alloc Hz m44 25 fct17 rfl fun g46 Az w47 Hz m47 _ _ => ?_)
 refine znl (hK7 _ _ ?_)
 refine zsr fun K8 hK8 => ?_
 refine goCh Hz (.move rfl .nil) fun Az Hz => ?_
 rw [hzd, hz5] at m47
 try rw [hz5] at Hz
 refine plz (ecl Hz Tryd.func45 rfl (rnum_e (hN := hA) _ _ _ _ _ hlz hyz (m47.into [(1, 24), (2, 23)] (by decide) rfl)) ?_)
 rintro e w50 ⟨p50, c50, rfl, hm50⟩
 have mx50 := m47.back hm50 [(24, 1), (23, 2)] (by decide); clear hm50 m47
 have m50 := mx50.oz [24, 23, 1, 20, 21, 22, 25]
 refine ⟨_, rfl, ?_⟩; intro Az Hz
 refine goCh Hz (.conv rfl U63 U3 (r := a1) (IntWalk.i64_in _ (by omega)) <| .fa 0 rfl U38 .nil) fun Az Hz => ?_
 refine plz (st1 Hz m50 25 fct0 fun w54 m54 _ => ?_)
 refine znl (hK8 _ _ ?_)
 replace Hz := Hz.oz [0, 2, 3, 38, 6, 7]
 refine zsr fun K9 hK9 => ?_
 refine goCh Hz (.move rfl .nil) fun Az Hz => ?_
 refine plz (ecl Hz Tryd.func45 rfl (rnum_e (hN := hB) _ _ _ _ _ hlA hyA (m54.into [(1, 24), (2, 23)] (by decide) rfl)) ?_)
 rintro e w58 ⟨p58, c58, rfl, hm58⟩
 have mx58 := m54.back hm58 [(24, 1), (23, 2)] (by decide); clear hm58 m54
 have m58 := mx58.oz [24, 23, 1, 20, 21, 22, 25]
 refine ⟨_, rfl, ?_⟩; intro Az Hz
 refine goCh Hz (.conv rfl U63 U3 (r := a2) (IntWalk.i64_in _ (by omega)) <| .fa 1 rfl U38 .nil) fun Az Hz => ?_
 refine plz (st1 Hz m58 25 fct0 fun w62 m62 _ => ?_)
 refine znl (hK9 _ _ ?_)
 refine zsr fun K10 hK10 => ?_
 refine goCh Hz (.move rfl .nil) fun Az Hz => ?_
 refine plz (ecl Hz Tryd.func45 rfl (rnum_e (hN := hC) _ _ _ _ _ hlB hyB (m62.into [(1, 24), (2, 23)] (by decide) rfl)) ?_)
 rintro e w65 ⟨p65, c65, rfl, hm65⟩
 have mx65 := m62.back hm65 [(24, 1), (23, 2)] (by decide); clear hm65 m62
 have m65 := mx65.oz [24, 23, 1, 20, 21, 22, 25]
 refine ⟨_, rfl, ?_⟩; intro Az Hz
 refine goCh Hz (.conv rfl U63 U2 (r := a3) (IntWalk.i64_in _ (by omega)) <| .sub rfl rfl (r := a3 - 1) (IntWalk.i64_in _ (by omega)) <| .fa 2 rfl U38 .nil) fun Az Hz => ?_
 refine plz (st1 Hz m65 25 fct14 fun w70 m70 _ => ?_)
 refine znl (hK10 _ _ ?_)
 replace Hz := Hz.oz [0, 2, 3, 38, 6, 7]
 refine zsr fun K11 hK11 => ?_
 refine goCh Hz (.move rfl .nil) fun Az Hz => ?_
 refine plz (ecl Hz Tryd.func45 rfl (rnum_e (hN := hD) _ _ _ _ _ hlC hyC (m70.into [(1, 24), (2, 23)] (by decide) rfl)) ?_)
 rintro e w74 ⟨p74, c74, rfl, hm74⟩
 have mx74 := m70.back hm74 [(24, 1), (23, 2)] (by decide); clear hm74 m70
 have m74 := mx74.oz [24, 23, 1, 20, 21, 22, 25]
 refine ⟨_, rfl, ?_⟩; intro Az Hz
 refine goCh Hz (.conv rfl U63 U2 (r := a4) (IntWalk.i64_in _ (by omega)) <| .fa 3 rfl U38 .nil) fun Az Hz => ?_
 refine plz (st1 Hz m74 25 fct14 fun w78 m78 _ => ?_)
 refine znl (hK11 _ _ ?_)
 refine zsr fun K12 hK12 => ?_
 refine goCh Hz (.move rfl .nil) fun Az Hz => ?_
 refine plz (ecl Hz Tryd.func45 rfl (rnum_e (hN := hE) _ _ _ _ _ hlD hyD (m78.into [(1, 24), (2, 23)] (by decide) rfl)) ?_)
 rintro e w81 ⟨p81, c81, rfl, hm81⟩
 have mx81 := m78.back hm81 [(24, 1), (23, 2)] (by decide); clear hm81 m78
 have m81 := mx81.oz [24, 23, 1, 20, 21, 22, 25]
 refine ⟨_, rfl, ?_⟩; intro Az Hz
 refine gz hK12 Hz (.conv rfl U63 U3 (r := (nn : Int)) (IntWalk.i64_in _ (by omega)) <| .assign rfl <| .nil) fun Az Hz => ?_
 replace Hz := Hz.oz [0, 2, 3, 38, 6, 7, 8]
 refine zsr fun K13 hK13 => ?_
 refine goCh Hz (.move rfl .nil) fun Az Hz => ?_
 refine plz (ecl Hz Tryd.func46 rfl (skip_e (hS := hKs) _ _ _ _ _ (by omega) (m81.into [(1, 24), (2, 23)] (by decide) rfl)) ?_)
 rintro e w88 ⟨p88, c88, p388, c388, rfl, hm88⟩
 have mx88 := m81.back hm88 [(24, 1), (23, 2), (26, 3)] (by decide); clear hm88 m81
 have m88 := mx88.oz [24, 23, 26, 1, 20, 21, 22, 25]
 refine ⟨_, rfl, ?_⟩; intro Az Hz
 refine znl (hK13 _ _ ?_)
 refine wsk fun K14 hK14 => ?_
 have hC14 : ∀ (a : Act) (w : World), (∃ (B2 B6 B7 : Nat) (x : List Int) (er : Int) (dn : List (Int × List Int)) (pr pa : Option Addr) (cr ca : Nat), dn.length ≤ 256 ∧ (∀ e ∈ dn, BytesL e.2) ∧ KeyEnd b a1 a2 (a3 - 1) a4 dn er ∧ Has 112 [(0, .slice p b.length c), (2, .pointer (some ⟨B2, 0, none⟩)), (6, .pointer (some ⟨B6, 0, none⟩)), (7, .pointer (some ⟨B7, 0, none⟩))] a ∧ MemOk X w0 [(1, .dat (.slice p b.length c) (.ns .u8 b)), (2, .box B2 38 [.int .i64 0, .int .i64 0, .int .i64 0, .int .i64 0, .slice none 0 0]), (6, .box B6 101 [.slice pr x.length cr, .int .i64 er]), (16, .dat (.slice pr x.length cr) (.ns .u8 x)), (7, .box B7 38 [.int .i64 a1, .int .i64 a2, .int .i64 (a3 - 1), .int .i64 a4, .slice pa (dn.map itD).length ca]), (22, .row (.slice pa (dn.map itD).length ca) 48 2 (dn.map itD))] w) → K14 a w := by
   clear Hz m88
   rintro Az w90 ⟨B2, B6, B7, x, er, dn, pr, pa, cr, ca, hdl, hdby, hkey, Hz, m90⟩
   refine hK14 _ _ ?_
   refine zsr fun K15 hK15 => ?_
   refine goCh Hz (.loadBR m90 (i := 7) rfl rfl U38 rfl fct2 (by simp) (by dsimp only [List.drop, List.take] <;> rfl) .nil) fun Az Hz => ?_
   have m93 := m90.freezeR 22 rfl
   refine plz (ecl Hz Tryd.func6 rfl (rput21_x a1 a2 (a3 - 1) a4 dn _ _ _ _ ((m93.rd (i := 22) rfl).any) (by omega) hdby) ?_)
   rintro e w94 ⟨wb, e9, p94, c94, rfl, hW, hwby, hd94, hb94⟩
   have m95 := m93.callF 100 rfl hb94 hd94
   refine ⟨_, rfl, ?_⟩; intro Az Hz
   refine gz hK15 Hz (.move rfl <| .extract rfl rfl <| .extract rfl rfl <| .assign rfl <| .assign rfl <| .nil) fun Az Hz => ?_
   refine wsk fun K16 hK16 => ?_
   refine zsr fun K17 hK17 => ?_
   refine goCh Hz (.move rfl <| .nilCheck rfl <| .fa 1 rfl U101 <| .lb m95 6 U3 rfl rfl rfl <| .neq rfl rfl <| .move rfl .nil) fun Az Hz => ?_
   refine bc Hz 99 ?_ ?_
   ·
    intro hb114 Hz; try simp only [QQ, Qax] at hb114
    have h9 : er ≠ 0 := by have := hb114; first | omega | (simp at this; omega)
    have hbad := hkey.bad hW (.inl h9)
    refine gz hK17 Hz (.sk <| .sk <| .pickT rfl rfl <| .move rfl <| .sk <| .sk <| .sk <| .sk <| .sk <| .pickT rfl rfl <| .nil) fun Az Hz => ?_
    refine wct Hz ?_
    replace Hz := Hz.oz [2, 7, 99, 103, 109]
    refine zsr fun K18 hK18 => ?_
    refine goCh Hz (.build rfl fct17 fl38rrre rfl (by dsimp only [setL, List.set] <;> rfl) .nil) fun Az Hz => ?_
    refine plz (stw Hz m95 2 fct2 fun w128 m128 _ => ?_)
    refine gz hK18 Hz (.assign rfl .nil) fun Az Hz => ?_
    refine rtd (retCT (fn := Tryd.f25) Hz m128 (i := 2) rfl rfl rfl rfl U38 rfl fct2 ?_)
    have m130 := m128.dat 91 rfl (.l0 none 0 2)
    exact ⟨0, 0, 0, 0, [], none, 0, _, rfl, .inr ⟨hER, rfl, rfl, rfl, rfl, rfl, hbad⟩, m130.ren [(1, 1), (2, 91)] (by decide)⟩
   intro hb114 Hz; try simp only [QQ, Qax] at hb114
   have her : er = 0 := by have := hb114; first | omega | (simp at this; omega)
   refine goCh Hz (.moveZ rfl <| .neqZ rfl rfl <| .pickF rfl rfl <| .move rfl .nil) fun Az Hz => ?_
   refine bc Hz 103 ?_ ?_
   ·
    intro hb135 Hz; try simp only [QQ, Qax] at hb135
    have h9 : e9 ≠ 0 := by have := hb135; first | omega | (simp at this; omega)
    have hbad := hkey.bad hW (.inr (.inl h9))
    refine gz hK17 Hz (.sk <| .sk <| .sk <| .sk <| .sk <| .pickT rfl rfl <| .nil) fun Az Hz => ?_
    refine wct Hz ?_
    replace Hz := Hz.oz [2, 7, 99, 103, 109]
    refine zsr fun K19 hK19 => ?_
    refine goCh Hz (.build rfl fct17 fl38rrre rfl (by dsimp only [setL, List.set] <;> rfl) .nil) fun Az Hz => ?_
    refine plz (stw Hz m95 2 fct2 fun w145 m145 _ => ?_)
    refine gz hK19 Hz (.assign rfl .nil) fun Az Hz => ?_
    refine rtd (retCT (fn := Tryd.f25) Hz m145 (i := 2) rfl rfl rfl rfl U38 rfl fct2 ?_)
    have m147 := m145.dat 91 rfl (.l0 none 0 2)
    exact ⟨0, 0, 0, 0, [], none, 0, _, rfl, .inr ⟨hER, rfl, rfl, rfl, rfl, rfl, hbad⟩, m147.ren [(1, 1), (2, 91)] (by decide)⟩
   intro hb135 Hz; try simp only [QQ, Qax] at hb135
   have he9 : e9 = 0 := by have := hb135; first | omega | (simp at this; omega)
   have hSq := str_beq hwby hy
   refine gz hK17 Hz (.moveZ rfl <| .strZ rfl (m95.nums (i := 100) rfl) U22 U5 U9 <| .moveZ rfl <| .strZ rfl (m95.nums (i := 1) rfl) U22 U5 U9 <| .neqSZ rfl rfl <| .pickF rfl rfl <| .nil) fun Az Hz => ?_
   refine bc Hz 109 ?_ ?_
   ·
    intro hb154 Hz; try simp only [QQ, Qax] at hb154
    have h9 : ¬ wb = b := by have := hb154; simpa [hSq] using this
    have hbad := hkey.bad hW (.inr (.inr h9))
    refine wct Hz ?_
    replace Hz := Hz.oz [2, 7, 99, 103, 109]
    refine zsr fun K20 hK20 => ?_
    refine goCh Hz (.build rfl fct17 fl38rrre rfl (by dsimp only [setL, List.set] <;> rfl) .nil) fun Az Hz => ?_
    refine plz (stw Hz m95 2 fct2 fun w158 m158 _ => ?_)
    refine gz hK20 Hz (.assign rfl .nil) fun Az Hz => ?_
    refine rtd (retCT (fn := Tryd.f25) Hz m158 (i := 2) rfl rfl rfl rfl U38 rfl fct2 ?_)
    have m160 := m158.dat 91 rfl (.l0 none 0 2)
    exact ⟨0, 0, 0, 0, [], none, 0, _, rfl, .inr ⟨hER, rfl, rfl, rfl, rfl, rfl, hbad⟩, m160.ren [(1, 1), (2, 91)] (by decide)⟩
   intro hb154 Hz; try simp only [QQ, Qax] at hb154
   have h9 : wb = b := by have := hb154; simpa [hSq] using this
   obtain ⟨hs, hst⟩ := putw_is hW he9 h9
   refine wcf Hz ?_
   refine zss (hK16 _ _ ?_)
   replace Hz := Hz.oz [2, 7, 99, 103, 109]
   refine zsr fun K21 hK21 => ?_
   refine goCh Hz (.loadBR m95 (i := 7) rfl rfl U38 rfl fct2 (by simp) (by dsimp only [List.drop, List.take] <;> rfl) .nil) fun Az Hz => ?_
   refine plz (stw Hz m95 2 fct2 fun w164 m164 _ => ?_)
   refine gz hK21 Hz (.assign rfl .nil) fun Az Hz => ?_
   refine rtd (retCT (fn := Tryd.f25) Hz m164 (i := 2) rfl rfl rfl rfl U38 rfl fct2 ?_)
   exact ⟨_, _, _, _, _, _, _, _, rfl, .inl ⟨rfl, hs, hdby, hst⟩, m164.ren [(1, 1), (2, 22)] (by decide)⟩
 refine regS Hz (.assign rfl .nil) fun Az Hz => ?_
 refine wp_block ?_
 refine wp_loop_ghost (fun g a w => ∃ (k : Nat) (B2 B6 B7 : Nat) (x : List Int) (er : Int) (dn : List (Int × List Int)) (pr pa : Option Addr) (cr ca : Nat), k ≤ nn ∧ g = nn - k ∧ dn.length = k ∧ x.length ≤ 1000000 ∧ BytesL x ∧ (∀ e ∈ dn, BytesL e.2) ∧ KeyAt b a1 a2 (a3 - 1) a4 nn k dn x er ∧ Has 112 [(0, .slice p b.length c), (2, .pointer (some ⟨B2, 0, none⟩)), (6, .pointer (some ⟨B6, 0, none⟩)), (7, .pointer (some ⟨B7, 0, none⟩)), (8, .int .i64 (nn : Int)), (9, .int .i64 (k : Int))] a ∧ MemOk X w0 [(1, .dat (.slice p b.length c) (.ns .u8 b)), (2, .box B2 38 [.int .i64 0, .int .i64 0, .int .i64 0, .int .i64 0, .slice none 0 0]), (6, .box B6 101 [.slice pr x.length cr, .int .i64 er]), (16, .dat (.slice pr x.length cr) (.ns .u8 x)), (7, .box B7 38 [.int .i64 a1, .int .i64 a2, .int .i64 (a3 - 1), .int .i64 a4, .slice pa (dn.map itD).length ca]), (22, .row (.slice pa (dn.map itD).length ca) 48 2 (dn.map itD))] w) (nn) ?_ ?_
 · have mz := m88.nilR 22 48 2
   exact ⟨0, _, _, _, _, _, [], _, _, _, _, Nat.zero_le _, rfl, rfl, hl6, hy6, (fun e he => by cases he), hkey0, Hz.only [0, 2, 6, 7, 8, 9], mz.ren [(1, 1), (2, 20), (6, 24), (16, 23), (7, 25), (22, 22)] (by decide)⟩
 clear Hz m88
 rintro g Az w167 ⟨k, B2, B6, B7, x, er, dn, pr, pa, cr, ca, hkl, hg, hdk, hl1, hy1, hdby, hkey, Hz, m167⟩
 refine wsk fun K22 hK22 => ?_
 refine zsr fun K23 hK23 => ?_
 refine goCh Hz (.move rfl <| .move rfl <| .lss rfl rfl <| .move rfl .nil) fun Az Hz => ?_
 refine bc Hz 64 ?_ ?_
 ·
  intro hb176 Hz; try simp only [QQ, Qax] at hb176
  have hk : k < nn := by have := hb176; first | omega | (simp at this; omega)
  refine gz hK23 Hz (.moveZ rfl <| .nilCheckZ rfl <| .faZ 1 rfl U101 <| .loadB1Z m167 (i := 6) rfl rfl rfl U3 rfl <| .eqlZ rfl rfl <| .pickT rfl rfl <| .nil) fun Az Hz => ?_
  refine bc Hz 70 ?_ ?_
  ·
   intro hb183 Hz; try simp only [QQ, Qax] at hb183
   obtain ⟨⟨u, y1, f1⟩, hU⟩ : ∃ z, numR x er 256 = z := ⟨_, rfl⟩
   obtain ⟨hub, -, hl2, hy2, -⟩ := numR_all hU hy1 hl1 (by decide)
   obtain ⟨⟨sd, y2, f2⟩, hS⟩ : ∃ z, skipR y1 f1 a2 = z := ⟨_, rfl⟩
   obtain ⟨hl3, hy3, hyd⟩ := skipR_all hS hl2 hy2
   obtain ⟨⟨sd4, y3, f3⟩, hT⟩ : ∃ z, skipR y2 f2 4 = z := ⟨_, rfl⟩
   obtain ⟨hl4, hy4, -⟩ := skipR_all hT hl3 hy3
   refine wct Hz ?_
   refine zss (hK22 _ _ ?_)
   refine wsk fun K24 hK24 => ?_
   refine wp_block ?_
   replace Hz := Hz.oz [0, 2, 6, 7, 8, 9, 64, 70]
   refine zsr fun K25 hK25 => ?_
   refine goCh Hz (.move rfl .nil) fun Az Hz => ?_
   refine plz (ecl Hz Tryd.func45 rfl (rnum_e (hN := hU) _ _ _ _ _ hl1 hy1 (m167.into [(1, 6), (2, 16)] (by decide) rfl)) ?_)
   rintro e w187 ⟨p187, c187, rfl, hm187⟩
   have mx187 := m167.back hm187 [(6, 1), (16, 2)] (by decide); clear hm187 m167
   have m187 := mx187.oz [6, 16, 1, 2, 7, 22]
   refine ⟨_, rfl, ?_⟩; intro Az Hz
   refine gz hK25 Hz (.conv rfl U63 U3 (r := u) (IntWalk.i64_in _ (by omega)) <| .assign rfl <| .nil) fun Az Hz => ?_
   refine wsk fun K26 hK26 => ?_
   have m191 := m187.oz [1, 2, 6, 7, 16, 22]
   refine region_p 9 (B := [(7, _)]) (m191.to ⟨il, trivial⟩) m191 (by kernel_rfl) (fun w192 hP192 m192 => ?_); clear m191
   refine goR hP192 [0, 1, 2, 3, 4, 5] [1, 5] 6 0 63 Hz (m192.to ⟨il, trivial⟩) (.fa 4 rfl U38 <| .lb hh 7 U36 rfl rfl rfl <| .move rfl <| .move rfl <| .fa 1 rfl U38 <| .lb hh 7 U3 rfl rfl rfl .nil) fun Az Hz => ?_
   refine so 6 ?_
   refine ecl Hz Tryd.func46 rfl (skip_e (hS := hS) _ _ _ _ _ (by omega) (m192.into [(1, 6), (2, 16)] (by decide) rfl)) ?_
   rintro e w199 ⟨p199, c199, p3199, c3199, rfl, hm199⟩
   have mx199 := m192.back hm199 [(6, 1), (16, 2), (100, 3)] (by decide); clear hm199 m192
   have m199 := mx199.oz [6, 16, 100, 1, 2, 7, 22]
   refine ⟨_, rfl, ?_⟩; intro Az Hz
   refine ⟨m199.to ⟨il, trivial⟩, ?_⟩
   refine goA hP192 [7] 1 127 255 Hz (m199.to ⟨il, trivial⟩) (.build rfl fct3 fl48rrre rfl (by dsimp only [setL, List.set] <;> rfl) .nil) fun Az Hz => ?_
   refine so 8 ?_
   refine e_litR Hz m199 101 (mm := 2) rfl (.cons rfl rfl (.cons (.v _) (.cons (m199.rd (i := 100) rfl) .nil)) .nil) U36 fct24 rfl rfl rfl rfl rfl fun g202 Az w203 Hz m203 => ?_
   refine ⟨m203.to ⟨il, trivial⟩, ?_⟩
   have m205 := m203.freezeR 101 rfl
   refine se 9 ?_
   refine e_appR Hz m205 22 rfl rfl rfl (m205.rd (i := 101) rfl) U36 fct24 rfl rfl (by decide) (by rw [List.length_map]; simp; omega) rfl fun p204 c204 Az w206 Hz m206 => ?_
   refine goB hP192 [10] 1 1023 2047 Hz (.fa 4 rfl U38 .nil) fun Az Hz => ?_
   refine se 11 ?_
   refine st1 Hz m206 7 fct19 fun w208 m208 _ => ?_
   refine wpAnyE_done (by kernel_rfl) ?_ _
   refine hK26 _ _ ?_
   replace Hz := Hz.oz [0, 2, 6, 7, 8, 9, 64, 70]
   refine wp_region_lit ?_
   refine goCh Hz (.move rfl .nil) fun Az Hz => ?_
   refine plz (ecl Hz Tryd.func46 rfl (skip_e (hS := hT) _ _ _ _ _ (by omega) (m208.into [(1, 6), (2, 16)] (by decide) rfl)) ?_)
   rintro e w211 ⟨p211, c211, p3211, c3211, rfl, hm211⟩
   have mx211 := m208.back hm211 [(6, 1), (16, 2), (102, 3)] (by decide); clear hm211 m208
   have m211 := mx211.oz [6, 16, 102, 1, 2, 7, 22, 100, 101]
   refine ⟨_, rfl, ?_⟩; intro Az Hz
   refine znl (hK24 _ _ ?_)
   refine wp_region_lit ?_
   refine goCh Hz (.move rfl <| .inc (k + 1) <| .assign rfl .nil) fun Az Hz => ?_
   refine wpList_nil ?_
   show ∃ n', n' < _ ∧ _
   have hkey2 := hkey.step hk hU hS hT
   have hE9 : dn.map itD ++ [[D.v (.int .i64 u), .ns .u8 sd]] = (dn ++ [(u, sd)]).map itD := by rw [List.map_append]; rfl
   rw [hE9] at m211
   exact ⟨nn - (k + 1), by omega, k + 1, _, _, _, _, _, dn ++ [(u, sd)], _, _, _, _, by omega, rfl, by rw [List.length_append, List.length_singleton]; omega, hl4, hy4, app_by hdby hyd, hkey2, Hz.only [0, 2, 6, 7, 8, 9], m211.ren [(1, 1), (2, 2), (6, 6), (16, 16), (7, 7), (22, 22)] (by decide)⟩
  intro hb183 Hz; try simp only [QQ, Qax] at hb183
  have hk9 : er ≠ 0 := by have := hb183; first | omega | (simp at this; omega)
  have hstop : k = nn ∨ er ≠ 0 := .inr hk9
  refine wcf Hz ?_
  refine wp_exit ?_
  show K14 _ _
  exact hC14 _ _ ⟨_, _, _, _, _, _, _, _, _, _, by omega, hdby, hkey.fin hstop, Hz.only [0, 2, 6, 7], m167.ren [(1, 1), (2, 2), (6, 6), (16, 16), (7, 7), (22, 22)] (by decide)⟩
 intro hb176 Hz; try simp only [QQ, Qax] at hb176
 have hk9 : k = nn := by have := hb176; first | omega | (simp at this; omega)
 have hstop : k = nn ∨ er ≠ 0 := .inl hk9
 refine gz hK23 Hz (.sk <| .sk <| .sk <| .sk <| .sk <| .pickF rfl rfl <| .nil) fun Az Hz => ?_
 refine wcf Hz ?_
 refine wp_exit ?_
 show K14 _ _
 exact hC14 _ _ ⟨_, _, _, _, _, _, _, _, _, _, by omega, hdby, hkey.fin hstop, Hz.only [0, 2, 6, 7], m167.ren [(1, 1), (2, 2), (6, 6), (16, 16), (7, 7), (22, 22)] (by decide)⟩
theorem rread_any (X : Cx) (b : List Int) (p : Option Addr) (c : Nat) (w0 : World) (hy : BytesL b) (hl : b.length ≤ 10000) (m0 : MemOk X w0 [(1, .dat (.slice p b.length c) (.ns .u8 b))] w0) :
   Calls Tryd.prog 25 #[.slice p b.length c] w0 fun e w' => ∃ (bl sz fr to : Int) (its : List (Int × List Int)) (pa : Option Addr) (ca : Nat) (er : Int), e = .returned (.tuple #[.agg #[.int .i64 bl, .int .i64 sz, .int .i64 fr, .int .i64 to, .slice pa (its.map itD).length ca], .int .i64 er]) ∧ ReadIs b bl sz fr to its er ∧ MemOk X w0 [(1, .dat (.slice p b.length c) (.ns .u8 b)), (2, .dat (.slice pa (its.map itD).length ca) (.l 2 (its.map itD)))] w' := by
 have hop : ∀ bl sz fr to (its : List (Int × List Int)), strB bl sz fr to its = b → 4 ≤ b.length ∧ openB b = true ∧ openC b = bodyB bl sz fr to its := fun bl sz fr to its h => by
   have h9 := open_str bl sz fr to its
   rw [h] at h9
   exact ⟨h9.2.2, h9.1, h9.2.1⟩
 by_cases h4 : b.length < 4
 · exact rread_short X b p c w0 hy hl h4 (by unfold errE; rw [if_pos h4]) (fun bl sz fr to its _ _ h => by have := (hop bl sz fr to its h).1; omega) m0
 cases hO : openB b with
 | false => exact rread_sum X b p c w0 hy hl (by omega) hO (by unfold errE; rw [if_neg h4, if_pos hO]) (fun bl sz fr to its _ _ h => by have := (hop bl sz fr to its h).2.1; rw [hO] at this; cases this) m0
 | true =>
   have hER : (20 : Int) = errE b := by unfold errE; rw [if_neg h4, if_neg (by rw [hO]; decide)]
   by_cases hm9 : (b.take (b.length - 4)).take 5 = magicB
   · obtain ⟨x, hzd⟩ : ∃ z, (b.take (b.length - 4)).drop 5 = z := ⟨_, rfl⟩
     obtain ⟨⟨a1, x1, e1⟩, hA⟩ : ∃ z, numR x 0 256 = z := ⟨_, rfl⟩
     obtain ⟨⟨a2, x2, e2⟩, hB⟩ : ∃ z, numR x1 e1 32 = z := ⟨_, rfl⟩
     obtain ⟨⟨a3, x3, e3⟩, hC⟩ : ∃ z, numR x2 e2 1099511627777 = z := ⟨_, rfl⟩
     obtain ⟨⟨a4, x4, e4⟩, hD⟩ : ∃ z, numR x3 e3 1099511627776 = z := ⟨_, rfl⟩
     obtain ⟨⟨n5, x5, e5⟩, hE⟩ : ∃ z, numR x4 e4 256 = z := ⟨_, rfl⟩
     obtain ⟨⟨sd6, x6, e6⟩, hK⟩ : ∃ z, skipR x5 e5 4 = z := ⟨_, rfl⟩
     have hn5 : 0 ≤ n5 := by have h9 := numR_le x4 e4 256 (by decide); rw [hE] at h9; exact h9.1
     obtain ⟨nn, rfl⟩ : ∃ n : Nat, n5 = (n : Int) := ⟨n5.toNat, by omega⟩
     exact rread_rest X b p c w0 hy hl (by omega) hO hm9 hER hzd hA hB hC hD hE hK m0
   refine rread_magic X b p c w0 hy hl (by omega) hO hm9 hER (fun bl sz fr to its _ _ h => hm9 ?_) m0
   have h9 := (hop _ _ _ _ _ h).2.2
   rw [openC, if_pos hO] at h9
   rw [h9, bodyB, headB, sealC, List.append_assoc, List.append_assoc]
   exact List.take_left (l₁ := magicB)
end Go.Proofs.YtcccomafnmdlfaaDoor.K
