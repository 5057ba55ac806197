/- stream: what is taken of bytes. -/
import Derived.Test.YtcccomafnmdlfaaDoorStr7
namespace Go.Proofs.YtcccomafnmdlfaaDoor.K
open Go.ChangeShapes Go.WideShapes Go.ChangeAt Go.RowKit
set_option linter.unusedVariables false
set_option linter.unusedSimpArgs false
theorem fl38stk0 : flatS Tryd.prog 38 [.int .i64 0, .int .i64 0, .int .i64 0, .int .i64 0, .slice none 0 0] = true := by kernel_rfl
theorem fl38stk : flatS Tryd.prog 38 [.int .i64 0, .int .i64 0, .int .i64 0, .int .i64 0, .slice none 0 0] = true := by kernel_rfl
set_option maxRecDepth 100000
set_option maxHeartbeats 4000000
theorem pbeq {b : Bool} {u v : Value} {xs ys : List Int} (w0 : World) (h1 : Rd (fun _ => True) w0 u (.ns .u8 xs)) (h2 : Rd (fun _ => True) w0 v (.ns .u8 ys)) (hx : BytesL xs) (hy : BytesL ys) (hb : decide (xs = ys) = b) :
   Calls Tryd.prog 43 #[u, v] w0 fun e w' => e = .returned (.bool b) ∧ Below w0.heap.size w0 w' := by
 refine (equal_any w0 u v xs ys h1.ns_out.nums h2.ns_out.nums hx hy).mono fun e w' h => ?_
 obtain ⟨rfl, rfl⟩ := h
 rw [hb]; exact ⟨rfl, Below.refl _ _⟩
theorem itemR_some {x r d : List Int} {n0 : Nat} {a : Int} (hI : itemR (n0 : Int) x = some ((a, d), r)) : ∃ y, numR (x.take 2) 0 256 = (a, y, 0) ∧ (n0 : Int) + 4 ≤ ((x.drop ((x.take 2).length - y.length)).length : Int) ∧ d = (x.drop ((x.take 2).length - y.length)).take n0 ∧ r = (x.drop ((x.take 2).length - y.length)).drop (n0 + 4) := by
 obtain ⟨⟨a', y, er⟩, hN⟩ : ∃ z, numR (x.take 2) 0 256 = z := ⟨_, rfl⟩
 unfold itemR at hI
 rw [hN] at hI
 dsimp only at hI
 split at hI
 · cases hI
 rename_i h
 injection hI with hI
 injection hI with h1 h2
 injection h1 with h1 h3
 have he : er = 0 := by omega
 subst h1; subst he
 refine ⟨y, hN, by omega, ?_, ?_⟩
 · rw [← h3]; rfl
 rw [← h2]; rfl
theorem itemR_nn {x : List Int} {n0 : Nat} (hI : itemR (n0 : Int) x = none) : ∃ a y er, numR (x.take 2) 0 256 = (a, y, er) ∧ (er ≠ 0 ∨ ((x.drop ((x.take 2).length - y.length)).length : Int) < (n0 : Int) + 4) := by
 obtain ⟨⟨a', y, er⟩, hN⟩ : ∃ z, numR (x.take 2) 0 256 = z := ⟨_, rfl⟩
 unfold itemR at hI
 rw [hN] at hI
 dsimp only at hI
 split at hI
 · rename_i h; exact ⟨a', y, er, hN, h⟩
 cases hI
theorem itemR_len {x r d : List Int} {n0 : Nat} {a : Int} (hI : itemR (n0 : Int) x = some ((a, d), r)) : r.length ≤ x.length := by
 obtain ⟨y, -, -, -, rfl⟩ := itemR_some hI
 rw [List.length_drop, List.length_drop]; omega
theorem itemR_bytes {x r d : List Int} {n0 : Nat} {a : Int} (hI : itemR (n0 : Int) x = some ((a, d), r)) (hb : BytesL x) : BytesL r := by
 obtain ⟨y, -, -, -, rfl⟩ := itemR_some hI
 exact fun z hz => hb z (List.mem_of_mem_drop (List.mem_of_mem_drop hz))
theorem itemsR_some {sz : Int} {rest ir idt : List Int} {ia : Int} {nn k : Nat} (hk : k < nn) (hI : itemR sz rest = some ((ia, idt), ir)) : itemsR sz (nn - k) rest = (ia, idt) :: itemsR sz (nn - (k + 1)) ir := by
 obtain ⟨j, hj⟩ : ∃ j, nn - k = j + 1 := ⟨nn - (k + 1), by omega⟩
 rw [hj, show nn - (k + 1) = j by omega]
 show (match itemR sz rest with | none => [] | some (e, r) => e :: itemsR sz j r) = _
 rw [hI]
theorem itemsR_none {sz : Int} {rest : List Int} {nn k : Nat} (hI : itemR sz rest = none) : itemsR sz (nn - k) rest = [] := by
 cases nn - k with
 | zero => rfl
 | succ j =>
   show (match itemR sz rest with | none => [] | some (e, r) => e :: itemsR sz j r) = _
   rw [hI]
theorem takeItem_s {x d r : List Int} {n0 : Nat} {a1 : Int} (hI : itemR (n0 : Int) x = some ((a1, d), r)) (X : Cx) (p : Option Addr) (c : Nat) (w0 : World) (hn0 : n0 ≤ 1000) (hl0 : x.length ≤ 1000000) (hy0 : BytesL x) (m0 : MemOk X w0 [(1, .dat (.slice p x.length c) (.ns .u8 x))] w0) :
   Calls Tryd.prog 67 #[.slice p x.length c, .int .i64 (n0 : Int)] w0 fun e w' => ∃ (pd : Option Addr) (cd : Nat) (p' : Option Addr) (c' : Nat), e = .returned (.tuple #[.agg #[.int .i64 a1, .slice pd d.length cd], .slice p' r.length c', .bool true]) ∧ MemOk X w0 [(1, .dat (.slice p x.length c) (.ns .u8 x)), (2, .dat (.slice pd d.length cd) (.ns .u8 d)), (3, .dat (.slice p' r.length c') (.ns .u8 r))] w' := by
 obtain ⟨y, hN, hr, rfl, rfl⟩ := itemR_some hI
 exact takeItem_yes X x y n0 a1 0 p c w0 hn0 hN hl0 hy0 rfl hr m0
theorem takeItem_n {x : List Int} {n0 : Nat} (hI : itemR (n0 : Int) x = none) (X : Cx) (p : Option Addr) (c : Nat) (w0 : World) (hn0 : n0 ≤ 1000) (hl0 : x.length ≤ 1000000) (hy0 : BytesL x) (m0 : MemOk X w0 [(1, .dat (.slice p x.length c) (.ns .u8 x))] w0) :
   Calls Tryd.prog 67 #[.slice p x.length c, .int .i64 (n0 : Int)] w0 fun e w' => e = .returned (.tuple #[.agg #[.int .i64 0, .slice none 0 0], .slice none 0 0, .bool false]) ∧ MemOk X w0 [(1, .dat (.slice p x.length c) (.ns .u8 x))] w' := by
 obtain ⟨a, y, er, hN, hr⟩ := itemR_nn hI
 exact takeItem_no X x y n0 a er p c w0 hn0 hN hl0 hy0 hr m0
theorem php_yes (X : Cx) (x y : List Int) (p q : Option Addr) (c cq : Nat) (w0 : World) (hx : BytesL x) (hy : BytesL y) (hl : y.length ≤ x.length) (hq : x.take y.length = y) (m0 : MemOk X w0 [(1, .dat (.slice p x.length c) (.ns .u8 x)), (2, .dat (.slice q y.length cq) (.ns .u8 y))] w0) :
   Calls Tryd.prog 83 #[.slice p x.length c, .slice q y.length cq] w0 fun e w' => e = .returned (.bool true) ∧ MemOk X w0 [(1, .dat (.slice p x.length c) (.ns .u8 x)), (2, .dat (.slice q y.length cq) (.ns .u8 y))] w' := by
 refine ent2 Tryd.func83 rfl Tryd.ntmps83 fun Az Hz => ?_
 refine regS Hz (.assign rfl .nil) fun Az Hz => ?_
 refine zsr fun K0 hK0 => ?_
 refine goCh Hz (.move rfl <| .len rfl U22 <| .move rfl <| .len rfl U22 <| .geq rfl rfl <| .move rfl .nil) fun Az Hz => ?_
 refine bc Hz 10 ?_ ?_
 rotate_left
 · intro hb _; exact absurd hb (by simp; omega)
 clear Hz; intro _ Hz
 refine goCh Hz (.moveZ rfl <| .moveZ rfl <| .lenZ rfl U22 .nil) fun Az Hz => ?_
 have m18 := m0.takeN (i := 1) rfl (y.length) (show y.length ≤ x.length by omega) 20 rfl
 have hcap18 := (m0.rd (i := 1) rfl).ns_out.cap; clear m0
 refine goCh Hz (.g rfl rfl rfl rfl (fun _ h => y_sliceHn h (y.length) rfl rfl U22 fct7 rfl (Nat.le_trans (show y.length ≤ x.length by omega) hcap18.1)) <| .moveZ rfl .nil) fun Az Hz => ?_
 refine stz Hz (ecb Hz Tryd.func43 rfl m18 (pbeq (b := true) _ ((m18.rd (i := 20) rfl).any) ((m18.rd (i := 2) rfl).any) (fun z hz => hx z (List.mem_of_mem_take hz)) hy (by simp [hq])) fun Az w21 Hz m22 => ?_)
 refine gz hK0 Hz (.pickT rfl rfl <| .assign rfl <| .nil) fun Az Hz => ?_
 refine rt1 Hz ?_
 exact ⟨rfl, m22.only [1, 2]⟩
theorem php_short (X : Cx) (x y : List Int) (p q : Option Addr) (c cq : Nat) (w0 : World) (hx : BytesL x) (hy : BytesL y) (hl : x.length < y.length) (m0 : MemOk X w0 [(1, .dat (.slice p x.length c) (.ns .u8 x)), (2, .dat (.slice q y.length cq) (.ns .u8 y))] w0) :
   Calls Tryd.prog 83 #[.slice p x.length c, .slice q y.length cq] w0 fun e w' => e = .returned (.bool false) ∧ MemOk X w0 [(1, .dat (.slice p x.length c) (.ns .u8 x)), (2, .dat (.slice q y.length cq) (.ns .u8 y))] w' := by
 refine ent2 Tryd.func83 rfl Tryd.ntmps83 fun Az Hz => ?_
 refine regS Hz (.assign rfl .nil) fun Az Hz => ?_
 refine zsr fun K0 hK0 => ?_
 refine goCh Hz (.move rfl <| .len rfl U22 <| .move rfl <| .len rfl U22 <| .geq rfl rfl <| .move rfl .nil) fun Az Hz => ?_
 refine bc Hz 10 ?_ ?_
 · intro hb _; exact absurd hb (by simp; omega)
 clear Hz; intro _ Hz
 refine gz hK0 Hz (.sk <| .sk <| .sk <| .sk <| .sk <| .sk <| .pickF rfl rfl <| .assign rfl <| .nil) fun Az Hz => ?_
 refine rt1 Hz ?_
 exact ⟨rfl, m0.only [1, 2]⟩
theorem php_no (X : Cx) (x y : List Int) (p q : Option Addr) (c cq : Nat) (w0 : World) (hx : BytesL x) (hy : BytesL y) (hl : y.length ≤ x.length) (hq : ¬ x.take y.length = y) (m0 : MemOk X w0 [(1, .dat (.slice p x.length c) (.ns .u8 x)), (2, .dat (.slice q y.length cq) (.ns .u8 y))] w0) :
   Calls Tryd.prog 83 #[.slice p x.length c, .slice q y.length cq] w0 fun e w' => e = .returned (.bool false) ∧ MemOk X w0 [(1, .dat (.slice p x.length c) (.ns .u8 x)), (2, .dat (.slice q y.length cq) (.ns .u8 y))] w' := by
 refine ent2 Tryd.func83 rfl Tryd.ntmps83 fun Az Hz => ?_
 refine regS Hz (.assign rfl .nil) fun Az Hz => ?_
 refine zsr fun K0 hK0 => ?_
 refine goCh Hz (.move rfl <| .len rfl U22 <| .move rfl <| .len rfl U22 <| .geq rfl rfl <| .move rfl .nil) fun Az Hz => ?_
 refine bc Hz 10 ?_ ?_
 rotate_left
 · intro hb _; exact absurd hb (by simp; omega)
 clear Hz; intro _ Hz
 refine goCh Hz (.moveZ rfl <| .moveZ rfl <| .lenZ rfl U22 .nil) fun Az Hz => ?_
 have m18 := m0.takeN (i := 1) rfl (y.length) (show y.length ≤ x.length by omega) 20 rfl
 have hcap18 := (m0.rd (i := 1) rfl).ns_out.cap; clear m0
 refine goCh Hz (.g rfl rfl rfl rfl (fun _ h => y_sliceHn h (y.length) rfl rfl U22 fct7 rfl (Nat.le_trans (show y.length ≤ x.length by omega) hcap18.1)) <| .moveZ rfl .nil) fun Az Hz => ?_
 refine stz Hz (ecb Hz Tryd.func43 rfl m18 (pbeq (b := false) _ ((m18.rd (i := 20) rfl).any) ((m18.rd (i := 2) rfl).any) (fun z hz => hx z (List.mem_of_mem_take hz)) hy (by simp [hq])) fun Az w21 Hz m22 => ?_)
 refine gz hK0 Hz (.pickT rfl rfl <| .assign rfl <| .nil) fun Az Hz => ?_
 refine rt1 Hz ?_
 exact ⟨rfl, m22.only [1, 2]⟩
theorem php_any_no (X : Cx) (x y : List Int) (p q : Option Addr) (c cq : Nat) (w0 : World) (hx : BytesL x) (hy : BytesL y) (hno : ¬ x.take y.length = y) (m0 : MemOk X w0 [(1, .dat (.slice p x.length c) (.ns .u8 x)), (2, .dat (.slice q y.length cq) (.ns .u8 y))] w0) :
   Calls Tryd.prog 83 #[.slice p x.length c, .slice q y.length cq] w0 fun e w' => e = .returned (.bool false) ∧ MemOk X w0 [(1, .dat (.slice p x.length c) (.ns .u8 x)), (2, .dat (.slice q y.length cq) (.ns .u8 y))] w' := by
 by_cases hl : y.length ≤ x.length
 · exact php_no X x y p q c cq w0 hx hy hl hno m0
 exact php_short X x y p q c cq w0 hx hy (by omega) m0
theorem pcut_yes (X : Cx) (x y : List Int) (p q : Option Addr) (c cq : Nat) (w0 : World) (hx : BytesL x) (hy : BytesL y) (hl : y.length ≤ x.length) (hq : x.take y.length = y) (m0 : MemOk X w0 [(1, .dat (.slice p x.length c) (.ns .u8 x)), (2, .dat (.slice q y.length cq) (.ns .u8 y))] w0) :
   Calls Tryd.prog 65 #[.slice p x.length c, .slice q y.length cq] w0 fun e w' => ∃ (p' : Option Addr) (c' : Nat), e = .returned (.tuple #[.slice p' (x.drop y.length).length c', .bool true]) ∧ MemOk X w0 [(1, .dat (.slice p x.length c) (.ns .u8 x)), (2, .dat (.slice q y.length cq) (.ns .u8 y)), (3, .dat (.slice p' (x.drop y.length).length c') (.ns .u8 (x.drop y.length)))] w' := by
 refine ent2 Tryd.func65 rfl Tryd.ntmps65 fun Az Hz => ?_
 refine regS Hz (.assign rfl <| .assign rfl .nil) fun Az Hz => ?_
 refine wsk fun K0 hK0 => ?_
 refine zsr fun K1 hK1 => ?_
 refine goCh Hz (.move rfl <| .move rfl .nil) fun Az Hz => ?_
 refine plz (ecl Hz Tryd.func83 rfl (php_yes _ _ _ _ _ _ _ _ hx hy hl hq (m0.into [(1, 1), (2, 2)] (by decide) rfl)) ?_)
 rintro e w7 ⟨rfl, hm7⟩
 have mx7 := m0.back hm7 [(1, 1), (2, 2)] (by decide); clear hm7 m0
 have m7 := mx7.oz [1, 2]
 refine ⟨_, rfl, ?_⟩; intro Az Hz
 refine gz hK1 Hz (.not rfl .nil) fun Az Hz => ?_
 refine wcf Hz ?_
 refine zss (hK0 _ _ ?_)
 refine zsr fun K2 hK2 => ?_
 refine goCh Hz (.move rfl <| .move rfl <| .len rfl U22 .nil) fun Az Hz => ?_
 have m17 := m7.dropN (i := 1) rfl (y.length) (show y.length ≤ x.length by omega) 20 rfl
 refine gz hK2 Hz (.c rfl (fun _ h => y_sliceLn h (y.length) rfl rfl U22 fct7 rfl (show y.length ≤ x.length by omega)) <| .assign rfl <| .assign rfl <| .nil) fun Az Hz => ?_
 refine rt2 Hz ?_
 rw [show x.length - y.length = (x.drop y.length).length from (List.length_drop).symm] at m17
 rw [show x.length - y.length = (x.drop y.length).length from (List.length_drop).symm]
 exact ⟨_, _, rfl, m17.ren [(1, 1), (2, 2), (3, 20)] (by decide)⟩
theorem pcut_no (X : Cx) (x y : List Int) (p q : Option Addr) (c cq : Nat) (w0 : World) (hx : BytesL x) (hy : BytesL y) (hno : ¬ x.take y.length = y) (m0 : MemOk X w0 [(1, .dat (.slice p x.length c) (.ns .u8 x)), (2, .dat (.slice q y.length cq) (.ns .u8 y))] w0) :
   Calls Tryd.prog 65 #[.slice p x.length c, .slice q y.length cq] w0 fun e w' => e = .returned (.tuple #[.slice p x.length c, .bool false]) ∧ MemOk X w0 [(1, .dat (.slice p x.length c) (.ns .u8 x)), (2, .dat (.slice q y.length cq) (.ns .u8 y))] w' := by
 refine ent2 Tryd.func65 rfl Tryd.ntmps65 fun Az Hz => ?_
 refine regS Hz (.assign rfl <| .assign rfl .nil) fun Az Hz => ?_
 refine wsk fun K0 hK0 => ?_
 refine zsr fun K1 hK1 => ?_
 refine goCh Hz (.move rfl <| .move rfl .nil) fun Az Hz => ?_
 refine plz (ecl Hz Tryd.func83 rfl (php_any_no _ _ _ _ _ _ _ _ hx hy hno (m0.into [(1, 1), (2, 2)] (by decide) rfl)) ?_)
 rintro e w7 ⟨rfl, hm7⟩
 have mx7 := m0.back hm7 [(1, 1), (2, 2)] (by decide); clear hm7 m0
 have m7 := mx7.oz [1, 2]
 refine ⟨_, rfl, ?_⟩; intro Az Hz
 refine gz hK1 Hz (.not rfl .nil) fun Az Hz => ?_
 refine wct Hz ?_
 refine regS Hz (.move rfl <| .assign rfl <| .assign rfl .nil) fun Az Hz => ?_
 refine rt2 Hz ?_
 exact ⟨rfl, m7.only [1, 2]⟩
theorem take_no (X : Cx) (x : List Int) (p : Option Addr) (c : Nat) (w0 : World) (hl0 : x.length ≤ 1000000) (hx : BytesL x) (hno : ¬ x.take magicB.length = magicB) (m0 : MemOk X w0 [(1, .dat (.slice p x.length c) (.ns .u8 x))] w0) :
   Calls Tryd.prog 41 #[.slice p x.length c] w0 fun e w' => e = .returned (.agg #[.int .i64 0, .int .i64 0, .int .i64 0, .int .i64 0, .slice none 0 0]) ∧ MemOk X w0 [] w' := by
 refine ent1 Tryd.func41 rfl Tryd.ntmps41 fun Az Hz => ?_
 refine zsr fun K0 hK0 => ?_
 refine plz (e_alloc Hz m0 20 fct17 rfl fun g1 Az w2 Hz m2 _ _ => ?_)
 refine znl (hK0 _ _ ?_)
 refine zsr fun K1 hK1 => ?_
 refine goCh Hz (.move rfl .nil) fun Az Hz => ?_
 refine plz (e_litN Hz m2 21 (k := .u8) rfl rfl U22 fct4 rfl rfl rfl rfl fun g5 Az w6 Hz m6 => ?_)
 refine plz (e_cvN Hz m6 21 rfl rfl U22 U5 rfl fun Az w7 Hz m7 => ?_)
 refine plz (ecl Hz Tryd.func65 rfl (pcut_no _ _ magicB _ _ _ _ _ hx magicBytes hno (m7.into [(1, 1), (2, 21)] (by decide) rfl)) ?_)
 rintro e w8 ⟨rfl, hm8⟩
 have mx8 := m7.back hm8 [(1, 1), (21, 2)] (by decide); clear hm8 m7
 have m8 := mx8.oz [1, 21, 20]
 refine ⟨_, rfl, ?_⟩; intro Az Hz
 refine gz hK1 Hz (.move rfl <| .extract rfl rfl <| .extract rfl rfl <| .assign rfl <| .assign rfl <| .nil) fun Az Hz => ?_
 refine wsk fun K2 hK2 => ?_
 replace Hz := Hz.oz [0, 2, 3]
 refine regS Hz (.move rfl <| .not rfl .nil) fun Az Hz => ?_
 refine wct Hz ?_
 refine zsr fun K3 hK3 => ?_
 refine goCh Hz (.build rfl fct17 fl38stk0 rfl (by dsimp only [setL, List.set] <;> rfl) .nil) fun Az Hz => ?_
 refine plz (stw Hz m8 20 fct2 fun w20 m20 _ => ?_)
 refine znl (hK3 _ _ ?_)
 refine rtd (retC (fn := Tryd.f41) Hz m20 (i := 20) rfl rfl rfl U38 rfl fct2 ?_)
 exact ⟨rfl, m20.only []⟩
theorem take_yes (X : Cx) (x x1 x2 x3 x4 x5 : List Int) (n0 nn : Nat) (a1 a3 a4 e1 e2 e3 e4 e5 : Int) (p : Option Addr) (c : Nat) (w0 : World) (hl0 : x.length ≤ 1000000) (hx : BytesL x) (hqm : x.take magicB.length = magicB) (hA : numR (x.drop 5) 0 256 = (a1, x1, e1)) (hB : numR x1 e1 32 = ((n0 : Int), x2, e2)) (hC : numR x2 e2 1099511627777 = (a3, x3, e3)) (hD : numR x3 e3 1099511627776 = (a4, x4, e4)) (hE : numR x4 e4 256 = ((nn : Int), x5, e5)) (m0 : MemOk X w0 [(1, .dat (.slice p x.length c) (.ns .u8 x))] w0) :
   Calls Tryd.prog 41 #[.slice p x.length c] w0 fun e w' => ∃ (pa : Option Addr) (ca : Nat), e = .returned (.agg #[.int .i64 a1, .int .i64 (n0 : Int), .int .i64 (a3 - 1), .int .i64 a4, .slice pa ((itemsR (n0 : Int) nn (x5.drop 4)).map itD).length ca]) ∧ MemOk X w0 [(2, .dat (.slice pa ((itemsR (n0 : Int) nn (x5.drop 4)).map itD).length ca) (.l 2 ((itemsR (n0 : Int) nn (x5.drop 4)).map itD)))] w' := by
 have hlm : magicB.length ≤ x.length := by have h9 := congrArg List.length hqm; rw [List.length_take] at h9; omega
 have hlz : (x.drop 5).length ≤ 1000000 := by rw [List.length_drop]; omega
 have hyz : BytesL (x.drop 5) := fun z hz => hx z (List.mem_of_mem_drop hz)
 obtain ⟨hb1, hk1, hlA, hyA, hs1⟩ := numR_all hA hyz hlz (by decide)
 obtain ⟨hb2, hk2, hlB, hyB, hs2⟩ := numR_all hB hyA hlA (by decide)
 obtain ⟨hb3, hk3, hlC, hyC, hs3⟩ := numR_all hC hyB hlB (by decide)
 obtain ⟨hb4, hk4, hlD, hyD, hs4⟩ := numR_all hD hyC hlC (by decide)
 obtain ⟨hb5, hk5, hlE, hyE, hs5⟩ := numR_all hE hyD hlD (by decide)
 have hl54 : (x5.drop 4).length ≤ 1000000 := by rw [List.length_drop]; omega
 have hy54 : BytesL (x5.drop 4) := fun z hz => hyE z (List.mem_of_mem_drop hz)
 refine ent1 Tryd.func41 rfl Tryd.ntmps41 fun Az Hz => ?_
 refine zsr fun K0 hK0 => ?_
 refine plz (e_alloc Hz m0 20 fct17 rfl fun g1 Az w2 Hz m2 _ _ => ?_)
 refine znl (hK0 _ _ ?_)
 refine zsr fun K1 hK1 => ?_
 refine goCh Hz (.move rfl .nil) fun Az Hz => ?_
 refine plz (e_litN Hz m2 21 (k := .u8) rfl rfl U22 fct4 rfl rfl rfl rfl fun g5 Az w6 Hz m6 => ?_)
 refine plz (e_cvN Hz m6 21 rfl rfl U22 U5 rfl fun Az w7 Hz m7 => ?_)
 refine plz (ecl Hz Tryd.func65 rfl (pcut_yes _ _ magicB _ _ _ _ _ hx magicBytes hlm hqm (m7.into [(1, 1), (2, 21)] (by decide) rfl)) ?_)
 rintro e w8 ⟨p8, c8, rfl, hm8⟩
 have mx8 := m7.back hm8 [(1, 1), (21, 2), (22, 3)] (by decide); clear hm8 m7
 have m8 := mx8.oz [1, 21, 22, 20]
 refine ⟨_, rfl, ?_⟩; intro Az Hz
 refine gz hK1 Hz (.move rfl <| .extract rfl rfl <| .extract rfl rfl <| .assign rfl <| .assign rfl <| .nil) fun Az Hz => ?_
 refine wsk fun K2 hK2 => ?_
 replace Hz := Hz.oz [0, 2, 3]
 refine regS Hz (.move rfl <| .not rfl .nil) fun Az Hz => ?_
 refine wcf Hz ?_
 refine zss (hK2 _ _ ?_)
 refine zsr fun K3 hK3 => ?_
 refine goCh Hz (.move rfl .nil) fun Az Hz => ?_
 refine plz (ecl Hz Tryd.func66 rfl (takeHead_x _ _ x1 x2 x3 x4 x5 a1 (n0 : Int) a3 a4 (nn : Int) e1 e2 e3 e4 e5 _ _ _ hA hB hC hD hE hlz hyz (m8.into [(1, 22)] (by decide) rfl)) ?_)
 rintro e w20 ⟨p20, c20, rfl, hm20⟩
 have mx20 := m8.back hm20 [(22, 1), (23, 2)] (by decide); clear hm20 m8
 have m20 := mx20.oz [22, 23, 1, 20, 21]
 refine ⟨_, rfl, ?_⟩; intro Az Hz
 refine goCh Hz (.move rfl <| .extract rfl rfl <| .extract rfl rfl <| .extract rfl rfl .nil) fun Az Hz => ?_
 refine plz (e_alloc Hz m20 24 fct16 rfl fun g26 Az w27 Hz m27 _ _ => ?_)
 refine plz (stw Hz m27 24 fct15 fun w28 m28 _ => ?_)
 refine gz hK3 Hz (.assign rfl <| .assign rfl <| .nil) fun Az Hz => ?_
 replace Hz := Hz.oz [0, 2, 4, 5]
 refine zsr fun K4 hK4 => ?_
 refine goCh Hz (.fa 0 rfl U105 <| .lb m28 24 U3 rfl rfl rfl <| .fa 1 rfl U105 <| .lb m28 24 U3 rfl rfl rfl <| .fa 2 rfl U105 <| .lb m28 24 U2 rfl rfl rfl <| .fa 3 rfl U105 <| .lb m28 24 U2 rfl rfl rfl <| .build rfl fct17 fl38stk rfl (by dsimp only [setL, List.set] <;> rfl) .nil) fun Az Hz => ?_
 refine plz (e_alloc Hz m28 25 fct17 rfl fun g50 Az w51 Hz m51 _ _ => ?_)
 refine plz (stw Hz m51 25 fct2 fun w52 m52 _ => ?_)
 refine znl (hK4 _ _ ?_)
 refine wsk fun K5 hK5 => ?_
 replace Hz := Hz.oz [0, 2, 4, 5, 6]
 refine regS Hz (.move rfl <| .move rfl .nil) fun Az Hz => ?_
 refine wp_block ?_
 refine wp_loop_ghost (fun g a w => ∃ (k B2 B4 B6 : Nat) (rest : List Int) (dn : List (Int × List Int)) (pr pa : Option Addr) (cr ca : Nat), k ≤ nn ∧ g = nn - k ∧ dn.length ≤ k ∧ rest.length ≤ 1000000 ∧ BytesL rest ∧ itemsR (n0 : Int) nn (x5.drop 4) = dn ++ itemsR (n0 : Int) (nn - k) rest ∧ Has 57 [(0, .slice pr rest.length cr), (2, .pointer (some ⟨B2, 0, none⟩)), (4, .pointer (some ⟨B4, 0, none⟩)), (6, .pointer (some ⟨B6, 0, none⟩)), (35, .int .i64 (nn : Int)), (36, .int .i64 k)] a ∧ MemOk X w0 [(2, .box B2 38 [.int .i64 0, .int .i64 0, .int .i64 0, .int .i64 0, .slice none 0 0]), (4, .box B4 105 [.int .i64 a1, .int .i64 (n0 : Int), .int .i64 (a3 - 1), .int .i64 a4]), (6, .box B6 38 [.int .i64 a1, .int .i64 (n0 : Int), .int .i64 (a3 - 1), .int .i64 a4, .slice pa (dn.map itD).length ca]), (7, .dat (.slice pr rest.length cr) (.ns .u8 rest)), (22, .row (.slice pa (dn.map itD).length ca) 48 2 (dn.map itD))] w) (nn) ?_ ?_
 · have mz := m52.nilR 22 48 2
   exact ⟨0, _, _, _, _, [], _, _, _, _, Nat.zero_le _, rfl, Nat.zero_le _, hl54, hy54, rfl, Hz.only [0, 2, 4, 6, 35, 36], mz.ren [(2, 20), (4, 24), (6, 25), (7, 23), (22, 22)] (by decide)⟩
 clear Hz m52
 rintro g Az w56 ⟨k, B2, B4, B6, rest, dn, pr, pa, cr, ca, hkl, hg, hdk, hl1, hy1, hit, Hz, m56⟩
 refine regS Hz (.lss rfl rfl .nil) fun Az Hz => ?_
 refine wsk fun K6 hK6 => ?_
 refine bc Hz 37 ?_ ?_
 ·
  intro hb58 Hz; try simp only [QQ, Qax] at hb58
  have hk : k < nn := by have := hb58; first | omega | (simp at this; omega)
  refine wct Hz ?_
  refine zss (hK6 _ _ ?_)
  refine wsk fun K7 hK7 => ?_
  refine wp_block ?_
  refine wsk fun K8 hK8 => ?_
  rcases hI : itemR (n0 : Int) rest with _ | ⟨⟨ia, idt⟩, ir⟩
  ·
   have hst := itemsR_none (nn := nn) (k := k) hI
   rw [hst, List.append_nil] at hit
   refine wp_region_lit ?_
   refine goCh Hz (.move rfl <| .fa 1 rfl U105 <| .lb m56 4 U3 rfl rfl rfl .nil) fun Az Hz => ?_
   refine plz (ecl Hz Tryd.func67 rfl (takeItem_n (hI := hI) _ _ _ _ (by omega) hl1 hy1 (m56.into [(1, 7)] (by decide) rfl)) ?_)
   rintro e w62 ⟨rfl, hm62⟩
   have mx62 := m56.back hm62 [(7, 1)] (by decide); clear hm62 m56
   have m62 := mx62.oz [7, 2, 4, 6, 22]
   refine ⟨_, rfl, ?_⟩; intro Az Hz
   refine goCh Hz (.move rfl <| .extract rfl rfl <| .extract rfl rfl <| .extract rfl rfl .nil) fun Az Hz => ?_
   refine plz (e_alloc Hz m62 100 fct3 rfl fun g68 Az w69 Hz m69 _ _ => ?_)
   refine plz (stw Hz m69 100 fct1 fun w70 m70 _ => ?_)
   refine gz hK8 Hz (.assign rfl <| .assign rfl <| .nil) fun Az Hz => ?_
   refine wsk fun K9 hK9 => ?_
   replace Hz := Hz.oz [0, 2, 4, 6, 35, 36, 38, 7, 8, 9]
   refine regS Hz (.move rfl <| .not rfl .nil) fun Az Hz => ?_
   refine wct Hz ?_
   refine wp_exit ?_
   refine hK5 _ _ ?_
   refine zsr fun K10 hK10 => ?_
   refine goCh Hz (.loadBR m70 (i := 6) rfl rfl U38 rfl fct2 (by simp) (by dsimp only [List.drop, List.take] <;> rfl) .nil) fun Az Hz => ?_
   refine plz (stw Hz m70 2 fct2 fun w78 m78 _ => ?_)
   refine znl (hK10 _ _ ?_)
   refine rtd (retC (fn := Tryd.f41) Hz m78 (i := 2) rfl rfl rfl U38 rfl fct2 ?_)
   have m79 := m78.freezeR 22 rfl
   rw [hit]
   exact ⟨_, _, rfl, m79.ren [(2, 22)] (by decide)⟩
  have hl1r : ir.length ≤ 1000000 := Nat.le_trans (itemR_len hI) hl1
  have hy1r : BytesL ir := itemR_bytes hI hy1
  refine wp_region_lit ?_
  refine goCh Hz (.move rfl <| .fa 1 rfl U105 <| .lb m56 4 U3 rfl rfl rfl .nil) fun Az Hz => ?_
  refine plz (ecl Hz Tryd.func67 rfl (takeItem_s (hI := hI) _ _ _ _ (by omega) hl1 hy1 (m56.into [(1, 7)] (by decide) rfl)) ?_)
  rintro e w83 ⟨pd83, cd83, p83, c83, rfl, hm83⟩
  have mx83 := m56.back hm83 [(7, 1), (100, 2), (101, 3)] (by decide); clear hm83 m56
  have m83 := mx83.oz [7, 100, 101, 2, 4, 6, 22]
  refine ⟨_, rfl, ?_⟩; intro Az Hz
  refine goCh Hz (.move rfl <| .extract rfl rfl <| .extract rfl rfl <| .extract rfl rfl .nil) fun Az Hz => ?_
  refine plz (e_alloc Hz m83 102 fct3 rfl fun g89 Az w90 Hz m90 _ _ => ?_)
  refine plz (stw Hz m90 102 fct1 fun w91 m91 _ => ?_)
  refine gz hK8 Hz (.assign rfl <| .assign rfl <| .nil) fun Az Hz => ?_
  refine wsk fun K11 hK11 => ?_
  replace Hz := Hz.oz [0, 2, 4, 6, 35, 36, 38, 7, 8, 9]
  refine regS Hz (.move rfl <| .not rfl .nil) fun Az Hz => ?_
  refine wcf Hz ?_
  refine zss (hK11 _ _ ?_)
  refine wp_region_lit ?_
  refine goCh Hz (.fa 4 rfl U38 <| .lb m91 6 U36 rfl rfl rfl <| .loadBR m91 (i := 102) rfl rfl U48 rfl fct1 (by simp) (by dsimp only [List.drop, List.take] <;> rfl) .nil) fun Az Hz => ?_
  refine plz (e_litR Hz m91 103 (mm := 2) rfl (.cons rfl rfl (.cons (.v _) (.cons (m91.rd (i := 100) rfl) .nil)) .nil) U36 fct24 rfl rfl rfl rfl rfl fun g100 Az w101 Hz m101 => ?_)
  have m103 := m101.freezeR 103 rfl
  refine plz (e_appR Hz m103 22 rfl rfl rfl (m103.rd (i := 103) rfl) U36 fct24 rfl rfl (by decide) (by simp; omega) rfl fun p102 c102 Az w104 Hz m104 => ?_)
  refine goCh Hz (.move rfl <| .fa 4 rfl U38 .nil) fun Az Hz => ?_
  refine plz (st1 Hz m104 6 fct19 fun w107 m107 _ => ?_)
  refine gz hK7 Hz (.assign rfl .nil) fun Az Hz => ?_
  replace Hz := Hz.oz [0, 2, 4, 6, 35, 36, 38]
  refine wp_region_lit ?_
  refine goCh Hz (.inc (k + 1) <| .move rfl .nil) fun Az Hz => ?_
  refine wpList_nil ?_
  show ∃ n', n' < _ ∧ _
  have hst := itemsR_some (nn := nn) (k := k) (by omega) hI
  rw [hst] at hit
  have hE9 : dn.map itD ++ [[D.v (.int .i64 ia), .ns .u8 idt]] = (dn ++ [(ia, idt)]).map itD := by rw [List.map_append]; rfl
  rw [hE9] at m107
  exact ⟨nn - (k + 1), by omega, k + 1, _, _, _, _, dn ++ [(ia, idt)], _, _, _, _, by omega, rfl, by rw [List.length_append, List.length_singleton]; omega, hl1r, hy1r, by rw [hit, List.append_assoc]; rfl, Hz.only [0, 2, 4, 6, 35, 36], m107.ren [(2, 2), (4, 4), (6, 6), (7, 101), (22, 22)] (by decide)⟩
 intro hb58 Hz; try simp only [QQ, Qax] at hb58
 have hke : k = nn := by have := hb58; first | omega | (simp at this; omega)
 rw [hke, Nat.sub_self, show itemsR (n0 : Int) 0 rest = [] from rfl, List.append_nil] at hit
 refine wcf Hz ?_
 refine wp_exit ?_
 refine hK5 _ _ ?_
 refine zsr fun K12 hK12 => ?_
 refine goCh Hz (.loadBR m56 (i := 6) rfl rfl U38 rfl fct2 (by simp) (by dsimp only [List.drop, List.take] <;> rfl) .nil) fun Az Hz => ?_
 refine plz (stw Hz m56 2 fct2 fun w114 m114 _ => ?_)
 refine znl (hK12 _ _ ?_)
 refine rtd (retC (fn := Tryd.f41) Hz m114 (i := 2) rfl rfl rfl U38 rfl fct2 ?_)
 have m115 := m114.freezeR 22 rfl
 rw [hit]
 exact ⟨_, _, rfl, m115.ren [(2, 22)] (by decide)⟩
end Go.Proofs.YtcccomafnmdlfaaDoor.K
