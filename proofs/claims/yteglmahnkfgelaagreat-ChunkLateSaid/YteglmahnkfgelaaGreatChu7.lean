/- chunk: ReadPush of a push's bytes. -/
import Derived.Test.YteglmahnkfgelaaGreatChu6
namespace Go.Proofs.YteglmahnkfgelaaGreat.K
open Go.ChangeShapes Go.WideShapes Go.ChangeAt Go.RowKit
set_option linter.unusedVariables false
set_option linter.unusedSimpArgs false
theorem fl25crp : flatS Tryz.prog 25 [.int .i64 0, .int .i64 0, .int .i64 0, .int .i64 0, .int .i64 0, .int .i64 0, .int .i64 0, .slice none 0 0] = true := by kernel_rfl
theorem fl30crp : flatS Tryz.prog 30 [.int .i64 0, .slice none 0 0] = true := by kernel_rfl
theorem fl78crp : flatS Tryz.prog 78 [.int .i64 0, .slice none 0 0] = true := by kernel_rfl
theorem rest_y {b y : List Int} {a mx er er2 : Int} (hN : numR b er mx = (a, y, er2)) (h : b.length ≤ 1000000 ∧ BytesL b) (h0 : 0 ≤ mx := by decide) : y.length ≤ 1000000 ∧ BytesL y := by
 have := numR_all hN h.2 h.1 h0
 exact ⟨this.2.2.1, this.2.2.2.1⟩
theorem itB_bytes {x : Int × List Int} (h0 : x.1 ≤ 1099511627776) (hl : x.2.length ≤ 1000000) (hb : BytesL x.2) : BytesL (itB x) := by
 unfold itB
 exact bytesApp (encsBytes (fun y hy => by rw [List.mem_singleton.1 hy]; omega)) (bytesApp (encBytes (by omega)) hb)
theorem flat_bytes {α : Type} {f : α → List Int} {l : List α} (h : ∀ x ∈ l, BytesL (f x)) : BytesL (l.flatMap f) := fun y hy => by
 obtain ⟨x, hx, h2⟩ := List.mem_flatMap.1 hy
 exact h x hx y h2
section
variable {vo ch cn sz fr to fl : Int} {W : List (Int × List (Int × List Int))}
theorem wrB_bytes (hP : PuOk vo ch cn sz fr to fl W) (hWb : ∀ e ∈ W, ∀ x ∈ e.2, BytesL x.2) {e : Int × List (Int × List Int)} (he : e ∈ W) : BytesL (wrB e) := by
 obtain ⟨k, hk, rfl⟩ := List.getElem_of_mem he
 have hes : W[k]? = some ((W[k]).1, (W[k]).2) := List.getElem?_eq_getElem hk
 have h1 := wpre_seq hP hes
 have h2 := wpre_8 hP hes
 unfold wrB
 refine bytesApp (bytesApp (encsBytes fun y hy => by rw [List.mem_singleton.1 hy]; omega) (encsBytes fun y hy => by rw [List.mem_singleton.1 hy]; omega)) (flat_bytes fun x hx => ?_)
 obtain ⟨j, hj, rfl⟩ := List.getElem_of_mem hx
 have h3 := wpre_at hP hes (j := j) (xb := ((W[k]).2[j]).1) (xd := ((W[k]).2[j]).2) (List.getElem?_eq_getElem hj)
 have h4 := hP.1.2.2.1
 exact itB_bytes (by omega) (by omega) (hWb _ he _ (List.getElem_mem hj))
theorem push_len9 (hP : PuOk vo ch cn sz fr to fl W) : (pushB vo ch cn sz fr to fl W).length ≤ 1000000 := by
 have h1 := wrs_len hP W.length
 have h2 := hdB_len vo ch cn sz fr to fl W
 have h3 := hP.2.2.2.2.1
 rw [List.take_length] at h1
 unfold pushB
 rw [List.length_append]; omega
theorem push_bytes (hP : PuOk vo ch cn sz fr to fl W) (hWb : ∀ e ∈ W, ∀ x ∈ e.2, BytesL x.2) : BytesL (pushB vo ch cn sz fr to fl W) := by
 obtain ⟨⟨hv0, hv1⟩, ⟨hc0, hc1⟩, ⟨hn0, hn1⟩, ⟨hz0, hz1⟩⟩ := hP.1
 have h1 := hP.2.1; have h2 := hP.2.2.1; have h3 := hP.2.2.2.1; have h4 := hP.2.2.2.2.1
 unfold pushB hdB
 refine bytesApp (bytesApp (encsBytes fun y hy => ?_) (bytesApp (encsBytes fun y hy => ?_) (encsBytes fun y hy => ?_))) (flat_bytes fun e he => wrB_bytes hP hWb he)
 · simp at hy; rcases hy with rfl | rfl | rfl | rfl <;> omega
 · simp at hy; rcases hy with rfl | rfl | rfl <;> omega
 simp at hy; omega
theorem push_rest (hP : PuOk vo ch cn sz fr to fl W) (hWb : ∀ e ∈ W, ∀ x ∈ e.2, BytesL x.2) (k : Nat) : ((W.drop k).flatMap wrB).length ≤ 1000000 ∧ BytesL ((W.drop k).flatMap wrB) := by
 refine ⟨?_, flat_bytes fun e he => wrB_bytes hP hWb (List.mem_of_mem_drop he)⟩
 have h1 := wrs_len hP W.length
 have h3 := hP.2.2.2.2.1
 rw [List.take_length] at h1
 have h : W.flatMap wrB = (W.take k).flatMap wrB ++ (W.drop k).flatMap wrB := by rw [← List.flatMap_append, List.take_append_drop]
 rw [h, List.length_append] at h1
 omega
theorem items_rest (hP : PuOk vo ch cn sz fr to fl W) (hWb : ∀ e ∈ W, ∀ x ∈ e.2, BytesL x.2) {k : Nat} {xs : Int} {xl : List (Int × List Int)} (hes : W[k]? = some (xs, xl)) (j : Nat) : ((xl.drop j).flatMap itB ++ (W.drop (k + 1)).flatMap wrB).length ≤ 1000000 ∧ BytesL ((xl.drop j).flatMap itB ++ (W.drop (k + 1)).flatMap wrB) := by
 have h1 := push_rest hP hWb k
 have hk := (List.getElem?_eq_some_iff.1 hes)
 rw [List.drop_eq_getElem_cons hk.1, hk.2, List.flatMap_cons] at h1
 have h2 : wrB (xs, xl) = (encs [xs] ++ encs [(xl.length : Int)] ++ (xl.take j).flatMap itB) ++ (xl.drop j).flatMap itB := by
   have e9 : xl.flatMap itB = (xl.take j).flatMap itB ++ (xl.drop j).flatMap itB := by rw [← List.flatMap_append, List.take_append_drop]
   show encs [xs] ++ encs [(xl.length : Int)] ++ xl.flatMap itB = _
   rw [e9]
   simp only [List.append_assoc]
 rw [h2, List.append_assoc] at h1
 exact ⟨by have := h1.1; rw [List.length_append] at this; omega, fun y hy => h1.2 y (List.mem_append_right _ hy)⟩
theorem write_head {rest : List Int} {to : Int} {k : Nat} {xs : Int} {xl : List (Int × List Int)} (hes : W[k]? = some (xs, xl)) (h1 : 0 ≤ xs ∧ xs ≤ to ∧ to ≤ 1099511627776) (h8 : xl.length ≤ 8) (hr : rest = (W.drop (k + 1)).flatMap wrB := by rfl) : ∃ z, numR ((W.drop k).flatMap wrB) 0 1099511627776 = (xs, z, 0) ∧ numR z 0 8 = ((xl.length : Int), xl.flatMap itB ++ rest, 0) := by
 have hk := (List.getElem?_eq_some_iff.1 hes)
 refine ⟨enc (xl.length : Int) ++ (xl.flatMap itB ++ rest), ?_, numR_ok _ (by omega) (by omega) _ _ (by omega)⟩
 have e : (W.drop k).flatMap wrB = enc xs ++ (enc (xl.length : Int) ++ (xl.flatMap itB ++ rest)) := by
   rw [List.drop_eq_getElem_cons hk.1, hk.2, List.flatMap_cons, hr]
   simp only [wrB, encs_one, List.append_assoc]
 rw [e]
 exact numR_ok _ (by omega) (by omega) _ _ (by omega)
theorem item_head {rest : List Int} {cn : Int} {j : Nat} {xb : Int} {xd : List Int} {xl : List (Int × List Int)} {R : List Int} (hxs : xl[j]? = some (xb, xd)) (hb : 0 ≤ xb ∧ xb < cn) (hcn : cn ≤ 256) (hd : xd.length ≤ 32) (hr : rest = (xl.drop (j + 1)).flatMap itB ++ R := by rfl) : ∃ z, numR ((xl.drop j).flatMap itB ++ R) 0 255 = (xb, z, 0) ∧ numR z 0 32 = ((xd.length : Int), xd ++ rest, 0) := by
 have hj := (List.getElem?_eq_some_iff.1 hxs)
 refine ⟨enc (xd.length : Int) ++ (xd ++ rest), ?_, numR_ok _ (by omega) (by omega) _ _ (by omega)⟩
 have e : (xl.drop j).flatMap itB ++ R = enc xb ++ (enc (xd.length : Int) ++ (xd ++ rest)) := by
   rw [List.drop_eq_getElem_cons hj.1, hj.2, List.flatMap_cons, hr]
   simp only [itB, encs_one, List.append_assoc]
 rw [e]
 exact numR_ok _ (by omega) (by omega) _ _ (by omega)
theorem push_head (hP : PuOk vo ch cn sz fr to fl W) : ∃ y1 y2 y3 y4 y5 y6 y7, numR (pushB vo ch cn sz fr to fl W) 0 7 = (vo, y1, 0) ∧ numR y1 0 255 = (ch, y2, 0) ∧ numR y2 0 256 = (cn, y3, 0) ∧ numR y3 0 32 = (sz, y4, 0) ∧ numR y4 0 1099511627776 = (fr, y5, 0) ∧ numR y5 0 1099511627776 = (to, y6, 0) ∧ numR y6 0 1099511627776 = (fl, y7, 0) ∧ numR y7 0 4 = ((W.length : Int), W.flatMap wrB, 0) := by
 obtain ⟨⟨hv0, hv1⟩, ⟨hc0, hc1⟩, ⟨hn0, hn1⟩, ⟨hz0, hz1⟩⟩ := hP.1
 have h1 := hP.2.1; have h2 := hP.2.2.1; have h3 := hP.2.2.2.1; have h4 := hP.2.2.2.2.1
 have e : pushB vo ch cn sz fr to fl W = enc vo ++ (enc ch ++ (enc cn ++ (enc sz ++ (enc fr ++ (enc to ++ (enc fl ++ (enc (W.length : Int) ++ W.flatMap wrB))))))) := by
   have hnil : encs [] = [] := rfl
   unfold pushB hdB
   simp only [encs_cons, hnil, List.nil_append, List.append_assoc]
 rw [e]
 exact ⟨_, _, _, _, _, _, _, numR_ok _ (by omega) (by omega) _ _ (by omega), numR_ok _ (by omega) (by omega) _ _ (by omega), numR_ok _ (by omega) (by omega) _ _ (by omega), numR_ok _ (by omega) (by omega) _ _ (by omega), numR_ok _ (by omega) (by omega) _ _ (by omega), numR_ok _ (by omega) (by omega) _ _ (by omega), numR_ok _ (by omega) (by omega) _ _ (by omega), numR_ok _ (by omega) (by omega) _ _ (by omega)⟩
end
theorem beq_x (u v : Value) (xs ys : List Int) (w0 : World) (h1 : Rd (fun _ => True) w0 u (.ns .u8 xs)) (h2 : Rd (fun _ => True) w0 v (.ns .u8 ys)) (hx : BytesL xs) (hy : BytesL ys) :
   Calls Tryz.prog 62 #[u, v] w0 fun e w' => e = .returned (.bool (decide (xs = ys))) ∧ Below w0.heap.size w0 w' :=
 (equal_any w0 u v xs ys h1.ns_out.nums h2.ns_out.nums hx hy).mono fun e w' h => ⟨h.1, by rw [h.2]; exact Below.refl _ _⟩
set_option maxRecDepth 100000
set_option maxHeartbeats 4000000
theorem creadpush_x (X : Cx) (vo ch cn sz fr to fl : Int) (W : List (Int × List (Int × List Int))) (b : List Int) (pb : Option Addr) (cb : Nat) (w0 : World) (hP : PuOk vo ch cn sz fr to fl W) (hWb : ∀ e ∈ W, ∀ x ∈ e.2, BytesL x.2) (hbe : b = pushB vo ch cn sz fr to fl W) (m0 : MemOk X w0 [(1, .dat (.slice pb b.length cb) (.ns .u8 b))] w0) :
   Calls Tryz.prog 19 #[.slice pb b.length cb] w0 fun e w' => ∃ (p9 : Option Addr) (c9 : Nat), e = .returned (.tuple #[.agg #[.int .i64 vo, .int .i64 ch, .int .i64 cn, .int .i64 sz, .int .i64 fr, .int .i64 to, .int .i64 fl, .slice p9 (W.map wrD).length c9], .int .i64 0]) ∧ MemOk X w0 [(1, .dat (.slice pb b.length cb) (.ns .u8 b)), (9, .dat (.slice p9 (W.map wrD).length c9) (.l 2 (W.map wrD)))] w' := by
 refine ent1 Tryz.func19 rfl Tryz.ntmps19 fun Az Hz => ?_
 have hbl : b.length ≤ 1000000 := by rw [hbe]; exact push_len9 hP
 have hbb : BytesL b := by rw [hbe]; exact push_bytes hP hWb
 have hWl := hP.2.2.2.2.1
 obtain ⟨y1, y2, y3, y4, y5, y6, y7, hN1, hN2, hN3, hN4, hN5, hN6, hN7, hN8⟩ := push_head hP
 rw [← hbe] at hN1
 have Y1 := rest_y hN1 ⟨hbl, hbb⟩
 have Y2 := rest_y hN2 Y1
 have Y3 := rest_y hN3 Y2
 have Y4 := rest_y hN4 Y3
 have Y5 := rest_y hN5 Y4
 have Y6 := rest_y hN6 Y5
 have Y7 := rest_y hN7 Y6
 obtain ⟨⟨hv0, hv1⟩, ⟨hc0, hc1⟩, ⟨hn0, hn1⟩, ⟨hz0, hz1⟩⟩ := hP.1
 obtain ⟨ht0, ht1⟩ := hP.2.1
 obtain ⟨hf0, hf1⟩ := hP.2.2.1
 obtain ⟨hl0, hl1⟩ := hP.2.2.2.1
 refine zsr fun K0 hK0 => ?_
 refine plz (e_alloc Hz m0 30 fct16 rfl fun g1 Az w2 Hz m2 _ _ => ?_)
 refine gz hK0 Hz (.assign rfl .nil) fun Az Hz => ?_
 refine zsr fun K1 hK1 => ?_
 refine goCh Hz (.move rfl .nil) fun Az Hz => ?_
 refine plz (ecl Hz Tryz.func27 rfl (pnew_f _ b _ _ _ hbl (m2.into [(1, 1)] (by decide) rfl)) ?_)
 rintro e w6 ⟨gR, pr, cr, rfl, hm6⟩
 have mx6 := m2.back hm6 [(20, 1), (21, 2), (1, 3)] (by decide); clear hm6 m2
 have m6 := mx6.oz [20, 21, 1, 30]
 refine ⟨_, rfl, ?_⟩; intro Az Hz
 refine gz hK1 Hz (.assign rfl .nil) fun Az Hz => ?_
 refine zsr fun K2 hK2 => ?_
 refine goCh Hz (.move rfl .nil) fun Az Hz => ?_
 refine plz (ecl Hz Tryz.func57 rfl (creadshape_x hN1 hN2 hN3 hN4 _ _ _ _ _ hbl hbb (m6.into [(1, 20), (2, 21)] (by decide) rfl)) ?_)
 rintro e w11 ⟨p11, c11, rfl, hm11⟩
 have mx11 := m6.back hm11 [(20, 1), (21, 2)] (by decide); clear hm11 m6
 have m11 := mx11.oz [20, 21, 1, 30]
 refine ⟨_, rfl, ?_⟩; intro Az Hz
 refine plz (e_alloc Hz m11 31 fct2 rfl fun g13 Az w14 Hz m14 _ _ => ?_)
 refine plz (stw Hz m14 31 fct1 fun w15 m15 _ => ?_)
 refine znl (hK2 _ _ ?_)
 refine zsr fun K3 hK3 => ?_
 refine goCh Hz (.fa 0 rfl U88 <| .lb m15 31 U3 rfl rfl rfl <| .fa 1 rfl U88 <| .lb m15 31 U3 rfl rfl rfl <| .fa 2 rfl U88 <| .lb m15 31 U3 rfl rfl rfl <| .fa 3 rfl U88 <| .lb m15 31 U3 rfl rfl rfl <| .build rfl fct16 fl25crp rfl (by dsimp only [setL, List.set] <;> rfl) .nil) fun Az Hz => ?_
 refine plz (e_alloc Hz m15 32 fct16 rfl fun g34 Az w35 Hz m35 _ _ => ?_)
 refine plz (stw Hz m35 32 fct7 fun w36 m36 _ => ?_)
 refine znl (hK3 _ _ ?_)
 replace Hz := Hz.oz [0, 2, 3, 4, 6]
 refine zsr fun K4 hK4 => ?_
 refine goCh Hz (.move rfl .nil) fun Az Hz => ?_
 refine plz (ecl Hz Tryz.func58 rfl (ctime_x hN5 _ _ _ _ _ Y4.1 Y4.2 (m36.into [(1, 20), (2, 21)] (by decide) rfl)) ?_)
 rintro e w40 ⟨p40, c40, rfl, hm40⟩
 have mx40 := m36.back hm40 [(20, 1), (21, 2)] (by decide); clear hm40 m36
 have m40 := mx40.oz [20, 21, 1, 30, 31, 32]
 refine ⟨_, rfl, ?_⟩; intro Az Hz
 refine goCh Hz (.move rfl .nil) fun Az Hz => ?_
 refine plz (ecl Hz Tryz.func58 rfl (ctime_x hN6 _ _ _ _ _ Y5.1 Y5.2 (m40.into [(1, 20), (2, 21)] (by decide) rfl)) ?_)
 rintro e w43 ⟨p43, c43, rfl, hm43⟩
 have mx43 := m40.back hm43 [(20, 1), (21, 2)] (by decide); clear hm43 m40
 have m43 := mx43.oz [20, 21, 1, 30, 31, 32]
 refine ⟨_, rfl, ?_⟩; intro Az Hz
 refine goCh Hz (.move rfl .nil) fun Az Hz => ?_
 refine plz (ecl Hz Tryz.func58 rfl (ctime_x hN7 _ _ _ _ _ Y6.1 Y6.2 (m43.into [(1, 20), (2, 21)] (by decide) rfl)) ?_)
 rintro e w46 ⟨p46, c46, rfl, hm46⟩
 have mx46 := m43.back hm46 [(20, 1), (21, 2)] (by decide); clear hm46 m43
 have m46 := mx46.oz [20, 21, 1, 30, 31, 32]
 refine ⟨_, rfl, ?_⟩; intro Az Hz
 refine goCh Hz (.fieldAddr (off := 4) rfl U25 rfl (s := 0) (by kernel_rfl) rfl .nil) fun Az Hz => ?_
 refine plz (st1 Hz m46 32 fct22 fun w49 m49 _ => ?_)
 refine goCh Hz (.fieldAddr (off := 5) rfl U25 rfl (s := 0) (by kernel_rfl) rfl .nil) fun Az Hz => ?_
 refine plz (st1 Hz m49 32 fct22 fun w51 m51 _ => ?_)
 refine goCh Hz (.fieldAddr (off := 6) rfl U25 rfl (s := 0) (by kernel_rfl) rfl .nil) fun Az Hz => ?_
 refine plz (st1 Hz m51 32 fct22 fun w53 m53 _ => ?_)
 refine znl (hK4 _ _ ?_)
 refine wsk fun K5 hK5 => ?_
 replace Hz := Hz.oz [0, 2, 3, 4, 6, 25]
 refine zsr fun K6 hK6 => ?_
 refine goCh Hz (.move rfl .nil) fun Az Hz => ?_
 refine plz (ecl Hz Tryz.func59 rfl (pnum_e (hN := hN8) _ _ _ _ _ Y7.1 Y7.2 (m53.into [(1, 20), (2, 21)] (by decide) rfl)) ?_)
 rintro e w57 ⟨p57, c57, rfl, hm57⟩
 have mx57 := m53.back hm57 [(20, 1), (21, 2)] (by decide); clear hm57 m53
 have m57 := mx57.oz [20, 21, 1, 30, 31, 32]
 refine ⟨_, rfl, ?_⟩; intro Az Hz
 refine gz hK6 Hz (.move rfl .nil) fun Az Hz => ?_
 refine wp_block ?_
 refine wp_loop_ghost (fun g a w => ∃ (k : Nat) (gZ gR gP : Nat) (pr p9 : Option Addr) (cr c9 : Nat), k ≤ W.length ∧ g = W.length - k ∧ Has 86 [(0, .slice pb b.length cb), (2, .pointer (some ⟨gZ, 0, none⟩)), (4, .pointer (some ⟨gR, 0, none⟩)), (6, .pointer (some ⟨gP, 0, none⟩)), (33, .int .u64 (W.length : Nat)), (34, .int .u64 (k : Nat))] a ∧ MemOk X w0 [(1, .dat (.slice pb b.length cb) (.ns .u8 b)), (20, .box gR 115 [.slice pr ((W.drop k).flatMap wrB).length cr, .int .i64 0]), (21, .dat (.slice pr ((W.drop k).flatMap wrB).length cr) (.ns .u8 ((W.drop k).flatMap wrB))), (22, .box gP 25 [.int .i64 vo, .int .i64 ch, .int .i64 cn, .int .i64 sz, .int .i64 fr, .int .i64 to, .int .i64 fl, .slice p9 ((W.take k).map wrD).length c9]), (23, .row (.slice p9 ((W.take k).map wrD).length c9) 30 2 ((W.take k).map wrD)), (29, .box gZ 25 [.int .i64 0, .int .i64 0, .int .i64 0, .int .i64 0, .int .i64 0, .int .i64 0, .int .i64 0, .slice none 0 0])] w) (W.length) ?_ ?_
 · have mz := m57.nilR 23 30 2
   exact ⟨0, _, _, _, _, _, _, _, Nat.zero_le _, rfl, Hz.only [0, 2, 4, 6, 33, 34], mz.ren [(1, 1), (20, 20), (21, 21), (22, 32), (23, 23), (29, 30)] (by decide)⟩
 clear Hz m57
 rintro g Az w60 ⟨k, gZ, gR, gP, pr, p9, cr, c9, hkl, hg, Hz, m60⟩
 refine regS Hz (.lss rfl rfl .nil) fun Az Hz => ?_
 refine wsk fun K7 hK7 => ?_
 refine bc Hz 35 ?_ ?_
 ·
  intro hb62 Hz; try simp only [QQ, Qax] at hb62
  have hk : k < W.length := by have := hb62; first | omega | (simp at this; omega)
  obtain ⟨⟨xs, xl⟩, hes⟩ : ∃ e, W[k]? = some e := ⟨_, List.getElem?_eq_getElem hk⟩
  have hit : ∀ {j : Nat} {xb : Int} {xd : List Int}, xl[j]? = some (xb, xd) → (0 ≤ xb ∧ xb < cn) ∧ (xd.length ≤ 32 ∧ xl.length ≤ 8) := fun h7 => wpre_at hP hes h7
  have hx8 : xl.length ≤ 8 := wpre_8 hP hes
  have hxs9 := wpre_seq hP hes
  have YA0 := push_rest hP hWb k
  obtain ⟨z1, hA1, hA2⟩ := write_head (rest := (W.drop (k + 1)).flatMap wrB) hes hxs9 hx8
  have YA1 := rest_y hA1 YA0
  have YA2 := rest_y hA2 YA1
  refine wct Hz ?_
  refine zss (hK7 _ _ ?_)
  refine wsk fun K8 hK8 => ?_
  refine wp_block ?_
  refine zsr fun K9 hK9 => ?_
  refine goCh Hz (.move rfl .nil) fun Az Hz => ?_
  refine plz (ecl Hz Tryz.func58 rfl (ctime_x hA1 _ _ _ _ _ YA0.1 YA0.2 (m60.into [(1, 20), (2, 21)] (by decide) rfl)) ?_)
  rintro e w65 ⟨p65, c65, rfl, hm65⟩
  have mx65 := m60.back hm65 [(20, 1), (21, 2)] (by decide); clear hm65 m60
  have m65 := mx65.oz [20, 21, 1, 22, 23, 29]
  refine ⟨_, rfl, ?_⟩; intro Az Hz
  refine goCh Hz (.build rfl fct9 fl30crp rfl (by dsimp only [setL, List.set] <;> rfl) .nil) fun Az Hz => ?_
  refine plz (e_alloc Hz m65 100 fct9 rfl fun g68 Az w69 Hz m69 _ _ => ?_)
  refine plz (stw Hz m69 100 fct8 fun w70 m70 _ => ?_)
  refine znl (hK9 _ _ ?_)
  refine wsk fun K10 hK10 => ?_
  refine zsr fun K11 hK11 => ?_
  refine goCh Hz (.move rfl .nil) fun Az Hz => ?_
  refine plz (ecl Hz Tryz.func59 rfl (pnum_e (hN := hA2) _ _ _ _ _ YA1.1 YA1.2 (m70.into [(1, 20), (2, 21)] (by decide) rfl)) ?_)
  rintro e w73 ⟨p73, c73, rfl, hm73⟩
  have mx73 := m70.back hm73 [(20, 1), (21, 2)] (by decide); clear hm73 m70
  have m73 := mx73.oz [20, 21, 1, 22, 23, 29, 100]
  refine ⟨_, rfl, ?_⟩; intro Az Hz
  refine gz hK11 Hz (.move rfl .nil) fun Az Hz => ?_
  refine wp_block ?_
  refine wp_loop_ghost (fun g a w => ∃ (j : Nat) (gZ gR gP : Nat) (pr p9 : Option Addr) (cr c9 : Nat) (gW : Nat) (p8 : Option Addr) (c8 : Nat), j ≤ xl.length ∧ g = xl.length - j ∧ Has 86 [(0, .slice pb b.length cb), (2, .pointer (some ⟨gZ, 0, none⟩)), (4, .pointer (some ⟨gR, 0, none⟩)), (6, .pointer (some ⟨gP, 0, none⟩)), (33, .int .u64 (W.length : Nat)), (34, .int .u64 (k : Nat)), (7, .pointer (some ⟨gW, 0, none⟩)), (40, .int .u64 (xl.length : Nat)), (41, .int .u64 (j : Nat))] a ∧ MemOk X w0 [(1, .dat (.slice pb b.length cb) (.ns .u8 b)), (20, .box gR 115 [.slice pr ((xl.drop j).flatMap itB ++ (W.drop (k + 1)).flatMap wrB).length cr, .int .i64 0]), (21, .dat (.slice pr ((xl.drop j).flatMap itB ++ (W.drop (k + 1)).flatMap wrB).length cr) (.ns .u8 ((xl.drop j).flatMap itB ++ (W.drop (k + 1)).flatMap wrB))), (22, .box gP 25 [.int .i64 vo, .int .i64 ch, .int .i64 cn, .int .i64 sz, .int .i64 fr, .int .i64 to, .int .i64 fl, .slice p9 ((W.take k).map wrD).length c9]), (23, .row (.slice p9 ((W.take k).map wrD).length c9) 30 2 ((W.take k).map wrD)), (29, .box gZ 25 [.int .i64 0, .int .i64 0, .int .i64 0, .int .i64 0, .int .i64 0, .int .i64 0, .int .i64 0, .slice none 0 0]), (24, .box gW 30 [.int .i64 xs, .slice p8 ((xl.take j).map itD).length c8]), (25, .row (.slice p8 ((xl.take j).map itD).length c8) 78 2 ((xl.take j).map itD))] w) (xl.length) ?_ ?_
  · have mz := m73.nilR 25 78 2
    have hE3 : xl.flatMap itB ++ ((W.drop (k + 1)).flatMap wrB) = ((xl.drop 0).flatMap itB ++ (W.drop (k + 1)).flatMap wrB) := by simp
    rw [hE3] at mz
    exact ⟨0, _, _, _, _, _, _, _, _, _, _, Nat.zero_le _, rfl, Hz.only [0, 2, 4, 6, 33, 34, 7, 40, 41], mz.ren [(1, 1), (20, 20), (21, 21), (22, 22), (23, 23), (29, 29), (24, 100), (25, 25)] (by decide)⟩
  clear Hz m73
  rintro g Az w76 ⟨j, gZ, gR, gP, pr, p9, cr, c9, gW, p8, c8, hjl, hg2, Hz, m76⟩
  refine regS Hz (.lss rfl rfl .nil) fun Az Hz => ?_
  refine wsk fun K12 hK12 => ?_
  refine bc Hz 42 ?_ ?_
  ·
   intro hb78 Hz; try simp only [QQ, Qax] at hb78
   have hj : j < xl.length := by have := hb78; first | omega | (simp at this; omega)
   obtain ⟨⟨xb, xd⟩, hxs⟩ : ∃ e, xl[j]? = some e := ⟨_, List.getElem?_eq_getElem hj⟩
   have hxb := (hit hxs).1
   have hxd : xd.length ≤ 32 := (hit hxs).2.1
   have YB0 := items_rest (W := W) (k := k) hP hWb hes j
   obtain ⟨z2, hB1, hB2⟩ := item_head (rest := (xl.drop (j + 1)).flatMap itB ++ (W.drop (k + 1)).flatMap wrB) hxs hxb (by omega) hxd
   have YB1 := rest_y hB1 YB0
   refine wct Hz ?_
   refine zss (hK12 _ _ ?_)
   refine wsk fun K13 hK13 => ?_
   refine wp_block ?_
   have m79 := m76.oz [1, 20, 21, 22, 23, 24, 25, 29]
   refine region_p 11 (B := [(24, _)]) (m79.to ⟨il, trivial⟩) m79 (by kernel_rfl) (fun w80 hP80 m80 => ?_); clear m79
   refine goR hP80 [0, 1, 2, 5] [1] 4 0 39 Hz (m80.to ⟨il, trivial⟩) (.fa 1 rfl U30 <| .lb hh 24 U28 rfl rfl rfl <| .move rfl <| .move rfl .nil) fun Az Hz => ?_
   refine so 3 ?_
   refine ecl Hz Tryz.func59 rfl (pnum_e (hN := hB1) _ _ _ _ _ YB0.1 YB0.2 (m80.into [(1, 20), (2, 21)] (by decide) rfl)) ?_
   rintro e w85 ⟨p85, c85, rfl, hm85⟩
   have mx85 := m80.back hm85 [(20, 1), (21, 2)] (by decide); clear hm85 m80
   have m85 := mx85.oz [20, 21, 1, 22, 23, 24, 25, 29]
   refine ⟨_, rfl, ?_⟩; intro Az Hz
   refine ⟨m85.to ⟨il, trivial⟩, ?_⟩
   refine goA hP80 [4] 1 47 63 Hz (m85.to ⟨il, trivial⟩) (.conv rfl U101 U3 (IntWalk.i64_in _ (by omega)) .nil) fun Az Hz => ?_
   refine so 6 ?_
   refine ecl Hz Tryz.func60 rfl (prlump_x hB2 _ _ _ _ _ YB1.1 YB1.2 (m85.into [(1, 20), (2, 21)] (by decide) rfl)) ?_
   rintro e w88 ⟨p88, c88, pd88, cd88, rfl, hm88⟩
   have mx88 := m85.back hm88 [(20, 1), (21, 2), (200, 3)] (by decide); clear hm88 m85
   have m88 := mx88.oz [20, 21, 200, 1, 22, 23, 24, 25, 29]
   refine ⟨_, rfl, ?_⟩; intro Az Hz
   refine ⟨m88.to ⟨il, trivial⟩, ?_⟩
   refine goA hP80 [7] 1 127 255 Hz (m88.to ⟨il, trivial⟩) (.build rfl fct17 fl78crp rfl (by dsimp only [setL, List.set] <;> rfl) .nil) fun Az Hz => ?_
   refine so 8 ?_
   refine e_litR Hz m88 201 (mm := 2) rfl (.cons rfl rfl (.cons (.v _) (.cons (m88.rd (i := 200) rfl) .nil)) .nil) U28 fct15 rfl rfl rfl rfl rfl fun g91 Az w92 Hz m92 => ?_
   refine ⟨m92.to ⟨il, trivial⟩, ?_⟩
   have m94 := m92.freezeR 201 rfl
   refine so 9 ?_
   refine e_appR Hz m94 25 rfl rfl rfl (m94.rd (i := 201) rfl) U28 fct15 rfl rfl (by decide) (by simp; omega) rfl fun p93 c93 Az w95 Hz m95 => ?_
   refine ⟨m95.to ⟨il, trivial⟩, ?_⟩
   refine goA hP80 [10] 1 1023 2047 Hz (m95.to ⟨il, trivial⟩) (.fa 1 rfl U30 .nil) fun Az Hz => ?_
   refine se 11 ?_
   refine st1 Hz m95 24 fct31 fun w97 m97 _ => ?_
   refine wpAnyE_done (by kernel_rfl) ?_ _
   refine hK13 _ _ ?_
   replace Hz := Hz.oz [0, 2, 4, 6, 33, 34, 7, 40, 41]
   refine wp_region_lit ?_
   refine goCh Hz (.add rfl rfl (r := ((j + 1 : Nat) : Int)) (by rw [IntWalk.u64_in _ (by omega)]; omega) <| .move rfl .nil) fun Az Hz => ?_
   refine wpList_nil ?_
   show ∃ n', n' < _ ∧ _
   have hE : ((xl.take j).map itD) ++ [[D.v (.int .i64 xb), .ns .u8 xd]] = ((xl.take (j + 1)).map itD) := by rw [take_snoc hxs, List.map_append]; rfl
   rw [hE] at m97
   exact ⟨xl.length - (j + 1), by omega, j + 1, _, _, _, _, _, _, _, _, _, _, by omega, rfl, Hz.only [0, 2, 4, 6, 33, 34, 7, 40, 41], m97.ren [(1, 1), (20, 20), (21, 21), (22, 22), (23, 23), (29, 29), (24, 24), (25, 25)] (by decide)⟩
  intro hb78 Hz; try simp only [QQ, Qax] at hb78
  revert Hz
  obtain rfl : j = xl.length := by have := hb78; first | omega | (simp at this; omega)
  intro Hz
  refine wcf Hz ?_
  refine wp_exit ?_
  refine hK10 _ _ ?_
  refine wp_region_lit ?_
  refine goCh Hz (.fa 7 rfl U25 <| .lb m76 22 U23 rfl rfl rfl <| .loadBR m76 (i := 24) rfl rfl U30 rfl fct8 (by simp) (by dsimp only [List.drop, List.take] <;> rfl) .nil) fun Az Hz => ?_
  have m105 := m76.freezeR 25 rfl
  refine plz (e_litR Hz m105 200 (mm := 2) rfl (.cons rfl rfl (.cons (.v _) (.cons (m105.rd (i := 25) rfl) .nil)) .nil) U23 fct14 rfl rfl rfl rfl rfl fun g104 Az w106 Hz m106 => ?_)
  have m108 := m106.freezeR 200 rfl
  refine plz (e_appR Hz m108 23 rfl rfl rfl (m108.rd (i := 200) rfl) U23 fct14 rfl rfl (by decide) (by simp; omega) rfl fun p107 c107 Az w109 Hz m109 => ?_)
  refine goCh Hz (.fieldAddr (off := 7) rfl U25 rfl (s := 0) (by kernel_rfl) rfl .nil) fun Az Hz => ?_
  refine plz (st1 Hz m109 22 fct23 fun w111 m111 _ => ?_)
  refine znl (hK8 _ _ ?_)
  replace Hz := Hz.oz [0, 2, 4, 6, 33, 34, 7, 40, 41]
  refine wp_region_lit ?_
  refine goCh Hz (.add rfl rfl (r := ((k + 1 : Nat) : Int)) (by rw [IntWalk.u64_in _ (by omega)]; omega) <| .move rfl .nil) fun Az Hz => ?_
  refine wpList_nil ?_
  show ∃ n', n' < _ ∧ _
  have hE : ((W.take k).map wrD) ++ [[D.v (.int .i64 xs), .l 2 ((xl.take xl.length).map itD)]] = ((W.take (k + 1)).map wrD) := by rw [take_snoc hes, List.map_append, List.take_length]; rfl
  have hE2 : ((xl.drop xl.length).flatMap itB ++ (W.drop (k + 1)).flatMap wrB) = ((W.drop (k + 1)).flatMap wrB) := by simp
  rw [hE2, hE] at m111
  exact ⟨W.length - (k + 1), by omega, k + 1, _, _, _, _, _, _, _, by omega, rfl, Hz.only [0, 2, 4, 6, 33, 34], m111.ren [(1, 1), (20, 20), (21, 21), (22, 22), (23, 23), (29, 29)] (by decide)⟩
 intro hb62 Hz; try simp only [QQ, Qax] at hb62
 revert Hz
 obtain rfl : k = W.length := by have := hb62; first | omega | (simp at this; omega)
 intro Hz
 have hd0 : ((W.drop W.length).flatMap wrB) = [] := by simp
 rw [hd0, List.take_length] at m60
 refine wcf Hz ?_
 refine wp_exit ?_
 refine hK5 _ _ ?_
 refine wsk fun K14 hK14 => ?_
 refine zsr fun K15 hK15 => ?_
 refine goCh Hz (.move rfl .nil) fun Az Hz => ?_
 refine plz (ecl Hz Tryz.func61 rfl (perr_x _ _ _ _ _ _ _ (m60.into [(1, 20), (2, 21)] (by decide) rfl)) ?_)
 rintro e w117 ⟨rfl, hm117⟩
 have mx117 := m60.back hm117 [(20, 1), (21, 2)] (by decide); clear hm117 m60
 have m117 := mx117.oz [20, 21, 1, 22, 23, 29]
 refine ⟨_, rfl, ?_⟩; intro Az Hz
 refine goCh Hz (.neq rfl rfl <| .move rfl .nil) fun Az Hz => ?_
 refine bc Hz 65 ?_ ?_
 · intro hb _; exact absurd hb (by simp)
 clear Hz; intro _ Hz
 refine goCh Hz (.moveZ rfl .nil) fun Az Hz => ?_
 refine stz Hz (ecl Hz Tryz.func30 rfl (pleft_x _ _ _ _ _ _ _ (m117.into [(1, 20), (2, 21)] (by decide) rfl)) ?_)
 rintro e w123 ⟨rfl, hm123⟩
 have mx123 := m117.back hm123 [(20, 1), (21, 2)] (by decide); clear hm123 m117
 have m123 := mx123.oz [20, 21, 1, 22, 23, 29]
 refine ⟨_, rfl, ?_⟩; intro Az Hz
 refine gz hK15 Hz (.neqZ rfl rfl <| .pickF rfl rfl <| .nil) fun Az Hz => ?_
 refine bc Hz 69 ?_ ?_
 · intro hb _; exact absurd hb (by simp)
 clear Hz; intro _ Hz
 refine wcf Hz ?_
 refine zss (hK14 _ _ ?_)
 refine wsk fun K16 hK16 => ?_
 replace Hz := Hz.oz [0, 2, 4, 6, 33, 34]
 refine zsr fun K17 hK17 => ?_
 refine goCh Hz (.loadBR m123 (i := 22) rfl rfl U25 rfl fct7 (by simp) (by dsimp only [List.drop, List.take] <;> rfl) .nil) fun Az Hz => ?_
 have m131 := m123.freezeR 23 rfl
 refine plz (ecl Hz Tryz.func12 rfl (cputpush_x _ vo ch cn sz fr to fl W _ _ _ _ hP (m131.into [(1, 23)] (by decide) rfl)) ?_)
 rintro e w132 ⟨p132, c132, rfl, hm132⟩
 have mx132 := m131.back hm132 [(23, 1), (100, 9)] (by decide); clear hm132 m131
 have m132 := mx132.oz [23, 100, 1, 20, 21, 22, 29]
 refine ⟨_, rfl, ?_⟩; intro Az Hz
 refine gz hK17 Hz (.move rfl <| .extract rfl rfl <| .extract rfl rfl <| .assign rfl <| .assign rfl <| .nil) fun Az Hz => ?_
 refine zsr fun K18 hK18 => ?_
 refine goCh Hz (.move rfl <| .neq rfl rfl <| .move rfl .nil) fun Az Hz => ?_
 refine bc Hz 78 ?_ ?_
 · intro hb _; exact absurd hb (by simp)
 clear Hz; intro _ Hz
 refine goCh Hz (.moveZ rfl <| .moveZ rfl .nil) fun Az Hz => ?_
 have m148 := m132.freezeN 100 rfl
 refine stz Hz (ecb Hz Tryz.func62 rfl m148 (beq_x _ _ (pushB vo ch cn sz fr to fl W) b _ (m148.rd (i := 100) rfl).any (m148.rd (i := 1) rfl).any (by rw [← hbe]; exact hbb) hbb) fun Az w149 Hz m150 => ?_)
 refine gz hK18 Hz (.notZ rfl <| .pickF rfl rfl <| .nil) fun Az Hz => ?_
 refine bc Hz 83 ?_ ?_
 · intro hb _; exact absurd hb (by rw [hbe]; simp)
 clear Hz; intro _ Hz
 refine wcf Hz ?_
 refine zss (hK16 _ _ ?_)
 replace Hz := Hz.oz [0, 2, 4, 6, 33, 34]
 refine zsr fun K19 hK19 => ?_
 refine goCh Hz (.loadBR m150 (i := 22) rfl rfl U25 rfl fct7 (by simp) (by dsimp only [List.drop, List.take] <;> rfl) .nil) fun Az Hz => ?_
 refine plz (stw Hz m150 29 fct7 fun w158 m158 _ => ?_)
 refine gz hK19 Hz (.assign rfl .nil) fun Az Hz => ?_
 refine rtd (retCT (fn := Tryz.f19) Hz m158 (i := 29) rfl rfl rfl rfl U25 rfl fct7 ?_)
 exact ⟨_, _, rfl, m158.ren [(1, 1), (9, 23)] (by decide)⟩
end Go.Proofs.YteglmahnkfgelaaGreat.K
