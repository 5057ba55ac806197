/- LogPlays: its acts, its state. -/
import Derived.Test.YtmdckdhogbbhlaaLog14
namespace Go.Proofs.Ytmdckdhogbbhlaa.K
open Go.ChangeShapes Go.WideShapes Go.ChangeAt Go.RowKit
set_option linter.unusedVariables false
set_option linter.unusedSimpArgs false

section
variable {P : Program} {ops : Array Oper} {Q : Exit → Act → World → Prop} {md : Region.Mode} {listed : Array Bool} {fuel e : Nat} {S : World → Prop} {a : Act} {w : World}
theorem d_three (i j k : Nat) {oi oj ok : Oper} (hi : ops[i]? = some oi) (hj : ops[j]? = some oj) (hk : ops[k]? = some ok) (hr : Region.ready md ops listed = [i, j, k])
    (hwi : Region.wanted oi (Go.yielded ops a.tmps) = true) (hwj : Region.wanted oj (Go.yielded ops a.tmps) = true) (hwk : Region.wanted ok (Go.yielded ops a.tmps) = true)
    (h1 : ∀ K' : Act → World → Prop, (∀ a' w', ((listed.setIfInBounds i true).getD e false = false → S w') → wpAnyE P md ops Q e S fuel (listed.setIfInBounds i true) a' w' → K' a' w') → Oper.wp P oi a w K' Q)
    (h2 : ∀ K' : Act → World → Prop, (∀ a' w', ((listed.setIfInBounds j true).getD e false = false → S w') → wpAnyE P md ops Q e S fuel (listed.setIfInBounds j true) a' w' → K' a' w') → Oper.wp P oj a w K' Q)
    (h3 : ∀ K' : Act → World → Prop, (∀ a' w', ((listed.setIfInBounds k true).getD e false = false → S w') → wpAnyE P md ops Q e S fuel (listed.setIfInBounds k true) a' w' → K' a' w') → Oper.wp P ok a w K' Q) :
    wpAnyE P md ops Q e S (fuel + 1) listed a w := by
  refine ⟨fun h0 => absurd (hr ▸ h0) (by simp), fun q hq => ?_⟩
  rw [hr] at hq
  rcases List.mem_cons.1 hq with rfl | hq
  · refine wpOp_step hi (fun K' hK => ?_)
    rw [if_pos hwi]
    exact h1 K' (fun a' w' h hn => hK a' w' ⟨h, hn⟩)
  · rcases List.mem_cons.1 hq with rfl | hq
    · refine wpOp_step hj (fun K' hK => ?_)
      rw [if_pos hwj]
      exact h2 K' (fun a' w' h hn => hK a' w' ⟨h, hn⟩)
    · obtain rfl : q = k := by simpa using hq
      refine wpOp_step hk (fun K' hK => ?_)
      rw [if_pos hwk]
      exact h3 K' (fun a' w' h hn => hK a' w' ⟨h, hn⟩)
end
def lactD (a : Int × Int × Int × Int × List Int) : List D := [.v (.int .u8 a.1), .v (.int .u8 a.2.1), .v (.int .u8 a.2.2.1), .v (.int .u8 a.2.2.2.1), .ns .u8 a.2.2.2.2]
def LActOk (a : Int × Int × Int × Int × List Int) : Prop := (0 ≤ a.1 ∧ a.1 ≤ 255) ∧ (0 ≤ a.2.1 ∧ a.2.1 ≤ 255) ∧ (0 ≤ a.2.2.1 ∧ a.2.2.1 ≤ 255) ∧ (0 ≤ a.2.2.2.1 ∧ a.2.2.2.1 ≤ 255) ∧ ByteL a.2.2.2.2
theorem lact_get {A : List (Int × Int × Int × Int × List Int)} {k : Nat} {w a b c : Int} {l : List Int} (h : A[k]? = some (w, a, b, c, l)) : (A.map lactD)[k]? = some [.v (.int .u8 w), .v (.int .u8 a), .v (.int .u8 b), .v (.int .u8 c), .ns .u8 l] := by simp [h, lactD]
def lactS : List Shp := [.i .u8, .i .u8, .i .u8, .i .u8, .ns .u8]
theorem fitsLAct : Fits Try.prog 39 lactS := .mk (sss := [[.i .u8], [.i .u8], [.i .u8], [.i .u8], [.ns .u8]]) Try.underlying39 (by kernel_rfl) rfl (.cons rfl (by kernel_rfl) (.int Try.underlying5) (.cons rfl (by kernel_rfl) (.int Try.underlying5) (.cons rfl (by kernel_rfl) (.int Try.underlying5) (.cons rfl (by kernel_rfl) (.int Try.underlying5) (.cons rfl (by kernel_rfl) (.nums Try.underlying23 Try.underlying5 (by kernel_rfl) (by kernel_rfl)) (.nil _))))))
theorem fitsLActs : Fits Try.prog 24 [.l lactS] := .rows Try.underlying24 fitsLAct (by kernel_rfl) (by decide) (by kernel_rfl)
theorem lact_form {r : List D} (h : DOkL lactS r) : ∃ a, r = lactD a ∧ LActOk a := by
  obtain ⟨_, _, rfl, h0, h⟩ := h.cons_out
  obtain ⟨_, _, rfl, h1, h⟩ := h.cons_out
  obtain ⟨_, _, rfl, h2, h⟩ := h.cons_out
  obtain ⟨_, _, rfl, h3, h⟩ := h.cons_out
  obtain ⟨_, _, rfl, h4, h⟩ := h.cons_out
  obtain rfl := h.nil_out
  obtain ⟨z0, rfl, a0⟩ := h0.i_out
  obtain ⟨z1, rfl, a1⟩ := h1.i_out
  obtain ⟨z2, rfl, a2⟩ := h2.i_out
  obtain ⟨z3, rfl, a3⟩ := h3.i_out
  obtain ⟨zs, rfl, -, a4⟩ := h4.ns_out
  have := bounds_u8 a0; have := bounds_u8 a1; have := bounds_u8 a2; have := bounds_u8 a3
  exact ⟨(z0, z1, z2, z3, zs), rfl, by omega, by omega, by omega, by omega, fun z hz => by have := bounds_u8 (a4 z hz); omega⟩
/-- The data of an entry of that kind. -/
def DG (kd : Int) (dd : List Int) : Prop := dd.length ≤ 6 ∧ ByteL dd ∧ (kd = 2 → dataOk 2 dd = true)
def EG (e : Int × Int × Int × List Int) : Prop := 0 ≤ e.2.1 ∧ e.2.1 ≤ 255 ∧ DG e.2.2.1 e.2.2.2
theorem EG.l6 {e : Int × Int × Int × List Int} (h : EG e) : e.2.2.2.length ≤ 6 := h.2.2.1
theorem eg_conf {a c : Int} (ha : 0 ≤ a) (hc : 0 ≤ c) : DG 2 [a % 7, c % 2] := ⟨by simp, fun z hz => by simp at hz; omega, fun _ => by simp [dataOk]; omega⟩
theorem eg_cmd {l : List Int} (h : ∀ j, j < l.length → 0 ≤ l.getD j 0 ∧ l.getD j 0 ≤ 255) (hl : l.length ≤ 6) : DG 1 l := ⟨hl, fun z hz => by
  obtain ⟨j, hj, rfl⟩ := List.getElem_of_mem hz
  have := h j hj
  rwa [List.getD, List.getElem?_eq_getElem hj] at this, fun h => by cases h⟩
theorem eg_set {es : List (Int × Int × Int × List Int)} {k : Nat} {ei et ek i' : Int} {ed : List Int} (h : ∀ e ∈ es, EG e) (h2 : EG (ei, et, ek, ed)) : ∀ e ∈ es.set k (i', et, ek, ed), EG e := fun e he => by
  rcases List.mem_or_eq_of_mem_set he with he | rfl
  · exact h e he
  · exact h2
theorem eg_term {ei et ek t : Int} {ed : List Int} (h : EG (ei, et, ek, ed)) (h0 : 0 ≤ t) (h1 : -1 ≤ t ∧ t ≤ 255) : EG (ei, t, ek, ed) := ⟨h0, h1.2, h.2.2⟩
theorem seq_set {pv : Int} {es : List (Int × Int × Int × List Int)} {k : Nat} {ei et ek t : Int} {ed : List Int} (h : Seq pv es) (hk : es[k]? = some (ei, et, ek, ed)) : Seq pv (es.set k (ei, t, ek, ed)) := fun j hj => by
  rw [List.length_set] at hj
  have h1 := h j hj
  by_cases hjk : j = k
  · subst hjk
    rw [List.getD, List.getElem?_set_self hj]
    rw [List.getD, hk] at h1; exact h1
  · rw [List.getD, List.getElem?_set_ne (by omega)]; exact h1
theorem ents_eg {F : Int} {l : List Int} (hb : ∀ j, j < l.length → 0 ≤ l.getD j 0 ∧ l.getD j 0 ≤ 255) (hl : l.length ≤ 200) : ∀ e ∈ entsN F l l.length, EG e := fun e he => by
  obtain ⟨k, hk, rfl⟩ := ents_mem he
  have h1 := termN_bd l hb (k + 1) hk
  have h2 := hb k hk
  have h3 := entOf_data (F := F) (tm := termN l (k + 1)) h2 (i := k) (by omega)
  refine ⟨by show 0 ≤ termN l (k + 1); omega, by show termN l (k + 1) ≤ 255; omega, Nat.le_trans h3.1 (by decide), h3.2, fun h => ?_⟩
  unfold entOf at h ⊢
  dsimp only at h ⊢
  by_cases hx : 230 < l.getD k 0
  · rw [if_pos hx]; simp only [dataOk, List.length_cons, List.length_nil, List.getD_cons_zero, List.getD_cons_succ]
    simp; omega
  · rw [if_neg hx] at h; omega
structure StOk (M : Nat) (bi bt : Int) (cf d : List Int) (es : List (Int × Int × Int × List Int)) : Prop where
  bi0 : 0 ≤ bi
  m : bi + es.length ≤ M
  bt0 : 0 ≤ bt ∧ bt ≤ 255
  cf : cf.length ≤ 900
  d : d.length ≤ 6
  seq : Seq bi es
  g : ∀ e ∈ es, EG e
  M9 : M ≤ 400
section
variable {M : Nat} {bi bt : Int} {cf d : List Int} {es : List (Int × Int × Int × List Int)}
theorem StOk.up (h : StOk M bi bt cf d es) {N : Nat} (hN : M ≤ N ∧ N ≤ 400) : StOk N bi bt cf d es := ⟨h.bi0, by have := h.m; omega, h.bt0, h.cf, h.d, h.seq, h.g, hN.2⟩
theorem StOk.bi1 (h : StOk M bi bt cf d es) : 0 ≤ bi ∧ bi ≤ 1000000 := by have := h.bi0; have := h.m; have := h.M9; omega
theorem StOk.len (h : StOk M bi bt cf d es) : es.length ≤ 1000 := by have := h.bi0; have := h.m; have := h.M9; omega
theorem StOk.ok (h : StOk M bi bt cf d es) : EntsOk es := fun e he => by have := (h.g e he).l6; omega
theorem StOk.b (h : StOk M bi bt cf d es) : EntsB es := fun e he => (h.g e he).2.2.2.1
theorem StOk.r (h : StOk M bi bt cf d es) : EntsR es := fun e he hk => by
  obtain ⟨j, hj, rfl⟩ := List.getElem_of_mem he
  have h1 := h.seq j hj
  rw [List.getD, List.getElem?_eq_getElem hj] at h1
  have h1' : es[j].1 = bi + 1 + j := h1
  have h2 := h.g _ he
  have := h.bi0; have := h.m; have := h.M9
  unfold entOk timeOk
  rw [decide_eq_true (by omega), decide_eq_true (by have := h2.1; have := h2.2.1; omega), hk, h2.2.2.2.2 hk]; rfl
theorem StOk.tm (h : StOk M bi bt cf d es) (i : Int) : -1 ≤ termL bi bt es i ∧ termL bi bt es i ≤ 255 := by
  unfold termL
  split
  · have := h.bt0; omega
  · split
    · rename_i hin
      obtain ⟨k, a1, a2, a3, a4⟩ := inB_at hin
      rw [a3]
      have := h.g _ (List.mem_of_getElem? a4)
      have h1 := this.1; have h2 := this.2.1
      omega
    · omega
theorem seq_run : ∀ (ls : List (Int × Int × Int × List Int)) (pv : Int), Seq pv (ls.take (runN pv ls))
  | [], pv => fun j hj => by simp at hj
  | e :: r, pv => by
    unfold runN
    by_cases h : e.1 = pv + 1
    · rw [if_pos h]
      intro j hj
      cases j with
      | zero => simpa using h
      | succ j =>
        have := seq_run r (pv + 1) j (by simpa using hj)
        simp at this ⊢
        omega
    · rw [if_neg h]; intro j hj; simp at hj
theorem Seq.app {pv : Int} {a b : List (Int × Int × Int × List Int)} (h1 : Seq pv a) (h2 : Seq (pv + a.length) b) : Seq pv (a ++ b) := fun j hj => by
  rw [List.length_append] at hj
  rw [List.getD]
  by_cases h : j < a.length
  · rw [List.getElem?_append_left h]; exact h1 j h
  · rw [List.getElem?_append_right (by omega)]
    have := h2 (j - a.length) (by omega)
    rw [List.getD] at this
    rw [this]; omega
theorem cutL_pre (bi : Int) (es : List (Int × Int × Int × List Int)) (i : Int) : ∃ n, cutL bi es i = es.take n := by
  unfold cutL; split
  · exact ⟨_, rfl⟩
  · exact ⟨es.length, (List.take_length).symm⟩
theorem folL_seq (h : Seq bi es) : ∀ l2, Seq bi (folL bi es l2)
  | [] => h
  | e :: r => by
    show Seq bi (cutL bi es e.1 ++ (e :: r).take (runN (bi + (cutL bi es e.1).length) (e :: r)))
    obtain ⟨n, hn⟩ := cutL_pre bi es e.1
    refine Seq.app (by rw [hn]; exact h.take n) (seq_run _ _)
theorem folL_mem : ∀ l2, ∀ e ∈ folL bi es l2, e ∈ es ∨ e ∈ l2
  | [], e, h => .inl h
  | x :: r, e, h => by
    have h' : e ∈ cutL bi es x.1 ++ (x :: r).take (runN (bi + (cutL bi es x.1).length) (x :: r)) := h
    obtain ⟨n, hn⟩ := cutL_pre bi es x.1
    rcases List.mem_append.1 h' with h' | h'
    · rw [hn] at h'; exact .inl (List.mem_of_mem_take h')
    · exact .inr (List.mem_of_mem_take h')
theorem folR_l2 (prev bi : Int) (es ls : List (Int × Int × Int × List Int)) : (folR prev bi es ls).1.length ≤ ls.length := by
  unfold folR
  rw [List.length_drop, List.length_take]; omega
theorem st_fol {prev : Int} {ls l2 es' : List (Int × Int × Int × List Int)} {last : Int} (h : StOk M bi bt cf d es) (hg : ∀ e ∈ ls, EG e) (hl : ls.length ≤ 6) (hR : folR prev bi es ls = (l2, es', last)) (hM : M + 11 ≤ 400 := by omega) {N : Nat} (hN : N = M + 11 := by omega) : StOk N bi bt cf d es' := by
  subst hN
  have e : es' = (folR prev bi es ls).2.1 := by rw [hR]
  have hlen := folR_len (prev := prev) (bi := bi) (es := es) (ls := ls)
  rw [← e] at hlen
  refine ⟨h.bi0, by have := h.m; omega, h.bt0, h.cf, h.d, by rw [e]; exact folL_seq h.seq _, fun x hx => ?_, hM⟩
  rw [e] at hx
  rcases folL_mem _ x hx with hx | hx
  · exact h.g x hx
  · exact hg x (List.mem_of_mem_take (List.mem_of_mem_drop hx))
theorem st_add {tm kd : Int} {dd : List Int} (h : StOk M bi bt cf d es) (ht : 0 ≤ tm ∧ tm ≤ 255) (hd : DG kd dd) (hM : M + 11 ≤ 400 := by omega) {N : Nat} (hN : N = M + 11 := by omega) : StOk N bi bt cf d (es ++ [(bi + es.length + 1, tm, kd, dd)]) := by
  subst hN
  refine ⟨h.bi0, by have := h.m; rw [List.length_append]; show bi + ((es.length + 1 : Nat) : Int) ≤ _; omega, h.bt0, h.cf, h.d, h.seq.app (fun j hj => by
    obtain rfl : j = 0 := by simpa using hj
    show bi + es.length + 1 = bi + es.length + 1 + ((0 : Nat) : Int)
    omega), fun x hx => ?_, hM⟩
  rcases List.mem_append.1 hx with hx | hx
  · exact h.g x hx
  · rw [List.mem_singleton.1 hx]; exact ⟨ht.1, ht.2, hd⟩
theorem st_com {k : Nat} {att ei et ek : Int} {ed dd : List Int} (h : StOk M bi bt cf d es) (hes : es[k]? = some (ei, et, ek, ed)) (hi : att = bi + 1 + k) (hd : dd.length ≤ 6) (hM : M + 11 ≤ 400 := by omega) {N : Nat} (hN : N = M + 11 := by omega) : StOk N att et (confL cf es att) dd (es.drop (k + 1)) := by
  subst hN
  have hk := (List.getElem?_eq_some_iff.1 hes).1
  have hg := h.g _ (List.mem_of_getElem? hes)
  have hs := h.seq.drop (k + 1)
  refine ⟨by have := h.bi0; omega, by have := h.m; rw [List.length_drop]; omega, ⟨hg.1, hg.2.1⟩, confL_len9 h.cf _ _, hd, fun j hj => by have := hs j hj; omega, fun e he => h.g e (List.mem_of_mem_drop he), hM⟩
theorem st_res {nb xb : Int} {dd : List Int} (h : StOk M bi bt cf d es) (h1 : bi + es.length ≤ nb) (h2 : nb ≤ bi + es.length + 4) (h3 : 0 ≤ xb ∧ xb ≤ 255) (hd : dd.length ≤ 6) (hM : M + 11 ≤ 400 := by omega) {N : Nat} (hN : N = M + 11 := by omega) : StOk N nb xb [0, 2] dd [] := by
  subst hN
  exact ⟨by have := h.bi0; omega, by have := h.m; show nb + ((0 : Nat) : Int) ≤ _; omega, h3, by decide, hd, fun j hj => by simp at hj, fun e he => (by cases he), hM⟩
theorem st_new {bi bt : Int} {esx : List (Int × Int × Int × List Int)} (hg : ∀ e ∈ esx, EG e) (hl : esx.length ≤ 12) (hb : 0 ≤ bi ∧ bi ≤ 19) (ht : 0 ≤ bt ∧ bt ≤ 2) : StOk 40 bi bt [0, 1, 2] [] (esx.take (runN bi esx)) :=
  ⟨hb.1, by rw [List.length_take]; omega, by omega, by decide, by decide, seq_run _ _, fun e he => hg e (List.mem_of_mem_take he), by decide⟩
theorem term_past {i : Int} (hb : bi ≤ bi + es.length) (h : bi + es.length < i) : termL bi bt es i = -1 := by
  unfold termL
  rw [if_neg (by omega), if_neg (by unfold inB; omega)]
end
end Go.Proofs.Ytmdckdhogbbhlaa.K
