/- The reference's log: what writes it. -/
import Derived.Test.YtmdckdhogbbhlaaLog12
namespace Go.Proofs.Ytmdckdhogbbhlaa.K
open Go.ChangeShapes Go.WideShapes Go.ChangeAt Go.RowKit
set_option linter.unusedVariables false
set_option linter.unusedSimpArgs false

theorem sz28rre : (Try.prog.info? 28).map (·.size) = some 4 := by kernel_rfl
theorem sz29rre : (Try.prog.info? 29).map (·.size) = some 1 := by kernel_rfl
theorem fl32rad : flatS Try.prog 32 [.int .i64 0, .int .i64 0, .int .i64 0, .slice none 0 0] = true := by kernel_rfl
theorem inf5rad : (Try.prog.info? 5).map (fun i => (i.zero, i.size, i.bytes)) = some (some (.int .u8 0), 1, 1) := by kernel_rfl
theorem inf32rad : (Try.prog.info? 32).map (fun i => (i.zero, i.size, i.bytes)) = some (some (.agg #[.int .i64 0, .int .i64 0, .int .i64 0, .slice none 0 0]), 4, 48) := by kernel_rfl
theorem sz29rad : (Try.prog.info? 29).map (·.size) = some 1 := by kernel_rfl
theorem sz32rad : (Try.prog.info? 32).map (·.size) = some 4 := by kernel_rfl
theorem zc32rad : ((Try.prog.info? 32).bind (·.zero)).map (·.cells.toList) = some [.int .i64 0, .int .i64 0, .int .i64 0, .slice none 0 0] := by kernel_rfl
theorem fl28rco : flatS Try.prog 28 [.int .i64 0, .int .i64 0, .slice none 0 0, .slice none 0 0] = true := by kernel_rfl
theorem inf5rco : (Try.prog.info? 5).map (fun i => (i.zero, i.size, i.bytes)) = some (some (.int .u8 0), 1, 1) := by kernel_rfl
theorem inf32rco : (Try.prog.info? 32).map (fun i => (i.zero, i.size, i.bytes)) = some (some (.agg #[.int .i64 0, .int .i64 0, .int .i64 0, .slice none 0 0]), 4, 48) := by kernel_rfl
theorem sz28rco : (Try.prog.info? 28).map (·.size) = some 4 := by kernel_rfl
theorem sz29rco : (Try.prog.info? 29).map (·.size) = some 1 := by kernel_rfl
theorem sz32rco : (Try.prog.info? 32).map (·.size) = some 4 := by kernel_rfl
theorem zc28rco : ((Try.prog.info? 28).bind (·.zero)).map (·.cells.toList) = some [.int .i64 0, .int .i64 0, .slice none 0 0, .slice none 0 0] := by kernel_rfl
theorem inf32rfo : (Try.prog.info? 32).map (fun i => (i.zero, i.size, i.bytes)) = some (some (.agg #[.int .i64 0, .int .i64 0, .int .i64 0, .slice none 0 0]), 4, 48) := by kernel_rfl
theorem sz29rfo : (Try.prog.info? 29).map (·.size) = some 1 := by kernel_rfl
theorem sz32rfo : (Try.prog.info? 32).map (·.size) = some 4 := by kernel_rfl

theorem SrcOk.lenEq {S : Nat → Prop} {w : World} {p : Option Addr} {n n' c mm : Nat} {rows : List (List D)} (h : SrcOk S w (.slice p n c) mm rows) (e : n = n') : SrcOk S w (.slice p n' c) mm rows := e ▸ h
theorem ref_snoc {bi bt p : Int} {es ls : List (Int × Int × Int × List Int)} {q k : Nat} (h : ∀ j, j < k → termL bi bt es (p + 1 + j) = (ls.getD (q + j) e0).2.1) (hk : termL bi bt es (p + 1 + k) = (ls.getD (q + k) e0).2.1) : ∀ j, j < k + 1 → termL bi bt es (p + 1 + j) = (ls.getD (q + j) e0).2.1 := by
  intro j hj
  rcases Nat.lt_or_ge j k with h1 | h1
  · exact h j h1
  · obtain rfl : j = k := by omega
    exact hk
def TermsOk (ls : List (Int × Int × Int × List Int)) : Prop := ∀ e ∈ ls, 0 ≤ e.2.1
theorem TermsOk.at {ls : List (Int × Int × Int × List Int)} (h : TermsOk ls) {j : Nat} (hj : j < ls.length) : 0 ≤ (ls.getD j e0).2.1 := h _ (by rw [List.getD, List.getElem?_eq_getElem hj]; exact List.getElem_mem _)
theorem ref_in {bi bt p : Int} {es ls : List (Int × Int × Int × List Int)} {q k : Nat} (ht : TermsOk ls) (hp : p ≤ bi + es.length) (h : ∀ j, j < k → termL bi bt es (p + 1 + j) = (ls.getD (q + j) e0).2.1) (hk : q + k ≤ ls.length) (hb : bi ≤ p := by omega) : p + k ≤ bi + es.length := by
  by_cases h0 : k = 0
  · omega
  · have h1 := h (k - 1) (by omega)
    have h2 := ht.at (j := q + (k - 1)) (by omega)
    unfold termL at h1
    rw [if_neg (by omega)] at h1
    by_cases hin : inB bi es (p + 1 + ((k - 1 : Nat) : Int))
    · unfold inB at hin; omega
    · rw [if_neg hin] at h1; omega
theorem fol_low {bi bt prev : Int} {es ls : List (Int × Int × Int × List Int)} (hs : Seq prev ls) (h : prev + ls.length ≤ bi) : folR prev bi es ls = ([], es, bi) := by
  have hsk : skipN bi es ls = ls.length := by
    have := skip_eq (bi := bi) (es := es) (ls := ls) (k := ls.length) (n := ls.length) (Nat.le_refl _) (Nat.le_refl _) (fun j hj => by
      unfold skipB; rw [decide_eq_true (by rw [hs j hj]; omega)]; rfl) (.inl rfl)
    rw [List.take_length] at this; exact this.symm
  unfold folR
  simp only [hs.run, hsk, List.drop_length]
  refine Prod.ext rfl (Prod.ext rfl ?_)
  show max (prev + ls.length) bi = bi
  omega
theorem fol_eq {bi bt prev p : Int} {es ls : List (Int × Int × Int × List Int)} {q s : Nat} (hs : Seq prev ls) (ht : TermsOk ls) (htl : True) (hq : q ≤ ls.length) (hp : p = prev + q) (hqb : q = 0 ∨ p = bi) (hbp : bi ≤ p) (hpl : p ≤ bi + es.length)
    (hm : ∀ j, j < s → termL bi bt es (p + 1 + j) = (ls.getD (q + j) e0).2.1) (hsl : q + s ≤ ls.length) (hst : q + s = ls.length ∨ (q + s < ls.length ∧ ¬ termL bi bt es (p + 1 + s) = (ls.getD (q + s) e0).2.1)) :
    folR prev bi es ls = (ls.drop (q + s), (if q + s = ls.length then es else es.take (p + s - bi).toNat ++ ls.drop (q + s)), prev + ls.length) := by
  have hal := ref_in ht hpl hm hsl
  have hix : ∀ j, j < ls.length → (ls.getD j e0).1 = prev + 1 + j := hs
  have hhas : ∀ j, q + j < ls.length → (hasB bi es (ls.getD (q + j) e0).1 (ls.getD (q + j) e0).2.1 = true ↔ termL bi bt es (p + 1 + j) = (ls.getD (q + j) e0).2.1) := by
    intro j hj
    have h1 := hix (q + j) hj
    have h2 := ht.at hj
    have e1 : (ls.getD (q + j) e0).1 = p + 1 + j := by rw [h1]; push_cast; omega
    unfold hasB termL
    rw [e1, if_neg (by omega)]
    by_cases hin : inB bi es (p + 1 + j)
    · rw [if_pos hin]; simp [hin]
    · rw [if_neg hin]
      constructor
      · intro h; exact absurd (of_decide_eq_true h).1 hin
      · intro h; omega
  have hsk : skipN bi es ls = q + s := by
    have := skip_eq (bi := bi) (es := es) (ls := ls) (k := ls.length) (n := q + s) (Nat.le_refl _) hsl (fun j hj => by
      unfold skipB
      by_cases hjq : j < q
      · rw [decide_eq_true (by rw [hix j (by omega)]; omega)]; rfl
      · have h3 := (hhas (j - q) (by omega)).2 (hm (j - q) (by omega))
        rw [show q + (j - q) = j by omega] at h3
        rw [h3, Bool.or_true]) (by
      rcases hst with h | ⟨h1, h2⟩
      · exact .inl h
      · refine .inr ⟨h1, ?_⟩
        unfold skipB
        have e1 := hix (q + s) h1
        rw [decide_eq_false (by rw [e1]; push_cast; omega), Bool.false_or]
        cases hb : hasB bi es (ls.getD (q + s) e0).1 (ls.getD (q + s) e0).2.1 with
        | false => rfl
        | true => exact absurd ((hhas s h1).1 hb) h2)
    rw [List.take_length] at this; exact this.symm
  unfold folR
  simp only [hs.run, hsk]
  refine Prod.ext rfl (Prod.ext ?_ ?_)
  · show folL bi es (ls.drop (q + s)) = _
    by_cases he : q + s = ls.length
    · rw [if_pos he, he, List.drop_length]; rfl
    · rw [if_neg he]
      have hlt : q + s < ls.length := by omega
      have hsd : Seq (prev + ((q + s : Nat) : Int)) (ls.drop (q + s)) := hs.drop (q + s)
      cases hx : ls.drop (q + s) with
      | nil => exfalso; have := congrArg List.length hx; rw [List.length_drop] at this; simp at this; omega
      | cons e r =>
        rw [hx] at hsd
        have he1 : e.1 = p + 1 + s := by
          have := hsd 0 (by simp)
          simp at this
          rw [this]; omega
        have hcut : cutL bi es e.1 = es.take (p + s - bi).toNat := by
          unfold cutL
          by_cases hin : inB bi es e.1
          · rw [if_pos hin]; congr 1; omega
          · rw [if_neg hin, List.take_of_length_le]
            unfold inB at hin; omega
        have hcl : (es.take (p + s - bi).toNat).length = (p + s - bi).toNat := by rw [List.length_take]; omega
        have : folL bi es (e :: r) = cutL bi es e.1 ++ (e :: r).take (runN (bi + (cutL bi es e.1).length) (e :: r)) := rfl
        rw [this, hcut, hcl, show bi + (((p + s - bi).toNat : Nat) : Int) = prev + ((q + s : Nat) : Int) by omega, hsd.run]
  · show max (prev + ls.length) bi = prev + ls.length
    omega
set_option maxRecDepth 100000
set_option maxHeartbeats 4000000
theorem rreset_fr (X : Cx) (B : Nat) (x0 x1 x2 x3 x4 : Value) (w0 : World) (bi bt : Int) (cf d : List Int) (pc pd : Option Addr) (cc cd : Nat) (m0 : MemOk X w0 [(1, .box B 41 [x0, x1, x2, x3, x4]), (5, .dat (.slice pc cf.length cc) (.ns .i64 cf)), (6, .dat (.slice pd d.length cd) (.ns .u8 d))] w0) :
    Calls Try.prog 23 #[.pointer (some ⟨B, 0, none⟩), .agg #[.int .i64 bi, .int .i64 bt, .slice pc cf.length cc, .slice pd d.length cd]] w0 fun e w' => e = .returned (.tuple #[]) ∧ MemOk X w0 [(1, .box B 41 [.int .i64 bi, .int .i64 bt, .slice pc cf.length cc, .slice pd d.length cd, .slice none (([] : List (Int × Int × Int × List Int)).map entD).length 0]), (2, .seg (.slice none (([] : List (Int × Int × Int × List Int)).map entD).length 0) 32 4 (([] : List (Int × Int × Int × List Int)).map entD)), (3, .dat (.slice pc cf.length cc) (.ns .i64 cf)), (4, .dat (.slice pd d.length cd) (.ns .u8 d))] w' := by
  refine enter (fn := Try.f23) Try.func23 rfl Try.ntmps23 rfl (fun a0 ha0 => ?_)
  simp only [List.zipIdx_cons, List.zipIdx_nil, List.map_cons, List.map_nil, Nat.reduceAdd, Nat.zero_add] at ha0
  refine wp_seq_k (fun K0 hK0 => ?_)
  refine wp_region_lit ?_
  refine wpList_plain rfl (fun K hK => ?_)
  refine e_box ha0 m0 7 (cs := [_, _, _, _]) rfl rfl rfl ?_
  clear ha0 a0 m0; intro g1 a2 w2 ha2 m2 hB2 hg2
  clear hB2 hg2
  refine hK _ _ ?_; clear hK K
  refine wpList_nil ?_
  refine hK0 _ _ ?_; clear hK0; try clear K0
  refine wp_region_lit ?_
  refine st_y ha2 rfl (y_move ha2 rfl) ?_
  clear ha2 a2; intro a3 ha3
  refine st_y ha3 rfl (y_move ha3 rfl) ?_
  clear ha3 a3; intro a4 ha4
  refine st_y ha4 rfl (y_loadBR ha4 m2 (i := 7) rfl rfl Try.underlying28 rfl sz28rre (by simp) (by dsimp only [List.drop, List.take] <;> rfl)) ?_
  clear ha4 a4; intro a5 ha5
  refine st_y ha5 rfl (y_nilCheck ha5 rfl) ?_
  clear ha5 a5; intro a6 ha6
  refine st_y ha6 rfl (y_fieldAddr ha6 (off := 0) rfl Try.underlying41 rfl (s := 3) (by kernel_rfl) rfl) ?_
  clear ha6 a6; intro a7 ha7
  refine wpList_plain rfl (fun K hK => ?_)
  refine e_storeR ha7 m2 1 rfl rfl rfl rfl rfl sz28rre (by dsimp only [List.take, List.drop, List.append_eq, List.append] <;> rfl) ?_
  clear m2; intro w8 m8 hB8
  clear hB8
  refine hK _ _ ?_; clear hK K
  refine st_y ha7 rfl (y_nilCheck ha7 rfl) ?_
  clear ha7 a7; intro a9 ha9
  refine st_y ha9 rfl (y_fieldAddr ha9 (off := 4) rfl Try.underlying41 rfl (s := 0) (by kernel_rfl) rfl) ?_
  clear ha9 a9; intro a10 ha10
  refine wpList_plain rfl (fun K hK => ?_)
  refine e_store1 ha10 m8 1 rfl rfl rfl rfl rfl sz29rre (by dsimp only [List.set] <;> rfl) ?_
  clear m8; intro w11 m11 hB11
  clear hB11
  refine hK _ _ ?_; clear hK K
  refine wpList_nil ?_
  try dsimp only [Exit.then]
  try refine out_here ?_
  refine (ret0 (fn := Try.f23) ha10 rfl ?_)
  have m12 := m11.nilS 2 32 4; clear m11
  exact ⟨rfl, m12.ren [(1, 1), (2, 2), (3, 5), (4, 6)] (by decide)⟩
theorem radd_fr (X : Cx) (B : Nat) (bi bt : Int) (cf d : List Int) (es : List (Int × Int × Int × List Int)) (pc pd pl : Option Addr) (cc cd cl : Nat) (tm kd : Int) (dd : List Int) (pa : Option Addr) (ca : Nat) (w0 : World) (hbi : -1000000000000000000 ≤ bi ∧ bi ≤ 1000000000000000000) (hn : es.length ≤ 1000000) (hdd : dd.length ≤ 140737488351232) (m0 : MemOk X w0 [(1, .box B 41 [.int .i64 bi, .int .i64 bt, .slice pc cf.length cc, .slice pd d.length cd, .slice pl (es.map entD).length cl]), (2, .seg (.slice pl (es.map entD).length cl) 32 4 (es.map entD)), (3, .dat (.slice pc cf.length cc) (.ns .i64 cf)), (4, .dat (.slice pd d.length cd) (.ns .u8 d)), (5, .dat (.slice pa dd.length ca) (.ns .u8 dd))] w0) :
    Calls Try.prog 18 #[.pointer (some ⟨B, 0, none⟩), .int .i64 tm, .int .i64 kd, .slice pa dd.length ca] w0 fun e w' => ∃ (pl' : Option Addr) (cl' : Nat) (pr : Option Addr) (cr : Nat), e = .returned (.agg #[.int .i64 (bi + es.length + 1), .int .i64 tm, .int .i64 kd, .slice pr dd.length cr]) ∧ MemOk X w0 [(1, .box B 41 [.int .i64 bi, .int .i64 bt, .slice pc cf.length cc, .slice pd d.length cd, .slice pl' ((es ++ [(bi + es.length + 1, tm, kd, dd)]).map entD).length cl']), (2, .seg (.slice pl' ((es ++ [(bi + es.length + 1, tm, kd, dd)]).map entD).length cl') 32 4 ((es ++ [(bi + es.length + 1, tm, kd, dd)]).map entD)), (3, .dat (.slice pc cf.length cc) (.ns .i64 cf)), (4, .dat (.slice pd d.length cd) (.ns .u8 d)), (5, .dat (.slice pr dd.length cr) (.ns .u8 dd))] w' := by
  refine enter (fn := Try.f18) Try.func18 rfl Try.ntmps18 rfl (fun a0 ha0 => ?_)
  simp only [List.zipIdx_cons, List.zipIdx_nil, List.map_cons, List.map_nil, Nat.reduceAdd, Nat.zero_add] at ha0
  have hml : (es.map entD).length = es.length := List.length_map _
  refine wp_seq_k (fun K0 hK0 => ?_)
  refine wp_region_lit ?_
  refine wpList_plain rfl (fun K hK => ?_)
  refine e_alloc ha0 m0 6 zc32rad rfl ?_
  clear ha0 a0 m0; intro g1 a2 w2 ha2 m2 hB2 hg2
  clear hB2 hg2
  refine hK _ _ ?_; clear hK K
  refine wpList_nil ?_
  refine hK0 _ _ ?_; clear hK0; try clear K0
  refine wp_seq_k (fun K1 hK1 => ?_)
  refine wp_region_lit ?_
  refine st_y ha2 rfl (y_move ha2 rfl) ?_
  clear ha2 a2; intro a3 ha3
  refine wpList_plain rfl (fun K hK => ?_)
  refine e_call ha3 Try.func21 rfl rfl rfl rfl (rlast_any _ _ _ cf d es _ _ _ _ _ _ _ (m2.ok 1 _ rfl : Res.ok _ _ _ _ (.box _ _ _)).1 ((m2.ok 2 _ rfl : Res.ok _ _ _ _ (.seg _ _ _ _)).1.rd (S' := fun _ => True) (fun _ _ _ => trivial) (fun _ _ => trivial)) (by omega) (by omega)) ?_
  rintro e w4 ⟨rfl, hb4⟩
  have m5 := m2.later hb4
  clear m2
  clear hb4
  refine ⟨_, rfl, fun a6 ha6 => ?_⟩; clear ha3 a3
  refine hK _ _ ?_; clear hK K
  refine st_y ha6 rfl (y_add ha6 rfl rfl (r := bi + es.length + 1) (IntWalk.i64_in _ (by omega))) ?_
  clear ha6 a6; intro a7 ha7
  refine st_y ha7 rfl (y_move ha7 rfl) ?_
  clear ha7 a7; intro a8 ha8
  refine st_y ha8 rfl (y_move ha8 rfl) ?_
  clear ha8 a8; intro a9 ha9
  refine st_y ha9 rfl (y_move ha9 rfl) ?_
  clear ha9 a9; intro a10 ha10
  refine wpList_plain rfl (fun K hK => ?_)
  refine e_app0M ha10 m5 7 rfl rfl (m5.nums (i := 5) rfl) Try.underlying23 inf5rad (by decide) (by omega) rfl ?_
  clear ha10 a10 m5; intro p11 c11 a12 w12 ha12 m12 
  refine hK _ _ ?_; clear hK K
  refine st_y ha12 rfl (y_build ha12 rfl zc32rad fl32rad rfl (by dsimp only [setL, List.set] <;> rfl)) ?_
  clear ha12 a12; intro a13 ha13
  refine wpList_plain rfl (fun K hK => ?_)
  refine e_alloc ha13 m12 8 zc32rad rfl ?_
  clear ha13 a13 m12; intro g14 a15 w15 ha15 m15 hB15 hg15
  clear hB15 hg15
  refine hK _ _ ?_; clear hK K
  refine wpList_plain rfl (fun K hK => ?_)
  refine e_storeW ha15 m15 8 rfl rfl rfl rfl rfl sz32rad ?_
  clear m15; intro w16 m16 hB16
  clear hB16
  refine hK _ _ ?_; clear hK K
  refine wpList_nil ?_
  refine hK1 _ _ ?_; clear hK1; try clear K1
  refine wp_seq_k (fun K2 hK2 => ?_)
  have ha17 : Has 30 [(0, _), (8, _), (9, _)] a15 := ha15.only [0, 8, 9]; clear ha15
  have m18 : MemOk _ _ [(1, _), (2, _), (3, _), (4, _), (5, _), (6, _), (7, _), (8, _)] _ := m16.only [1, 2, 3, 4, 5, 6, 7, 8]; clear m16
  refine region_m 11 (B := [(1, _), (8, _)]) (m18.to ⟨.inl rfl, .inl rfl, trivial⟩) m18 (by kernel_rfl) (fun w19 mB19 m19 => ?_); clear m18 mB19
  refine d_y 0 ha17 rfl rfl (fun _ => (m19.to ⟨.inl rfl, .inl rfl, trivial⟩)) (by kernel_rfl) (by kernel_rfl) (by kernel_rfl) (by rfl) (fun _ _ _ h => h) (fun W => y_move ha17 rfl) ?_
  clear ha17 a15; intro a20 ha20
  refine d_y 1 ha20 rfl rfl (fun _ => (m19.to ⟨.inl rfl, .inl rfl, trivial⟩)) (by kernel_rfl) (by kernel_rfl) (by kernel_rfl) (by rfl) (fun _ _ _ h => h) (fun W => y_move ha20 rfl) ?_
  clear ha20 a20; intro a21 ha21
  refine d_y 2 ha21 rfl rfl (fun _ => (m19.to ⟨.inl rfl, .inl rfl, trivial⟩)) (by kernel_rfl) (by kernel_rfl) (by kernel_rfl) (by rfl) (fun _ _ _ h => h) (fun W => y_nilCheck ha21 rfl) ?_
  clear ha21 a21; intro a22 ha22
  refine d_y 3 ha22 rfl rfl (fun _ => (m19.to ⟨.inl rfl, .inl rfl, trivial⟩)) (by kernel_rfl) (by kernel_rfl) (by kernel_rfl) (by rfl) (fun _ _ _ h => h) (fun W => y_fieldAddr ha22 (off := 4) rfl Try.underlying41 rfl (s := 0) (by kernel_rfl) rfl) ?_
  clear ha22 a22; intro a23 ha23
  refine d_r 4 ha23 rfl rfl (m19.to ⟨.inl rfl, .inl rfl, trivial⟩) (by kernel_rfl) (by kernel_rfl) (by kernel_rfl) (by kernel_rfl) (by kernel_rfl) (fun _ _ _ h => h) (fun W hW => y_loadB1 ha23 hW (i := 1) rfl rfl rfl Try.underlying29 rfl) ?_
  clear ha23 a23; intro a24 ha24
  refine d_r 6 ha24 rfl rfl (m19.to ⟨.inl rfl, .inl rfl, trivial⟩) (by kernel_rfl) (by kernel_rfl) (by kernel_rfl) (by kernel_rfl) (by kernel_rfl) (fun _ _ _ h => h) (fun W hW => y_loadBR ha24 hW (i := 8) rfl rfl Try.underlying32 rfl sz32rad (by simp) (by dsimp only [List.drop, List.take] <;> rfl)) ?_
  clear ha24 a24; intro a25 ha25
  refine d_two 5 7 rfl rfl (by kernel_rfl) rfl rfl (fun K hK => ?_) (fun K hK => ?_)
  · skip
    have m26 := m19.nilS 9 32 4; clear m19
    refine e_appSA ha25 m26 9 rfl rfl rfl (m26.srcS (i := 2) rfl) Try.underlying29 inf32rad rfl rfl (by decide) (by simp; omega) rfl ?_
    clear ha25 a25 m26; intro p27 c27 a28 w28 ha28 m28 
    refine hK _ _ (fun _ => (m28.to ⟨.inl rfl, .inl rfl, trivial⟩)) ?_; clear hK K
    have m30 := m28.freezeN 7 rfl; clear m28
    refine stepE_only 7 rfl (by kernel_rfl) rfl (fun K hK => ?_)
    refine e_litR ha28 m30 10 (mm := 4) rfl (.cons rfl rfl (.cons (.v _) (.cons (.v _) (.cons (.v _) (.cons (m30.rd (i := 7) rfl) .nil)))) <| .nil) Try.underlying29 inf32rad rfl rfl rfl rfl rfl ?_
    clear ha28 a28 m30; intro g29 a31 w31 ha31 m31 
    refine hK _ _ (m31.to ⟨.inl rfl, .inl rfl, trivial⟩) ?_; clear hK K
    have m33 := m31.freezeR 10 rfl; clear m31
    refine stepE_only 8 rfl (by kernel_rfl) rfl (fun K hK => ?_)
    refine e_appSA ha31 m33 9 rfl rfl rfl (m33.rd (i := 10) rfl).cells Try.underlying29 inf32rad rfl rfl (by decide) (by simp; omega) rfl ?_
    clear ha31 a31 m33; intro p32 c32 a34 w34 ha34 m34 
    refine hK _ _ (m34.to ⟨.inl rfl, .inl rfl, trivial⟩) ?_; clear hK K
    refine d_y 9 ha34 rfl rfl (fun _ => (m34.to ⟨.inl rfl, .inl rfl, trivial⟩)) (by kernel_rfl) (by kernel_rfl) (by kernel_rfl) (by rfl) (fun _ _ _ h => h) (fun W => y_nilCheck ha34 rfl) ?_
    clear ha34 a34; intro a35 ha35
    refine d_y 10 ha35 rfl rfl (fun _ => (m34.to ⟨.inl rfl, .inl rfl, trivial⟩)) (by kernel_rfl) (by kernel_rfl) (by kernel_rfl) (by rfl) (fun _ _ _ h => h) (fun W => y_fieldAddr ha35 (off := 4) rfl Try.underlying41 rfl (s := 0) (by kernel_rfl) rfl) ?_
    clear ha35 a35; intro a36 ha36
    refine stepE_end 11 rfl (by kernel_rfl) rfl (by rfl) (fun K hK => ?_)
    refine e_store1 ha36 m34 1 rfl rfl rfl rfl rfl sz29rad (by dsimp only [List.set] <;> rfl) ?_
    clear m34; intro w37 m37 hB37
    clear hB37
    refine hK _ _ ?_; clear hK K
    refine wpAnyE_done (by kernel_rfl) ?_ _
    refine hK2 _ _ ?_; clear hK2; try clear K2
    refine wp_seq_k (fun K3 hK3 => ?_)
    have ha38 : Has 30 [(8, _), (9, _)] a36 := ha36.only [8, 9]; clear ha36
    refine wp_region_lit ?_
    refine st_y ha38 rfl (y_loadBR ha38 m37 (i := 8) rfl rfl Try.underlying32 rfl sz32rad (by simp) (by dsimp only [List.drop, List.take] <;> rfl)) ?_
    clear ha38 a36; intro a39 ha39
    refine wpList_plain rfl (fun K hK => ?_)
    refine e_storeW ha39 m37 6 rfl rfl rfl rfl rfl sz32rad ?_
    clear m37; intro w40 m40 hB40
    clear hB40
    refine hK _ _ ?_; clear hK K
    refine wpList_nil ?_
    refine hK3 _ _ ?_; clear hK3; try clear K3
    refine wp_ret ?_
    try dsimp only [Exit.then, Exit.inBlock]
    refine (retC (fn := Try.f18) ha39 m40 (i := 6) rfl rfl rfl Try.underlying32 rfl sz32rad ?_)
    have hE : [] ++ es.map entD ++ [[D.v (.int .i64 (bi + es.length + 1)), .v (.int .i64 tm), .v (.int .i64 kd), .ns .u8 dd]] = (es ++ [(bi + es.length + 1, tm, kd, dd)]).map entD := by rw [List.nil_append, List.map_append]; rfl
    rw [hE] at m40
    exact ⟨_, _, _, _, rfl, m40.ren [(1, 1), (2, 9), (3, 3), (4, 4), (5, 7)] (by decide)⟩
  · skip
    have m42 := m19.freezeN 7 rfl; clear m19
    refine e_litR ha25 m42 9 (mm := 4) rfl (.cons rfl rfl (.cons (.v _) (.cons (.v _) (.cons (.v _) (.cons (m42.rd (i := 7) rfl) .nil)))) <| .nil) Try.underlying29 inf32rad rfl rfl rfl rfl rfl ?_
    clear ha25 a25 m42; intro g41 a43 w43 ha43 m43 
    refine hK _ _ (fun _ => (m43.to ⟨.inl rfl, .inl rfl, trivial⟩)) ?_; clear hK K
    have m44 := m43.nilS 10 32 4; clear m43
    refine stepE_only 5 rfl (by kernel_rfl) rfl (fun K hK => ?_)
    refine e_appSA ha43 m44 10 rfl rfl rfl (m44.srcS (i := 2) rfl) Try.underlying29 inf32rad rfl rfl (by decide) (by simp; omega) rfl ?_
    clear ha43 a43 m44; intro p45 c45 a46 w46 ha46 m46 
    refine hK _ _ (m46.to ⟨.inl rfl, .inl rfl, trivial⟩) ?_; clear hK K
    have m48 := m46.freezeR 9 rfl; clear m46
    refine stepE_only 8 rfl (by kernel_rfl) rfl (fun K hK => ?_)
    refine e_appSA ha46 m48 10 rfl rfl rfl (m48.rd (i := 9) rfl).cells Try.underlying29 inf32rad rfl rfl (by decide) (by simp; omega) rfl ?_
    clear ha46 a46 m48; intro p47 c47 a49 w49 ha49 m49 
    refine hK _ _ (m49.to ⟨.inl rfl, .inl rfl, trivial⟩) ?_; clear hK K
    refine d_y 9 ha49 rfl rfl (fun _ => (m49.to ⟨.inl rfl, .inl rfl, trivial⟩)) (by kernel_rfl) (by kernel_rfl) (by kernel_rfl) (by rfl) (fun _ _ _ h => h) (fun W => y_nilCheck ha49 rfl) ?_
    clear ha49 a49; intro a50 ha50
    refine d_y 10 ha50 rfl rfl (fun _ => (m49.to ⟨.inl rfl, .inl rfl, trivial⟩)) (by kernel_rfl) (by kernel_rfl) (by kernel_rfl) (by rfl) (fun _ _ _ h => h) (fun W => y_fieldAddr ha50 (off := 4) rfl Try.underlying41 rfl (s := 0) (by kernel_rfl) rfl) ?_
    clear ha50 a50; intro a51 ha51
    refine stepE_end 11 rfl (by kernel_rfl) rfl (by rfl) (fun K hK => ?_)
    refine e_store1 ha51 m49 1 rfl rfl rfl rfl rfl sz29rad (by dsimp only [List.set] <;> rfl) ?_
    clear m49; intro w52 m52 hB52
    clear hB52
    refine hK _ _ ?_; clear hK K
    refine wpAnyE_done (by kernel_rfl) ?_ _
    refine hK2 _ _ ?_; clear hK2; try clear K2
    refine wp_seq_k (fun K4 hK4 => ?_)
    have ha53 : Has 30 [(8, _), (9, _)] a51 := ha51.only [8, 9]; clear ha51
    refine wp_region_lit ?_
    refine st_y ha53 rfl (y_loadBR ha53 m52 (i := 8) rfl rfl Try.underlying32 rfl sz32rad (by simp) (by dsimp only [List.drop, List.take] <;> rfl)) ?_
    clear ha53 a51; intro a54 ha54
    refine wpList_plain rfl (fun K hK => ?_)
    refine e_storeW ha54 m52 6 rfl rfl rfl rfl rfl sz32rad ?_
    clear m52; intro w55 m55 hB55
    clear hB55
    refine hK _ _ ?_; clear hK K
    refine wpList_nil ?_
    refine hK4 _ _ ?_; clear hK4; try clear K4
    refine wp_ret ?_
    try dsimp only [Exit.then, Exit.inBlock]
    refine (retC (fn := Try.f18) ha54 m55 (i := 6) rfl rfl rfl Try.underlying32 rfl sz32rad ?_)
    have hE : [] ++ es.map entD ++ [[D.v (.int .i64 (bi + es.length + 1)), .v (.int .i64 tm), .v (.int .i64 kd), .ns .u8 dd]] = (es ++ [(bi + es.length + 1, tm, kd, dd)]).map entD := by rw [List.nil_append, List.map_append]; rfl
    rw [hE] at m55
    exact ⟨_, _, _, _, rfl, m55.ren [(1, 1), (2, 10), (3, 3), (4, 4), (5, 7)] (by decide)⟩
theorem rcompact_no (X : Cx) (B : Nat) (bi bt : Int) (cf d : List Int) (es : List (Int × Int × Int × List Int)) (pc pd pl : Option Addr) (cc cd cl : Nat) (i : Int) (dd : List Int) (pa : Option Addr) (ca : Nat) (w0 : World) (hbi : -1000000000000000000 ≤ bi ∧ bi ≤ 1000000000000000000) (hn : es.length ≤ 1000000) (hi : i ≤ bi ∨ bi + es.length < i) (m0 : MemOk X w0 [(1, .box B 41 [.int .i64 bi, .int .i64 bt, .slice pc cf.length cc, .slice pd d.length cd, .slice pl (es.map entD).length cl]), (2, .seg (.slice pl (es.map entD).length cl) 32 4 (es.map entD)), (3, .dat (.slice pc cf.length cc) (.ns .i64 cf)), (4, .dat (.slice pd d.length cd) (.ns .u8 d)), (5, .dat (.slice pa dd.length ca) (.ns .u8 dd))] w0) :
    Calls Try.prog 20 #[.pointer (some ⟨B, 0, none⟩), .int .i64 i, .slice pa dd.length ca] w0 fun e w' => e = .returned (.bool false) ∧ MemOk X w0 [(1, .box B 41 [.int .i64 bi, .int .i64 bt, .slice pc cf.length cc, .slice pd d.length cd, .slice pl (es.map entD).length cl]), (2, .seg (.slice pl (es.map entD).length cl) 32 4 (es.map entD)), (3, .dat (.slice pc cf.length cc) (.ns .i64 cf)), (4, .dat (.slice pd d.length cd) (.ns .u8 d))] w' := by
  refine enter (fn := Try.f20) Try.func20 rfl Try.ntmps20 rfl (fun a0 ha0 => ?_)
  simp only [List.zipIdx_cons, List.zipIdx_nil, List.map_cons, List.map_nil, Nat.reduceAdd, Nat.zero_add] at ha0
  have hml : (es.map entD).length = es.length := List.length_map _
  refine wp_seq_k (fun K0 hK0 => ?_)
  refine wp_region_lit ?_
  refine st_y ha0 rfl (y_assign ha0 rfl) ?_
  clear ha0 a0; intro a1 ha1
  refine wpList_nil ?_
  refine hK0 _ _ ?_; clear hK0; try clear K0
  refine wp_seq_k (fun K1 hK1 => ?_)
  refine wp_seq_k (fun K2 hK2 => ?_)
  refine wp_region_lit ?_
  refine st_y ha1 rfl (y_move ha1 rfl) ?_
  clear ha1 a1; intro a2 ha2
  refine st_y ha2 rfl (y_move ha2 rfl) ?_
  clear ha2 a2; intro a3 ha3
  refine st_y ha3 rfl (y_nilCheck ha3 rfl) ?_
  clear ha3 a3; intro a4 ha4
  refine st_y ha4 rfl (y_fieldAddr ha4 (off := 0) rfl Try.underlying41 rfl (s := 3) (by kernel_rfl) rfl) ?_
  clear ha4 a4; intro a5 ha5
  refine st_y ha5 rfl (y_fieldAddr ha5 (off := 0) rfl Try.underlying28 rfl (s := 0) (by kernel_rfl) rfl) ?_
  clear ha5 a5; intro a6 ha6
  refine st_y ha6 rfl (y_loadB1 ha6 m0 (i := 1) rfl rfl rfl Try.underlying3 rfl) ?_
  clear ha6 a6; intro a7 ha7
  refine st_y ha7 rfl (y_leq ha7 rfl rfl) ?_
  clear ha7 a7; intro a8 ha8
  refine st_y ha8 rfl (y_move ha8 rfl) ?_
  clear ha8 a8; intro a9 ha9
  refine bool_cases ha9 (t := 15) rfl (fun hb10 ha10 => ?_) (fun hb10 ha10 => ?_)
  · skip
    clear ha9
    try simp only [decide_eq_true_eq, decide_eq_false_iff_not, Bool.not_eq_true, Bool.not_eq_false, Bool.not_eq_eq_eq_not, Bool.not_true, Bool.not_false, Bool.not_not, Int.not_lt, Int.not_le, ne_eq, Decidable.not_not] at hb10
    refine st_skip ha10 rfl rfl rfl rfl ?_
    clear ha10 a9; intro a11 ha11
    refine st_skip ha11 rfl rfl rfl rfl ?_
    clear ha11 a11; intro a12 ha12
    refine st_skip ha12 rfl rfl rfl rfl ?_
    clear ha12 a12; intro a13 ha13
    refine st_skip ha13 rfl rfl rfl rfl ?_
    clear ha13 a13; intro a14 ha14
    refine st_y ha14 rfl (y_pickT ha14 rfl rfl) ?_
    clear ha14 a14; intro a15 ha15
    refine wpList_nil ?_
    refine hK2 _ _ ?_; clear hK2; try clear K2
    refine wp_cond_true (ha15.ev (x := .tmp 20) rfl) ?_
    refine wp_seq_k (fun K3 hK3 => ?_)
    have ha16 : Has 51 [(0, _), (1, _), (2, _), (6, _)] a15 := ha15.only [0, 1, 2, 6]; clear ha15
    refine wp_region_lit ?_
    refine st_y ha16 rfl (y_assign ha16 rfl) ?_
    clear ha16 a15; intro a17 ha17
    refine wpList_nil ?_
    refine hK3 _ _ ?_; clear hK3; try clear K3
    refine wp_ret ?_
    try dsimp only [Exit.then, Exit.inBlock]
    refine (ret1 (fn := Try.f20) ha17 rfl rfl ?_)
    exact ⟨rfl, m0.only [1, 2, 3, 4]⟩
  · skip
    clear ha9
    try simp only [decide_eq_true_eq, decide_eq_false_iff_not, Bool.not_eq_true, Bool.not_eq_false, Bool.not_eq_eq_eq_not, Bool.not_true, Bool.not_false, Bool.not_not, Int.not_lt, Int.not_le, ne_eq, Decidable.not_not] at hb10
    refine st_g ha10 rfl rfl rfl rfl (y_move ha10 rfl) ?_
    clear ha10 a9; intro a18 ha18
    refine st_g ha18 rfl rfl rfl rfl (y_move ha18 rfl) ?_
    clear ha18 a18; intro a19 ha19
    refine st_ge ha19 rfl rfl rfl rfl (fun K hK => ?_)
    refine e_call ha19 Try.func21 rfl rfl rfl rfl (rlast_any _ _ _ cf d es _ _ _ _ _ _ _ (m0.ok 1 _ rfl : Res.ok _ _ _ _ (.box _ _ _)).1 ((m0.ok 2 _ rfl : Res.ok _ _ _ _ (.seg _ _ _ _)).1.rd (S' := fun _ => True) (fun _ _ _ => trivial) (fun _ _ => trivial)) (by omega) (by omega)) ?_
    rintro e w20 ⟨rfl, hb20⟩
    have m21 := m0.later hb20
    clear m0
    clear hb20
    refine ⟨_, rfl, fun a22 ha22 => ?_⟩; clear ha19 a19
    refine hK _ _ ?_; clear hK K
    refine st_g ha22 rfl rfl rfl rfl (y_gtr ha22 rfl rfl) ?_
    clear ha22 a22; intro a23 ha23
    refine st_y ha23 rfl (y_pickF ha23 rfl rfl) ?_
    clear ha23 a23; intro a24 ha24
    refine wpList_nil ?_
    refine hK2 _ _ ?_; clear hK2; try clear K2
    refine bool_cases ha24 (t := 20) rfl (fun hb25 ha25 => ?_) (fun hb25 ha25 => ?_)
    rotate_left
    · exact absurd hb25 (by simp at *; omega)
    clear ha24 hb25
    refine wp_cond_true (ha25.ev (x := .tmp 20) rfl) ?_
    refine wp_seq_k (fun K4 hK4 => ?_)
    have ha26 : Has 51 [(0, _), (1, _), (2, _), (6, _)] a24 := ha25.only [0, 1, 2, 6]; clear ha25
    refine wp_region_lit ?_
    refine st_y ha26 rfl (y_assign ha26 rfl) ?_
    clear ha26 a24; intro a27 ha27
    refine wpList_nil ?_
    refine hK4 _ _ ?_; clear hK4; try clear K4
    refine wp_ret ?_
    try dsimp only [Exit.then, Exit.inBlock]
    refine (ret1 (fn := Try.f20) ha27 rfl rfl ?_)
    exact ⟨rfl, m21.only [1, 2, 3, 4]⟩
theorem rcompact_yes (X : Cx) (B : Nat) (bi bt : Int) (cf d : List Int) (es : List (Int × Int × Int × List Int)) (pc pd pl : Option Addr) (cc cd cl : Nat) (k : Nat) (i : Int) (dd : List Int) (pa : Option Addr) (ca : Nat) (w0 : World) {ei et ek : Int} {ed : List Int} (hbi : -1000000000000000000 ≤ bi ∧ bi ≤ 1000000000000000000) (hn : es.length ≤ 1000000) (hdd : dd.length ≤ 140737488351232) (hcf : cf.length ≤ 900) (heb : EntsB es) (her0 : EntsR es) (hes : es[k]? = some (ei, et, ek, ed)) (hi : i = bi + 1 + k) (m0 : MemOk X w0 [(1, .box B 41 [.int .i64 bi, .int .i64 bt, .slice pc cf.length cc, .slice pd d.length cd, .slice pl (es.map entD).length cl]), (2, .seg (.slice pl (es.map entD).length cl) 32 4 (es.map entD)), (3, .dat (.slice pc cf.length cc) (.ns .i64 cf)), (4, .dat (.slice pd d.length cd) (.ns .u8 d)), (5, .dat (.slice pa dd.length ca) (.ns .u8 dd))] w0) :
    Calls Try.prog 20 #[.pointer (some ⟨B, 0, none⟩), .int .i64 i, .slice pa dd.length ca] w0 fun e w' => ∃ (pc' : Option Addr) (cc' : Nat) (pd' : Option Addr) (cd' : Nat) (pl' : Option Addr) (cl' : Nat), e = .returned (.bool true) ∧ MemOk X w0 [(1, .box B 41 [.int .i64 i, .int .i64 et, .slice pc' (confL cf es i).length cc', .slice pd' dd.length cd', .slice pl' ((es.drop (k + 1)).map entD).length cl']), (2, .seg (.slice pl' ((es.drop (k + 1)).map entD).length cl') 32 4 ((es.drop (k + 1)).map entD)), (3, .dat (.slice pc' (confL cf es i).length cc') (.ns .i64 (confL cf es i))), (4, .dat (.slice pd' dd.length cd') (.ns .u8 dd))] w' := by
  have hk := (List.getElem?_eq_some_iff.1 hes).1
  refine enter (fn := Try.f20) Try.func20 rfl Try.ntmps20 rfl (fun a0 ha0 => ?_)
  simp only [List.zipIdx_cons, List.zipIdx_nil, List.map_cons, List.map_nil, Nat.reduceAdd, Nat.zero_add] at ha0
  have hml : (es.map entD).length = es.length := List.length_map _
  have htm : termL bi bt es i = et := by unfold termL; rw [if_neg (by omega), if_pos (by unfold inB; omega), show (i - bi - 1).toNat = k from by omega, List.getD, hes]; rfl
  refine wp_seq_k (fun K0 hK0 => ?_)
  refine wp_region_lit ?_
  refine st_y ha0 rfl (y_assign ha0 rfl) ?_
  clear ha0 a0; intro a1 ha1
  refine wpList_nil ?_
  refine hK0 _ _ ?_; clear hK0; try clear K0
  refine wp_seq_k (fun K1 hK1 => ?_)
  refine wp_seq_k (fun K2 hK2 => ?_)
  refine wp_region_lit ?_
  refine st_y ha1 rfl (y_move ha1 rfl) ?_
  clear ha1 a1; intro a2 ha2
  refine st_y ha2 rfl (y_move ha2 rfl) ?_
  clear ha2 a2; intro a3 ha3
  refine st_y ha3 rfl (y_nilCheck ha3 rfl) ?_
  clear ha3 a3; intro a4 ha4
  refine st_y ha4 rfl (y_fieldAddr ha4 (off := 0) rfl Try.underlying41 rfl (s := 3) (by kernel_rfl) rfl) ?_
  clear ha4 a4; intro a5 ha5
  refine st_y ha5 rfl (y_fieldAddr ha5 (off := 0) rfl Try.underlying28 rfl (s := 0) (by kernel_rfl) rfl) ?_
  clear ha5 a5; intro a6 ha6
  refine st_y ha6 rfl (y_loadB1 ha6 m0 (i := 1) rfl rfl rfl Try.underlying3 rfl) ?_
  clear ha6 a6; intro a7 ha7
  refine st_y ha7 rfl (y_leq ha7 rfl rfl) ?_
  clear ha7 a7; intro a8 ha8
  refine st_y ha8 rfl (y_move ha8 rfl) ?_
  clear ha8 a8; intro a9 ha9
  refine bool_cases ha9 (t := 15) rfl (fun hb10 ha10 => ?_) (fun hb10 ha10 => ?_)
  · exact absurd hb10 (by simp; omega)
  clear ha9 hb10
  refine st_g ha10 rfl rfl rfl rfl (y_move ha10 rfl) ?_
  clear ha10 a9; intro a11 ha11
  refine st_g ha11 rfl rfl rfl rfl (y_move ha11 rfl) ?_
  clear ha11 a11; intro a12 ha12
  refine st_ge ha12 rfl rfl rfl rfl (fun K hK => ?_)
  refine e_call ha12 Try.func21 rfl rfl rfl rfl (rlast_any _ _ _ cf d es _ _ _ _ _ _ _ (m0.ok 1 _ rfl : Res.ok _ _ _ _ (.box _ _ _)).1 ((m0.ok 2 _ rfl : Res.ok _ _ _ _ (.seg _ _ _ _)).1.rd (S' := fun _ => True) (fun _ _ _ => trivial) (fun _ _ => trivial)) (by omega) (by omega)) ?_
  rintro e w13 ⟨rfl, hb13⟩
  have m14 := m0.later hb13
  clear m0
  clear hb13
  refine ⟨_, rfl, fun a15 ha15 => ?_⟩; clear ha12 a12
  refine hK _ _ ?_; clear hK K
  refine st_g ha15 rfl rfl rfl rfl (y_gtr ha15 rfl rfl) ?_
  clear ha15 a15; intro a16 ha16
  refine st_y ha16 rfl (y_pickF ha16 rfl rfl) ?_
  clear ha16 a16; intro a17 ha17
  refine wpList_nil ?_
  refine hK2 _ _ ?_; clear hK2; try clear K2
  refine bool_cases ha17 (t := 20) rfl (fun hb18 ha18 => ?_) (fun hb18 ha18 => ?_)
  · exact absurd hb18 (by simp; omega)
  clear ha17 hb18
  refine wp_cond_false (ha18.ev (x := .tmp 20) rfl) ?_
  refine wp_skip ?_
  refine hK1 _ _ ?_; clear hK1; try clear K1
  refine wp_seq_k (fun K3 hK3 => ?_)
  have ha19 : Has 51 [(0, _), (1, _), (2, _), (6, _)] a17 := ha18.only [0, 1, 2, 6]; clear ha18
  refine wp_region_lit ?_
  refine st_y ha19 rfl (y_move ha19 rfl) ?_
  clear ha19 a17; intro a20 ha20
  refine st_y ha20 rfl (y_move ha20 rfl) ?_
  clear ha20 a20; intro a21 ha21
  refine st_y ha21 rfl (y_move ha21 rfl) ?_
  clear ha21 a21; intro a22 ha22
  refine wpList_plain rfl (fun K hK => ?_)
  refine e_call ha22 Try.func12 rfl rfl rfl rfl (rterm_any _ _ _ cf d es _ _ _ _ _ _ _ _ (m14.ok 1 _ rfl : Res.ok _ _ _ _ (.box _ _ _)).1 ((m14.ok 2 _ rfl : Res.ok _ _ _ _ (.seg _ _ _ _)).1.rd (S' := fun _ => True) (fun _ _ _ => trivial) (fun _ _ => trivial)) (by omega) (by omega)) ?_
  rintro e w23 ⟨rfl, hb23⟩
  have m24 := m14.later hb23
  clear m14
  clear hb23
  refine ⟨_, rfl, fun a25 ha25 => ?_⟩; clear ha22 a22
  refine hK _ _ ?_; clear hK K
  refine st_y ha25 rfl (y_move ha25 rfl) ?_
  clear ha25 a25; intro a26 ha26
  refine st_y ha26 rfl (y_move ha26 rfl) ?_
  clear ha26 a26; intro a27 ha27
  refine wpList_plain rfl (fun K hK => ?_)
  refine e_call ha27 Try.func33 rfl rfl rfl rfl (rconf_any _ _ _ cf d es _ _ _ _ _ _ _ _ (m24.ok 1 _ rfl : Res.ok _ _ _ _ (.box _ _ _)).1 ((m24.ok 2 _ rfl : Res.ok _ _ _ _ (.seg _ _ _ _)).1.rd (S' := fun _ => True) (fun _ _ _ => trivial) (fun _ _ => trivial)) (by omega) (m24.rd (i := 3) rfl).any hcf heb her0) ?_
  rintro e w28 ⟨p28, c28, rfl, hd28, hb28⟩
  have m29 := m24.callF 6 rfl hb28 hd28
  clear m24
  clear hb28 hd28
  refine ⟨_, rfl, fun a30 ha30 => ?_⟩; clear ha27 a27
  refine hK _ _ ?_; clear hK K
  refine st_y ha30 rfl (y_move ha30 rfl) ?_
  clear ha30 a30; intro a31 ha31
  refine wpList_plain rfl (fun K hK => ?_)
  refine e_app0M ha31 m29 7 rfl rfl (m29.nums (i := 5) rfl) Try.underlying23 inf5rco (by decide) (by omega) rfl ?_
  clear ha31 a31 m29; intro p32 c32 a33 w33 ha33 m33 
  refine hK _ _ ?_; clear hK K
  refine st_y ha33 rfl (y_build ha33 rfl zc28rco fl28rco rfl (by dsimp only [setL, List.set] <;> rfl)) ?_
  clear ha33 a33; intro a34 ha34
  refine wpList_plain rfl (fun K hK => ?_)
  refine e_alloc ha34 m33 8 zc28rco rfl ?_
  clear ha34 a34 m33; intro g35 a36 w36 ha36 m36 hB36 hg36
  clear hB36 hg36
  refine hK _ _ ?_; clear hK K
  refine wpList_plain rfl (fun K hK => ?_)
  refine e_storeW ha36 m36 8 rfl rfl rfl rfl rfl sz28rco ?_
  clear m36; intro w37 m37 hB37
  clear hB37
  refine hK _ _ ?_; clear hK K
  refine wpList_nil ?_
  refine hK3 _ _ ?_; clear hK3; try clear K3
  refine wp_seq_k (fun K4 hK4 => ?_)
  have ha38 : Has 51 [(0, _), (1, _), (6, _), (7, _)] a36 := ha36.only [0, 1, 6, 7]; clear ha36
  have m39 : MemOk _ _ [(1, _), (2, _), (3, _), (4, _), (5, _), (6, _), (7, _), (8, _)] _ := m37.only [1, 2, 3, 4, 5, 6, 7, 8]; clear m37
  refine region_m 18 (B := [(1, _), (8, _)]) (m39.to ⟨.inl rfl, .inl rfl, trivial⟩) m39 (by kernel_rfl) (fun w40 mB40 m40 => ?_); clear m39 mB40
  refine d_y 0 ha38 rfl rfl (fun _ => (m40.to ⟨.inl rfl, .inl rfl, trivial⟩)) (by kernel_rfl) (by kernel_rfl) (by kernel_rfl) (by rfl) (fun _ _ _ h => h) (fun W => y_move ha38 rfl) ?_
  clear ha38 a36; intro a41 ha41
  refine d_y 1 ha41 rfl rfl (fun _ => (m40.to ⟨.inl rfl, .inl rfl, trivial⟩)) (by kernel_rfl) (by kernel_rfl) (by kernel_rfl) (by rfl) (fun _ _ _ h => h) (fun W => y_move ha41 rfl) ?_
  clear ha41 a41; intro a42 ha42
  refine d_r 2 ha42 rfl rfl (m40.to ⟨.inl rfl, .inl rfl, trivial⟩) (by kernel_rfl) (by kernel_rfl) (by kernel_rfl) (by kernel_rfl) (by kernel_rfl) (fun _ _ _ h => h) (fun W hW => y_loadBR ha42 hW (i := 8) rfl rfl Try.underlying28 rfl sz28rco (by simp) (by dsimp only [List.drop, List.take] <;> rfl)) ?_
  clear ha42 a42; intro a43 ha43
  refine d_y 3 ha43 rfl rfl (fun _ => (m40.to ⟨.inl rfl, .inl rfl, trivial⟩)) (by kernel_rfl) (by kernel_rfl) (by kernel_rfl) (by rfl) (fun _ _ _ h => h) (fun W => y_move ha43 rfl) ?_
  clear ha43 a43; intro a44 ha44
  refine d_y 4 ha44 rfl rfl (fun _ => (m40.to ⟨.inl rfl, .inl rfl, trivial⟩)) (by kernel_rfl) (by kernel_rfl) (by kernel_rfl) (by rfl) (fun _ _ _ h => h) (fun W => y_nilCheck ha44 rfl) ?_
  clear ha44 a44; intro a45 ha45
  refine d_y 5 ha45 rfl rfl (fun _ => (m40.to ⟨.inl rfl, .inl rfl, trivial⟩)) (by kernel_rfl) (by kernel_rfl) (by kernel_rfl) (by rfl) (fun _ _ _ h => h) (fun W => y_fieldAddr ha45 (off := 4) rfl Try.underlying41 rfl (s := 0) (by kernel_rfl) rfl) ?_
  clear ha45 a45; intro a46 ha46
  refine d_r 6 ha46 rfl rfl (m40.to ⟨.inl rfl, .inl rfl, trivial⟩) (by kernel_rfl) (by kernel_rfl) (by kernel_rfl) (by kernel_rfl) (by kernel_rfl) (fun _ _ _ h => h) (fun W hW => y_loadB1 ha46 hW (i := 1) rfl rfl rfl Try.underlying29 rfl) ?_
  clear ha46 a46; intro a47 ha47
  refine d_y 7 ha47 rfl rfl (fun _ => (m40.to ⟨.inl rfl, .inl rfl, trivial⟩)) (by kernel_rfl) (by kernel_rfl) (by kernel_rfl) (by rfl) (fun _ _ _ h => h) (fun W => y_move ha47 rfl) ?_
  clear ha47 a47; intro a48 ha48
  refine d_y 8 ha48 rfl rfl (fun _ => (m40.to ⟨.inl rfl, .inl rfl, trivial⟩)) (by kernel_rfl) (by kernel_rfl) (by kernel_rfl) (by rfl) (fun _ _ _ h => h) (fun W => y_move ha48 rfl) ?_
  clear ha48 a48; intro a49 ha49
  refine d_y 9 ha49 rfl rfl (fun _ => (m40.to ⟨.inl rfl, .inl rfl, trivial⟩)) (by kernel_rfl) (by kernel_rfl) (by kernel_rfl) (by rfl) (fun _ _ _ h => h) (fun W => y_nilCheck ha49 rfl) ?_
  clear ha49 a49; intro a50 ha50
  refine d_y 10 ha50 rfl rfl (fun _ => (m40.to ⟨.inl rfl, .inl rfl, trivial⟩)) (by kernel_rfl) (by kernel_rfl) (by kernel_rfl) (by rfl) (fun _ _ _ h => h) (fun W => y_fieldAddr ha50 (off := 0) rfl Try.underlying41 rfl (s := 3) (by kernel_rfl) rfl) ?_
  clear ha50 a50; intro a51 ha51
  refine d_y 11 ha51 rfl rfl (fun _ => (m40.to ⟨.inl rfl, .inl rfl, trivial⟩)) (by kernel_rfl) (by kernel_rfl) (by kernel_rfl) (by rfl) (fun _ _ _ h => h) (fun W => y_fieldAddr ha51 (off := 0) rfl Try.underlying28 rfl (s := 0) (by kernel_rfl) rfl) ?_
  clear ha51 a51; intro a52 ha52
  refine d_r 12 ha52 rfl rfl (m40.to ⟨.inl rfl, .inl rfl, trivial⟩) (by kernel_rfl) (by kernel_rfl) (by kernel_rfl) (by kernel_rfl) (by kernel_rfl) (fun _ _ _ h => h) (fun W hW => y_loadB1 ha52 hW (i := 1) rfl rfl rfl Try.underlying3 rfl) ?_
  clear ha52 a52; intro a53 ha53
  refine d_y 13 ha53 rfl rfl (fun _ => (m40.to ⟨.inl rfl, .inl rfl, trivial⟩)) (by kernel_rfl) (by kernel_rfl) (by kernel_rfl) (by rfl) (fun _ _ _ h => h) (fun W => y_sub ha53 rfl rfl (r := ((k + 1 : Nat) : Int)) (by rw [IntWalk.i64_in _ (by omega)]; omega)) ?_
  clear ha53 a53; intro a54 ha54
  refine d_y 14 ha54 rfl rfl (fun _ => (m40.to ⟨.inl rfl, .inl rfl, trivial⟩)) (by kernel_rfl) (by kernel_rfl) (by kernel_rfl) (by rfl) (fun _ _ _ h => h) (fun W => y_sliceLn ha54 (k + 1) rfl rfl Try.underlying29 sz32rco rfl (by rw [List.length_map]; omega)) ?_
  clear ha54 a54; intro a55 ha55
  have m56 := m40.nilS 9 32 4; clear m40
  refine stepE_only 15 rfl (by kernel_rfl) rfl (fun K hK => ?_)
  refine e_appSA ha55 m56 9 rfl rfl rfl (m56.sufS (i := 2) rfl (k + 1) (by rw [List.length_map]; omega)) Try.underlying29 inf32rco rfl rfl (by decide) (by simp; omega) rfl ?_
  clear ha55 a55 m56; intro p57 c57 a58 w58 ha58 m58 
  refine hK _ _ (m58.to ⟨.inl rfl, .inl rfl, trivial⟩) ?_; clear hK K
  refine d_y 16 ha58 rfl rfl (fun _ => (m58.to ⟨.inl rfl, .inl rfl, trivial⟩)) (by kernel_rfl) (by kernel_rfl) (by kernel_rfl) (by rfl) (fun _ _ _ h => h) (fun W => y_nilCheck ha58 rfl) ?_
  clear ha58 a58; intro a59 ha59
  refine d_y 17 ha59 rfl rfl (fun _ => (m58.to ⟨.inl rfl, .inl rfl, trivial⟩)) (by kernel_rfl) (by kernel_rfl) (by kernel_rfl) (by rfl) (fun _ _ _ h => h) (fun W => y_fieldAddr ha59 (off := 0) rfl Try.underlying41 rfl (s := 3) (by kernel_rfl) rfl) ?_
  clear ha59 a59; intro a60 ha60
  refine stepE_end 18 rfl (by kernel_rfl) rfl (by rfl) (fun K hK => ?_)
  refine e_storeR ha60 m58 1 rfl rfl rfl rfl rfl sz28rco (by dsimp only [List.take, List.drop, List.append_eq, List.append] <;> rfl) ?_
  clear m58; intro w61 m61 hB61
  clear hB61
  refine hK _ _ ?_; clear hK K
  refine d_y 19 ha60 rfl rfl (fun h => (Bool.false_ne_true (h.symm.trans (by rfl))).elim) (by kernel_rfl) (by kernel_rfl) (by kernel_rfl) (by rfl) (fun _ _ _ h => h) (fun W => y_nilCheck ha60 rfl) ?_
  clear ha60 a60; intro a62 ha62
  refine d_y 20 ha62 rfl rfl (fun h => (Bool.false_ne_true (h.symm.trans (by rfl))).elim) (by kernel_rfl) (by kernel_rfl) (by kernel_rfl) (by rfl) (fun _ _ _ h => h) (fun W => y_fieldAddr ha62 (off := 4) rfl Try.underlying41 rfl (s := 0) (by kernel_rfl) rfl) ?_
  clear ha62 a62; intro a63 ha63
  refine stepE_end 21 rfl (by kernel_rfl) rfl (by rfl) (fun K hK => ?_)
  refine e_store1 ha63 m61 1 rfl rfl rfl rfl rfl sz29rco (by dsimp only [List.set] <;> rfl) ?_
  clear m61; intro w64 m64 hB64
  clear hB64
  refine hK _ _ ?_; clear hK K
  refine wpAnyE_done (by kernel_rfl) ?_ _
  refine hK4 _ _ ?_; clear hK4; try clear K4
  refine wp_seq_k (fun K5 hK5 => ?_)
  have ha65 : Has 51 [(6, _)] a63 := ha63.only [6]; clear ha63
  refine wp_region_lit ?_
  refine st_y ha65 rfl (y_assign ha65 rfl) ?_
  clear ha65 a63; intro a66 ha66
  refine wpList_nil ?_
  refine hK5 _ _ ?_; clear hK5; try clear K5
  refine wp_ret ?_
  try dsimp only [Exit.then, Exit.inBlock]
  refine (ret1 (fn := Try.f20) ha66 rfl rfl ?_)
  have m67 := m64.freezeN 7 rfl; clear m64
  rw [List.nil_append, ← List.map_drop, htm] at m67
  exact ⟨_, _, _, _, _, _, rfl, m67.ren [(1, 1), (2, 9), (3, 6), (4, 7)] (by decide)⟩
theorem rfollow_no (X : Cx) (B : Nat) (bi bt : Int) (cf d : List Int) (es : List (Int × Int × Int × List Int)) (pc pd pl : Option Addr) (cc cd cl : Nat) (prev tm : Int) (ls : List (Int × Int × Int × List Int)) (pa : Option Addr) (ca : Nat) (w0 : World) (hbi : -1000000000000000000 ≤ bi ∧ bi ≤ 1000000000000000000) (hn : es.length ≤ 1000000) (hp : bi ≤ prev) (hno : ¬ termL bi bt es prev = tm) (m0 : MemOk X w0 [(1, .box B 41 [.int .i64 bi, .int .i64 bt, .slice pc cf.length cc, .slice pd d.length cd, .slice pl (es.map entD).length cl]), (2, .seg (.slice pl (es.map entD).length cl) 32 4 (es.map entD)), (3, .dat (.slice pc cf.length cc) (.ns .i64 cf)), (4, .dat (.slice pd d.length cd) (.ns .u8 d)), (5, .dat (.slice pa ls.length ca) (.l 4 (ls.map entD)))] w0) :
    Calls Try.prog 14 #[.pointer (some ⟨B, 0, none⟩), .int .i64 prev, .int .i64 tm, .slice pa ls.length ca] w0 fun e w' => e = .returned (.tuple #[.slice none 0 0, .int .i64 0, .bool false]) ∧ MemOk X w0 [(1, .box B 41 [.int .i64 bi, .int .i64 bt, .slice pc cf.length cc, .slice pd d.length cd, .slice pl (es.map entD).length cl]), (2, .seg (.slice pl (es.map entD).length cl) 32 4 (es.map entD)), (3, .dat (.slice pc cf.length cc) (.ns .i64 cf)), (4, .dat (.slice pd d.length cd) (.ns .u8 d))] w' := by
  refine enter (fn := Try.f14) Try.func14 rfl Try.ntmps14 rfl (fun a0 ha0 => ?_)
  simp only [List.zipIdx_cons, List.zipIdx_nil, List.map_cons, List.map_nil, Nat.reduceAdd, Nat.zero_add] at ha0
  refine wp_seq_k (fun K0 hK0 => ?_)
  refine wp_region_lit ?_
  refine st_y ha0 rfl (y_assign ha0 rfl) ?_
  clear ha0 a0; intro a1 ha1
  refine st_y ha1 rfl (y_assign ha1 rfl) ?_
  clear ha1 a1; intro a2 ha2
  refine st_y ha2 rfl (y_assign ha2 rfl) ?_
  clear ha2 a2; intro a3 ha3
  refine wpList_nil ?_
  refine hK0 _ _ ?_; clear hK0; try clear K0
  refine wp_seq_k (fun K1 hK1 => ?_)
  refine wp_seq_k (fun K2 hK2 => ?_)
  refine wp_region_lit ?_
  refine st_y ha3 rfl (y_move ha3 rfl) ?_
  clear ha3 a3; intro a4 ha4
  refine st_y ha4 rfl (y_move ha4 rfl) ?_
  clear ha4 a4; intro a5 ha5
  refine st_y ha5 rfl (y_nilCheck ha5 rfl) ?_
  clear ha5 a5; intro a6 ha6
  refine st_y ha6 rfl (y_fieldAddr ha6 (off := 0) rfl Try.underlying41 rfl (s := 3) (by kernel_rfl) rfl) ?_
  clear ha6 a6; intro a7 ha7
  refine st_y ha7 rfl (y_fieldAddr ha7 (off := 0) rfl Try.underlying28 rfl (s := 0) (by kernel_rfl) rfl) ?_
  clear ha7 a7; intro a8 ha8
  refine st_y ha8 rfl (y_loadB1 ha8 m0 (i := 1) rfl rfl rfl Try.underlying3 rfl) ?_
  clear ha8 a8; intro a9 ha9
  refine st_y ha9 rfl (y_lss ha9 rfl rfl) ?_
  clear ha9 a9; intro a10 ha10
  refine wpList_nil ?_
  refine hK2 _ _ ?_; clear hK2; try clear K2
  refine bool_cases ha10 (t := 20) rfl (fun hb11 ha11 => ?_) (fun hb11 ha11 => ?_)
  · exact absurd hb11 (by simp; omega)
  clear ha10 hb11
  refine wp_cond_false (ha11.ev (x := .tmp 20) rfl) ?_
  refine wp_seq_k (fun K3 hK3 => ?_)
  have ha12 : Has 104 [(0, _), (1, _), (2, _), (3, _), (8, _), (9, _), (10, _)] a10 := ha11.only [0, 1, 2, 3, 8, 9, 10]; clear ha11
  refine wp_region_lit ?_
  refine st_y ha12 rfl (y_move ha12 rfl) ?_
  clear ha12 a10; intro a13 ha13
  refine st_y ha13 rfl (y_move ha13 rfl) ?_
  clear ha13 a13; intro a14 ha14
  refine wpList_plain rfl (fun K hK => ?_)
  refine e_call ha14 Try.func12 rfl rfl rfl rfl (rterm_any _ _ _ cf d es _ _ _ _ _ _ _ _ (m0.ok 1 _ rfl : Res.ok _ _ _ _ (.box _ _ _)).1 ((m0.ok 2 _ rfl : Res.ok _ _ _ _ (.seg _ _ _ _)).1.rd (S' := fun _ => True) (fun _ _ _ => trivial) (fun _ _ => trivial)) (by omega) (by omega)) ?_
  rintro e w15 ⟨rfl, hb15⟩
  have m16 := m0.later hb15
  clear m0
  clear hb15
  refine ⟨_, rfl, fun a17 ha17 => ?_⟩; clear ha14 a14
  refine hK _ _ ?_; clear hK K
  refine st_y ha17 rfl (y_move ha17 rfl) ?_
  clear ha17 a17; intro a18 ha18
  refine st_y ha18 rfl (y_neq ha18 rfl rfl) ?_
  clear ha18 a18; intro a19 ha19
  refine wpList_nil ?_
  refine hK3 _ _ ?_; clear hK3; try clear K3
  refine bool_cases ha19 (t := 50) rfl (fun hb20 ha20 => ?_) (fun hb20 ha20 => ?_)
  rotate_left
  · exact absurd hb20 (by simp; exact hno)
  clear ha19 hb20
  refine wp_cond_true (ha20.ev (x := .tmp 50) rfl) ?_
  refine wp_seq_k (fun K4 hK4 => ?_)
  have ha21 : Has 104 [(0, _), (1, _), (3, _), (8, _), (9, _), (10, _)] a19 := ha20.only [0, 1, 3, 8, 9, 10]; clear ha20
  refine wp_region_lit ?_
  refine st_y ha21 rfl (y_assign ha21 rfl) ?_
  clear ha21 a19; intro a22 ha22
  refine st_y ha22 rfl (y_assign ha22 rfl) ?_
  clear ha22 a22; intro a23 ha23
  refine st_y ha23 rfl (y_assign ha23 rfl) ?_
  clear ha23 a23; intro a24 ha24
  refine wpList_nil ?_
  refine hK4 _ _ ?_; clear hK4; try clear K4
  refine wp_ret ?_
  try dsimp only [Exit.then, Exit.inBlock]
  refine (ret3 (fn := Try.f14) ha24 rfl rfl rfl rfl ?_)
  exact ⟨rfl, m16.only [1, 2, 3, 4]⟩
theorem rfollow_is (X : Cx) (B : Nat) (bi bt : Int) (cf d : List Int) (es : List (Int × Int × Int × List Int)) (pc pd pl : Option Addr) (cc cd cl : Nat) (prev tm : Int) (ls : List (Int × Int × Int × List Int)) (pa : Option Addr) (ca : Nat) (w0 : World) {l2 es' : List (Int × Int × Int × List Int)} {last : Int} (hbi : 0 ≤ bi ∧ bi ≤ 1000000000000000000) (hpv : 0 ≤ prev ∧ prev ≤ 1000000000000000000) (hn : es.length + ls.length ≤ 1000000) (hsq : Seq prev ls) (htm0 : TermsOk ls) (htl : True) (hyes : bi ≤ prev → prev ≤ bi + es.length ∧ termL bi bt es prev = tm) (hR : folR prev bi es ls = (l2, es', last)) (m0 : MemOk X w0 [(1, .box B 41 [.int .i64 bi, .int .i64 bt, .slice pc cf.length cc, .slice pd d.length cd, .slice pl (es.map entD).length cl]), (2, .seg (.slice pl (es.map entD).length cl) 32 4 (es.map entD)), (3, .dat (.slice pc cf.length cc) (.ns .i64 cf)), (4, .dat (.slice pd d.length cd) (.ns .u8 d)), (5, .dat (.slice pa ls.length ca) (.l 4 (ls.map entD)))] w0) :
    Calls Try.prog 14 #[.pointer (some ⟨B, 0, none⟩), .int .i64 prev, .int .i64 tm, .slice pa ls.length ca] w0 fun e w' => ∃ (pl' : Option Addr) (cl' : Nat) (pr : Option Addr) (cr : Nat), e = .returned (.tuple #[.slice pr (l2.map entD).length cr, .int .i64 last, .bool true]) ∧ MemOk X w0 [(1, .box B 41 [.int .i64 bi, .int .i64 bt, .slice pc cf.length cc, .slice pd d.length cd, .slice pl' (es'.map entD).length cl']), (2, .seg (.slice pl' (es'.map entD).length cl') 32 4 (es'.map entD)), (3, .dat (.slice pc cf.length cc) (.ns .i64 cf)), (4, .dat (.slice pd d.length cd) (.ns .u8 d)), (6, .dat (.slice pr (l2.map entD).length cr) (.l 4 (l2.map entD)))] w' := by
  refine enter (fn := Try.f14) Try.func14 rfl Try.ntmps14 rfl (fun a0 ha0 => ?_)
  simp only [List.zipIdx_cons, List.zipIdx_nil, List.map_cons, List.map_nil, Nat.reduceAdd, Nat.zero_add] at ha0
  have hml : (es.map entD).length = es.length := List.length_map _
  refine wp_seq_k (fun K0 hK0 => ?_)
  refine wp_region_lit ?_
  refine st_y ha0 rfl (y_assign ha0 rfl) ?_
  clear ha0 a0; intro a1 ha1
  refine st_y ha1 rfl (y_assign ha1 rfl) ?_
  clear ha1 a1; intro a2 ha2
  refine st_y ha2 rfl (y_assign ha2 rfl) ?_
  clear ha2 a2; intro a3 ha3
  refine wpList_nil ?_
  refine hK0 _ _ ?_; clear hK0; try clear K0
  refine wp_seq_k (fun K1 hK1 => ?_)
  have hC1 : ∀ (a : Act) (w : World), (∃ (q : Nat) (p : Int) (pq : Option Addr) (cq : Nat), q ≤ ls.length ∧ p = prev + q ∧ (q = 0 ∨ p = bi) ∧ bi ≤ p ∧ p ≤ bi + es.length ∧ Has 104 [(0, .pointer (some ⟨B, 0, none⟩)), (1, .int .i64 p), (3, .slice pq (ls.drop q).length cq)] a ∧ MemOk X w0 [(1, .box B 41 [.int .i64 bi, .int .i64 bt, .slice pc cf.length cc, .slice pd d.length cd, .slice pl (es.map entD).length cl]), (2, .seg (.slice pl (es.map entD).length cl) 32 4 (es.map entD)), (3, .dat (.slice pc cf.length cc) (.ns .i64 cf)), (4, .dat (.slice pd d.length cd) (.ns .u8 d)), (7, .dat (.slice pq (ls.drop q).length cq) (.l 4 ((ls.drop q).map entD)))] w) → K1 a w := by
    clear ha3 m0
    rintro a4 w4 ⟨q, p, pq, cq, hql, hpq, hqb, hbp, hpl, ha4, m4⟩
    refine hK1 _ _ ?_; clear hK1; try clear K1
    refine wp_seq_k (fun K2 hK2 => ?_)
    refine wp_seq_k (fun K3 hK3 => ?_)
    refine wp_region_lit ?_
    refine st_y ha4 rfl (y_assign ha4 rfl) ?_
    clear ha4 a4; intro a5 ha5
    refine wpList_nil ?_
    refine hK3 _ _ ?_; clear hK3; try clear K3
    refine wp_block ?_
    refine wp_loop_ghost (fun g a w => ∃ (k : Nat) (pq : Option Addr) (cq : Nat), k ≤ (ls.drop q).length ∧ g = (ls.drop q).length - k ∧ (∀ j, j < k → termL bi bt es (p + 1 + j) = (ls.getD (q + j) e0).2.1) ∧ Has 104 [(0, .pointer (some ⟨B, 0, none⟩)), (1, .int .i64 p), (3, .slice pq (ls.drop q).length cq), (12, .int .i64 k)] a ∧ MemOk X w0 [(1, .box B 41 [.int .i64 bi, .int .i64 bt, .slice pc cf.length cc, .slice pd d.length cd, .slice pl (es.map entD).length cl]), (2, .seg (.slice pl (es.map entD).length cl) 32 4 (es.map entD)), (3, .dat (.slice pc cf.length cc) (.ns .i64 cf)), (4, .dat (.slice pd d.length cd) (.ns .u8 d)), (7, .dat (.slice pq (ls.drop q).length cq) (.l 4 ((ls.drop q).map entD)))] w) ((ls.drop q).length) ?_ ?_
    · exact ⟨0, _, _, Nat.zero_le _, rfl, (fun j hj => by omega), ha5.only [0, 1, 3, 12], m4.only [1, 2, 3, 4, 7]⟩
    · skip
      clear ha5 m4
      rintro g a6 w6 ⟨k, pq, cq, hkl, hg, hmt, ha6, m6⟩
      refine wp_seq_k (fun K4 hK4 => ?_)
      refine wp_seq_k (fun K5 hK5 => ?_)
      refine wp_region_lit ?_
      refine st_y ha6 rfl (y_move ha6 rfl) ?_
      clear ha6 a6; intro a7 ha7
      refine st_y ha7 rfl (y_move ha7 rfl) ?_
      clear ha7 a7; intro a8 ha8
      refine st_y ha8 rfl (y_len ha8 rfl Try.underlying29) ?_
      clear ha8 a8; intro a9 ha9
      refine st_y ha9 rfl (y_lss ha9 rfl rfl) ?_
      clear ha9 a9; intro a10 ha10
      refine wpList_nil ?_
      refine hK5 _ _ ?_; clear hK5; try clear K5
      refine bool_cases ha10 (t := 54) rfl (fun hb11 ha11 => ?_) (fun hb11 ha11 => ?_)
      · skip
        clear ha10
        try simp only [decide_eq_true_eq, decide_eq_false_iff_not, Bool.not_eq_true, Bool.not_eq_false, Bool.not_eq_eq_eq_not, Bool.not_true, Bool.not_false, Bool.not_not, Int.not_lt, Int.not_le, ne_eq, Decidable.not_not] at hb11
        have hk : k < (ls.drop q).length := by omega
        obtain ⟨⟨ei, et, ek, ed⟩, hes⟩ : ∃ e, (ls.drop q)[k]? = some e := ⟨_, List.getElem?_eq_getElem hk⟩
        have hget : ls.getD (q + k) e0 = (ei, et, ek, ed) := by rw [List.getElem?_drop] at hes; rw [List.getD, hes]; rfl
        have hal := ref_in htm0 hpl hmt (by rw [List.length_drop] at hk; omega)
        have hdl : (ls.drop q).length = ls.length - q := List.length_drop
        refine wp_cond_true (ha11.ev (x := .tmp 54) rfl) ?_
        refine wp_skip ?_
        refine hK4 _ _ ?_; clear hK4; try clear K4
        refine wp_seq_k (fun K6 hK6 => ?_)
        refine wp_block ?_
        refine wp_seq_k (fun K7 hK7 => ?_)
        obtain ⟨b12, o12, vs12, hp12, hR12, ho12, m12⟩ := m6.openR (i := 7) rfl (k) (r := [.v (.int .i64 ei), .v (.int .i64 et), .v (.int .i64 ek), .ns .u8 ed]) (ent_get hes) 200 rfl
        cases hp12; clear m6 ho12
        rcases hR12 with _ | ⟨hd12_0, _ | ⟨hd12_1, _ | ⟨hd12_2, _ | ⟨hd12_3, _ | _⟩⟩⟩⟩
        obtain rfl := hd12_0.v_out
        clear hd12_0
        obtain rfl := hd12_1.v_out
        clear hd12_1
        obtain rfl := hd12_2.v_out
        clear hd12_2
        obtain ⟨p13, c13, hv13, hc13⟩ := hd12_3.ns_shape; subst hv13
        have m13 := m12.dat 201 rfl (hd12_3.cast (fun _ h => (free_add rfl h))); clear m12 hd12_3
        have m14 : MemOk _ _ [(1, _), (2, _), (3, _), (4, _), (7, _), (200, _), (201, _)] _ := m13.only [1, 2, 3, 4, 7, 200, 201]; clear m13
        refine region_m 12 (B := [(1, _), (2, _), (3, _), (4, _), (7, _), (200, _), (201, _)]) (m14.to ⟨.inl rfl, .inl rfl, .inl rfl, .inl rfl, .inl rfl, .inl rfl, .inl rfl, trivial⟩) m14 (by kernel_rfl) (fun w15 mB15 m15 => ?_); clear m14 mB15
        refine d_y 0 ha11 rfl rfl (fun _ => (m15.to ⟨.inl rfl, .inl rfl, .inl rfl, .inl rfl, .inl rfl, .inl rfl, .inl rfl, trivial⟩)) (by kernel_rfl) (by kernel_rfl) (by kernel_rfl) (by rfl) (fun _ _ _ h => h) (fun W => y_move ha11 rfl) ?_
        clear ha11 a10; intro a16 ha16
        refine d_y 1 ha16 rfl rfl (fun _ => (m15.to ⟨.inl rfl, .inl rfl, .inl rfl, .inl rfl, .inl rfl, .inl rfl, .inl rfl, trivial⟩)) (by kernel_rfl) (by kernel_rfl) (by kernel_rfl) (by rfl) (fun _ _ _ h => h) (fun W => y_move ha16 rfl) ?_
        clear ha16 a16; intro a17 ha17
        refine d_y 2 ha17 rfl rfl (fun _ => (m15.to ⟨.inl rfl, .inl rfl, .inl rfl, .inl rfl, .inl rfl, .inl rfl, .inl rfl, trivial⟩)) (by kernel_rfl) (by kernel_rfl) (by kernel_rfl) (by rfl) (fun _ _ _ h => h) (fun W => y_add ha17 rfl rfl (r := p + 1) (IntWalk.i64_in _ (by omega))) ?_
        clear ha17 a17; intro a18 ha18
        refine d_y 3 ha18 rfl rfl (fun _ => (m15.to ⟨.inl rfl, .inl rfl, .inl rfl, .inl rfl, .inl rfl, .inl rfl, .inl rfl, trivial⟩)) (by kernel_rfl) (by kernel_rfl) (by kernel_rfl) (by rfl) (fun _ _ _ h => h) (fun W => y_move ha18 rfl) ?_
        clear ha18 a18; intro a19 ha19
        refine d_y 4 ha19 rfl rfl (fun _ => (m15.to ⟨.inl rfl, .inl rfl, .inl rfl, .inl rfl, .inl rfl, .inl rfl, .inl rfl, trivial⟩)) (by kernel_rfl) (by kernel_rfl) (by kernel_rfl) (by rfl) (fun _ _ _ h => h) (fun W => y_add ha19 rfl rfl (r := p + 1 + k) (IntWalk.i64_in _ (by omega))) ?_
        clear ha19 a19; intro a20 ha20
        refine d_y 6 ha20 rfl rfl (fun _ => (m15.to ⟨.inl rfl, .inl rfl, .inl rfl, .inl rfl, .inl rfl, .inl rfl, .inl rfl, trivial⟩)) (by kernel_rfl) (by kernel_rfl) (by kernel_rfl) (by rfl) (fun _ _ _ h => h) (fun W => y_move ha20 rfl) ?_
        clear ha20 a20; intro a21 ha21
        refine d_y 7 ha21 rfl rfl (fun _ => (m15.to ⟨.inl rfl, .inl rfl, .inl rfl, .inl rfl, .inl rfl, .inl rfl, .inl rfl, trivial⟩)) (by kernel_rfl) (by kernel_rfl) (by kernel_rfl) (by rfl) (fun _ _ _ h => h) (fun W => y_move ha21 rfl) ?_
        clear ha21 a21; intro a22 ha22
        refine d_y 8 ha22 rfl rfl (fun _ => (m15.to ⟨.inl rfl, .inl rfl, .inl rfl, .inl rfl, .inl rfl, .inl rfl, .inl rfl, trivial⟩)) (by kernel_rfl) (by kernel_rfl) (by kernel_rfl) (by rfl) (fun _ _ _ h => h) (fun W => y_idx ha22 rfl rfl Try.underlying29 sz32rfo (k) rfl hk) ?_
        clear ha22 a22; intro a23 ha23
        refine d_y 9 ha23 rfl rfl (fun _ => (m15.to ⟨.inl rfl, .inl rfl, .inl rfl, .inl rfl, .inl rfl, .inl rfl, .inl rfl, trivial⟩)) (by kernel_rfl) (by kernel_rfl) (by kernel_rfl) (by rfl) (fun _ _ _ h => h) (fun W => y_fieldAddrQ ha23 1 rfl Try.underlying32 rfl (s := 0) (by kernel_rfl) rfl) ?_
        clear ha23 a23; intro a24 ha24
        refine d_h 10 ha24 rfl rfl (m15.to ⟨.inl rfl, .inl rfl, .inl rfl, .inl rfl, .inl rfl, .inl rfl, .inl rfl, trivial⟩) (by kernel_rfl) (by kernel_rfl) (by kernel_rfl) (by kernel_rfl) (by kernel_rfl) (fun _ _ _ h => h) (fun W hW => y_loadC1 ha24 hW (i := 200) (q := 1) rfl rfl rfl Try.underlying3 rfl) ?_
        clear ha24 a24; intro a25 ha25
        refine stepE_only 5 rfl (by kernel_rfl) rfl (fun K hK => ?_)
        refine e_call ha25 Try.func12 rfl rfl rfl rfl (rterm_any _ _ _ cf d es _ _ _ _ _ _ _ _ (m15.ok 1 _ rfl : Res.ok _ _ _ _ (.box _ _ _)).1 ((m15.ok 2 _ rfl : Res.ok _ _ _ _ (.seg _ _ _ _)).1.rd (S' := fun _ => True) (fun _ _ _ => trivial) (fun _ _ => trivial)) (by omega) (by omega)) ?_
        rintro e w26 ⟨rfl, hb26⟩
        have m27 := m15.later hb26
        clear m15
        clear hb26
        refine ⟨_, rfl, fun a28 ha28 => ?_⟩; clear ha25 a25
        refine hK _ _ (m27.to ⟨.inl rfl, .inl rfl, .inl rfl, .inl rfl, .inl rfl, .inl rfl, .inl rfl, trivial⟩) ?_; clear hK K
        refine d_y 11 ha28 rfl rfl (fun _ => (m27.to ⟨.inl rfl, .inl rfl, .inl rfl, .inl rfl, .inl rfl, .inl rfl, .inl rfl, trivial⟩)) (by kernel_rfl) (by kernel_rfl) (by kernel_rfl) (by rfl) (fun _ _ _ h => h) (fun W => y_neq ha28 rfl rfl) ?_
        clear ha28 a28; intro a29 ha29
        refine wpAnyE_done (by kernel_rfl) ?_ _
        refine hK7 _ _ ?_; clear hK7; try clear K7
        refine bool_cases ha29 (t := 68) rfl (fun hb30 ha30 => ?_) (fun hb30 ha30 => ?_)
        · skip
          clear ha29
          try simp only [decide_eq_true_eq, decide_eq_false_iff_not, Bool.not_eq_true, Bool.not_eq_false, Bool.not_eq_eq_eq_not, Bool.not_true, Bool.not_false, Bool.not_not, Int.not_lt, Int.not_le, ne_eq, Decidable.not_not] at hb30
          obtain ⟨aa, haa⟩ : ∃ x : Nat, (p + k - bi).toNat = x := ⟨_, rfl⟩
          have haal : aa ≤ es.length := by omega
          refine wp_cond_true (ha30.ev (x := .tmp 68) rfl) ?_
          refine wp_seq_k (fun K8 hK8 => ?_)
          have ha31 : Has 104 [(0, _), (1, _), (3, _), (12, _)] a29 := ha30.only [0, 1, 3, 12]; clear ha30
          refine wp_region_lit ?_
          refine st_y ha31 rfl (y_move ha31 rfl) ?_
          clear ha31 a29; intro a32 ha32
          refine st_y ha32 rfl (y_move ha32 rfl) ?_
          clear ha32 a32; intro a33 ha33
          refine st_y ha33 rfl (y_add ha33 rfl rfl (r := p + k) (IntWalk.i64_in _ (by omega))) ?_
          clear ha33 a33; intro a34 ha34
          refine st_y ha34 rfl (y_move ha34 rfl) ?_
          clear ha34 a34; intro a35 ha35
          refine st_y ha35 rfl (y_nilCheck ha35 rfl) ?_
          clear ha35 a35; intro a36 ha36
          refine st_y ha36 rfl (y_fieldAddr ha36 (off := 0) rfl Try.underlying41 rfl (s := 3) (by kernel_rfl) rfl) ?_
          clear ha36 a36; intro a37 ha37
          refine st_y ha37 rfl (y_fieldAddr ha37 (off := 0) rfl Try.underlying28 rfl (s := 0) (by kernel_rfl) rfl) ?_
          clear ha37 a37; intro a38 ha38
          refine st_y ha38 rfl (y_loadB1 ha38 m27 (i := 1) rfl rfl rfl Try.underlying3 rfl) ?_
          clear ha38 a38; intro a39 ha39
          refine st_y ha39 rfl (y_sub ha39 rfl rfl (r := (aa : Int)) (by rw [IntWalk.i64_in _ (by omega)]; omega)) ?_
          clear ha39 a39; intro a40 ha40
          refine st_y ha40 rfl (y_assign ha40 rfl) ?_
          clear ha40 a40; intro a41 ha41
          refine wpList_nil ?_
          refine hK8 _ _ ?_; clear hK8; try clear K8
          refine wp_seq_k (fun K9 hK9 => ?_)
          have ha42 : Has 104 [(0, _), (1, _), (3, _), (12, _), (13, _)] a41 := ha41.only [0, 1, 3, 12, 13]; clear ha41
          have hcl := m27.capS (i := 2) rfl
          have m43 : MemOk _ _ [(1, _), (2, _), (3, _), (4, _), (7, _), (200, _), (201, _)] _ := m27.only [1, 2, 3, 4, 7, 200, 201]; clear m27
          refine region_m 14 (B := [(1, _)]) (m43.to ⟨.inl rfl, trivial⟩) m43 (by kernel_rfl) (fun w44 mB44 m44 => ?_); clear m43 mB44
          refine d_y 0 ha42 rfl rfl (fun _ => (m44.to ⟨.inl rfl, trivial⟩)) (by kernel_rfl) (by kernel_rfl) (by kernel_rfl) (by rfl) (fun _ _ _ h => h) (fun W => y_move ha42 rfl) ?_
          clear ha42 a41; intro a45 ha45
          refine d_y 1 ha45 rfl rfl (fun _ => (m44.to ⟨.inl rfl, trivial⟩)) (by kernel_rfl) (by kernel_rfl) (by kernel_rfl) (by rfl) (fun _ _ _ h => h) (fun W => y_move ha45 rfl) ?_
          clear ha45 a45; intro a46 ha46
          refine d_y 2 ha46 rfl rfl (fun _ => (m44.to ⟨.inl rfl, trivial⟩)) (by kernel_rfl) (by kernel_rfl) (by kernel_rfl) (by rfl) (fun _ _ _ h => h) (fun W => y_nilCheck ha46 rfl) ?_
          clear ha46 a46; intro a47 ha47
          refine d_y 3 ha47 rfl rfl (fun _ => (m44.to ⟨.inl rfl, trivial⟩)) (by kernel_rfl) (by kernel_rfl) (by kernel_rfl) (by rfl) (fun _ _ _ h => h) (fun W => y_fieldAddr ha47 (off := 4) rfl Try.underlying41 rfl (s := 0) (by kernel_rfl) rfl) ?_
          clear ha47 a47; intro a48 ha48
          refine d_r 4 ha48 rfl rfl (m44.to ⟨.inl rfl, trivial⟩) (by kernel_rfl) (by kernel_rfl) (by kernel_rfl) (by kernel_rfl) (by kernel_rfl) (fun _ _ _ h => h) (fun W hW => y_loadB1 ha48 hW (i := 1) rfl rfl rfl Try.underlying29 rfl) ?_
          clear ha48 a48; intro a49 ha49
          refine d_y 5 ha49 rfl rfl (fun _ => (m44.to ⟨.inl rfl, trivial⟩)) (by kernel_rfl) (by kernel_rfl) (by kernel_rfl) (by rfl) (fun _ _ _ h => h) (fun W => y_move ha49 rfl) ?_
          clear ha49 a49; intro a50 ha50
          refine d_y 6 ha50 rfl rfl (fun _ => (m44.to ⟨.inl rfl, trivial⟩)) (by kernel_rfl) (by kernel_rfl) (by kernel_rfl) (by rfl) (fun _ _ _ h => h) (fun W => y_sliceHn ha50 aa rfl rfl Try.underlying29 sz32rfo rfl (by rw [List.length_map] at hcl; omega)) ?_
          clear ha50 a50; intro a51 ha51
          refine d_y 8 ha51 rfl rfl (fun _ => (m44.to ⟨.inl rfl, trivial⟩)) (by kernel_rfl) (by kernel_rfl) (by kernel_rfl) (by rfl) (fun _ _ _ h => h) (fun W => y_move ha51 rfl) ?_
          clear ha51 a51; intro a52 ha52
          refine d_y 9 ha52 rfl rfl (fun _ => (m44.to ⟨.inl rfl, trivial⟩)) (by kernel_rfl) (by kernel_rfl) (by kernel_rfl) (by rfl) (fun _ _ _ h => h) (fun W => y_move ha52 rfl) ?_
          clear ha52 a52; intro a53 ha53
          have m54 := m44.dropR (i := 7) rfl k (by rw [List.length_map]; omega) 202 rfl; clear m44
          refine d_y 10 ha53 rfl rfl (fun _ => (m54.to ⟨.inl rfl, trivial⟩)) (by kernel_rfl) (by kernel_rfl) (by kernel_rfl) (by rfl) (fun _ _ _ h => h) (fun W => y_sliceLn ha53 k rfl rfl Try.underlying29 sz32rfo rfl (by omega)) ?_
          clear ha53 a53; intro a55 ha55
          have m56 := m54.nilS 203 32 4; clear m54
          refine stepE_only 7 rfl (by kernel_rfl) rfl (fun K hK => ?_)
          refine e_appSA ha55 m56 203 rfl rfl rfl (((m56.ok 2 _ rfl : Res.ok _ _ _ _ (.seg _ _ _ _)).1.take aa (by rw [List.length_map]; exact haal)).src.lenEq (by simp <;> omega)) Try.underlying29 inf32rfo rfl rfl (by decide) (by simp; omega) rfl ?_
          clear ha55 a55 m56; intro p57 c57 a58 w58 ha58 m58 
          refine hK _ _ (m58.to ⟨.inl rfl, trivial⟩) ?_; clear hK K
          refine stepE_only 11 rfl (by kernel_rfl) rfl (fun K hK => ?_)
          refine e_appSA ha58 m58 203 rfl rfl rfl (m58.rd (i := 202) rfl).cells Try.underlying29 inf32rfo rfl rfl (by decide) (by simp; omega) rfl ?_
          clear ha58 a58 m58; intro p59 c59 a60 w60 ha60 m60 
          refine hK _ _ (m60.to ⟨.inl rfl, trivial⟩) ?_; clear hK K
          refine d_y 12 ha60 rfl rfl (fun _ => (m60.to ⟨.inl rfl, trivial⟩)) (by kernel_rfl) (by kernel_rfl) (by kernel_rfl) (by rfl) (fun _ _ _ h => h) (fun W => y_nilCheck ha60 rfl) ?_
          clear ha60 a60; intro a61 ha61
          refine d_y 13 ha61 rfl rfl (fun _ => (m60.to ⟨.inl rfl, trivial⟩)) (by kernel_rfl) (by kernel_rfl) (by kernel_rfl) (by rfl) (fun _ _ _ h => h) (fun W => y_fieldAddr ha61 (off := 4) rfl Try.underlying41 rfl (s := 0) (by kernel_rfl) rfl) ?_
          clear ha61 a61; intro a62 ha62
          refine stepE_end 14 rfl (by kernel_rfl) rfl (by rfl) (fun K hK => ?_)
          refine e_store1 ha62 m60 1 rfl rfl rfl rfl rfl sz29rfo (by dsimp only [List.set] <;> rfl) ?_
          clear m60; intro w63 m63 hB63
          clear hB63
          refine hK _ _ ?_; clear hK K
          refine wpAnyE_done (by kernel_rfl) ?_ _
          refine hK9 _ _ ?_; clear hK9; try clear K9
          refine wp_seq_k (fun K10 hK10 => ?_)
          have ha64 : Has 104 [(0, _), (1, _), (3, _), (12, _)] a62 := ha62.only [0, 1, 3, 12]; clear ha62
          refine wp_region_lit ?_
          refine st_y ha64 rfl (y_move ha64 rfl) ?_
          clear ha64 a62; intro a65 ha65
          refine st_y ha65 rfl (y_move ha65 rfl) ?_
          clear ha65 a65; intro a66 ha66
          have m67 := m63.dropR (i := 7) rfl k (by rw [List.length_map]; omega) 204 rfl; clear m63
          refine st_y ha66 rfl (y_sliceLn ha66 k rfl rfl Try.underlying29 sz32rfo rfl (by omega)) ?_
          clear ha66 a66; intro a68 ha68
          have m69 := m67.nilR 205 32 4
          clear m67
          refine wpList_plain rfl (fun K hK => ?_)
          refine e_appR ha68 m69 205 rfl rfl rfl (m69.rd (i := 204) rfl) Try.underlying29 inf32rfo rfl rfl (by decide) (by simp; omega) rfl ?_
          clear ha68 a68 m69; intro p70 c70 a71 w71 ha71 m71 
          refine hK _ _ ?_; clear hK K
          refine st_y ha71 rfl (y_move ha71 rfl) ?_
          clear ha71 a71; intro a72 ha72
          refine st_y ha72 rfl (y_move ha72 rfl) ?_
          clear ha72 a72; intro a73 ha73
          refine st_y ha73 rfl (y_len ha73 rfl Try.underlying29) ?_
          clear ha73 a73; intro a74 ha74
          refine st_y ha74 rfl (y_add ha74 rfl rfl (r := p + (ls.drop q).length) (IntWalk.i64_in _ (by omega))) ?_
          clear ha74 a74; intro a75 ha75
          refine st_y ha75 rfl (y_assign ha75 rfl) ?_
          clear ha75 a75; intro a76 ha76
          refine st_y ha76 rfl (y_assign ha76 rfl) ?_
          clear ha76 a76; intro a77 ha77
          refine st_y ha77 rfl (y_assign ha77 rfl) ?_
          clear ha77 a77; intro a78 ha78
          refine wpList_nil ?_
          refine hK10 _ _ ?_; clear hK10; try clear K10
          refine wp_ret ?_
          try dsimp only [Exit.then, Exit.inBlock]
          refine (ret3 (fn := Try.f14) ha78 rfl rfl rfl rfl ?_)
          have m79 := m71.freezeR 205 rfl; clear m71
          have hE := fol_eq hsq htm0 htl hql hpq hqb hbp hpl hmt (by omega) (.inr ⟨by omega, by rw [hget]; have := hb30; simpa using this⟩)
          rw [if_neg (by omega)] at hE
          rw [hE] at hR
          injection hR with r1 r2; injection r2 with r2 r3; subst r1
          have hes2 : ([] ++ (es.map entD).take aa) ++ ((ls.drop q).map entD).drop k = es'.map entD := by rw [← r2, List.nil_append, List.map_append, List.map_take, ← List.map_drop, List.drop_drop, show (p + k - bi).toNat = aa from haa]
          have hx2 : ((ls.drop q).map entD).drop k = (ls.drop (q + k)).map entD := by rw [← List.map_drop, List.drop_drop]
          have hlast : p + (ls.drop q).length = last := by rw [← r3, hdl]; omega
          rw [hes2] at m79
          rw [hx2] at m79
          rw [← hlast, hx2]
          exact ⟨_, _, _, _, rfl, m79.ren [(1, 1), (2, 203), (3, 3), (4, 4), (6, 205)] (by decide)⟩
        · skip
          clear ha29
          try simp only [decide_eq_true_eq, decide_eq_false_iff_not, Bool.not_eq_true, Bool.not_eq_false, Bool.not_eq_eq_eq_not, Bool.not_true, Bool.not_false, Bool.not_not, Int.not_lt, Int.not_le, ne_eq, Decidable.not_not] at hb30
          refine wp_cond_false (ha30.ev (x := .tmp 68) rfl) ?_
          refine wp_skip ?_
          refine hK6 _ _ ?_; clear hK6; try clear K6
          have ha80 : Has 104 [(0, _), (1, _), (3, _), (12, _)] a29 := ha30.only [0, 1, 3, 12]; clear ha30
          refine wp_region_lit ?_
          refine st_y ha80 rfl (y_move ha80 rfl) ?_
          clear ha80 a29; intro a81 ha81
          refine st_y ha81 rfl (y_add ha81 rfl rfl (r := ((k + 1 : Nat) : Int)) (by rw [IntWalk.i64_in _ (by omega)]; omega)) ?_
          clear ha81 a81; intro a82 ha82
          refine st_y ha82 rfl (y_assign ha82 rfl) ?_
          clear ha82 a82; intro a83 ha83
          refine wpList_nil ?_
          show ∃ n', n' < _ ∧ _
          exact ⟨(ls.drop q).length - (k + 1), by omega, k + 1, _, _, by omega, rfl, ref_snoc hmt (by rw [hget]; have := hb30; simpa using this), ha83.only [0, 1, 3, 12], m27.only [1, 2, 3, 4, 7]⟩
      · skip
        clear ha10
        try simp only [decide_eq_true_eq, decide_eq_false_iff_not, Bool.not_eq_true, Bool.not_eq_false, Bool.not_eq_eq_eq_not, Bool.not_true, Bool.not_false, Bool.not_not, Int.not_lt, Int.not_le, ne_eq, Decidable.not_not] at hb11
        obtain rfl : k = (ls.drop q).length := by omega
        have hdl : (ls.drop q).length = ls.length - q := List.length_drop
        refine wp_cond_false (ha11.ev (x := .tmp 54) rfl) ?_
        refine wp_exit ?_
        refine hK2 _ _ ?_; clear hK2; try clear K2
        refine wp_seq_k (fun K11 hK11 => ?_)
        refine wp_region_lit ?_
        refine st_y ha11 rfl (y_move ha11 rfl) ?_
        clear ha11 a10; intro a84 ha84
        refine st_y ha84 rfl (y_move ha84 rfl) ?_
        clear ha84 a84; intro a85 ha85
        refine st_y ha85 rfl (y_len ha85 rfl Try.underlying29) ?_
        clear ha85 a85; intro a86 ha86
        refine st_y ha86 rfl (y_add ha86 rfl rfl (r := p + (ls.drop q).length) (IntWalk.i64_in _ (by omega))) ?_
        clear ha86 a86; intro a87 ha87
        refine st_y ha87 rfl (y_assign ha87 rfl) ?_
        clear ha87 a87; intro a88 ha88
        refine st_y ha88 rfl (y_assign ha88 rfl) ?_
        clear ha88 a88; intro a89 ha89
        refine st_y ha89 rfl (y_assign ha89 rfl) ?_
        clear ha89 a89; intro a90 ha90
        refine wpList_nil ?_
        refine hK11 _ _ ?_; clear hK11; try clear K11
        refine wp_ret ?_
        try dsimp only [Exit.then, Exit.inBlock]
        refine (ret3 (fn := Try.f14) ha90 rfl rfl rfl rfl ?_)
        have m91 := m6.dat 6 rfl (Rd.l0 none 0 4); clear m6
        have hE := fol_eq hsq htm0 htl hql hpq hqb hbp hpl hmt (by rw [List.length_drop]; omega) (.inl (by rw [List.length_drop]; omega))
        rw [show q + (ls.drop q).length = ls.length from by rw [List.length_drop]; omega, if_pos rfl, List.drop_length] at hE
        rw [hE] at hR
        injection hR with r1 r2; injection r2 with r2 r3; subst r1; subst r2
        have hlast : p + (ls.drop q).length = last := by rw [← r3, List.length_drop]; omega
        rw [← hlast]
        exact ⟨_, _, _, _, rfl, m91.ren [(1, 1), (2, 2), (3, 3), (4, 4), (6, 6)] (by decide)⟩
  refine wp_seq_k (fun K12 hK12 => ?_)
  refine wp_region_lit ?_
  refine st_y ha3 rfl (y_move ha3 rfl) ?_
  clear ha3 a3; intro a92 ha92
  refine st_y ha92 rfl (y_move ha92 rfl) ?_
  clear ha92 a92; intro a93 ha93
  refine st_y ha93 rfl (y_nilCheck ha93 rfl) ?_
  clear ha93 a93; intro a94 ha94
  refine st_y ha94 rfl (y_fieldAddr ha94 (off := 0) rfl Try.underlying41 rfl (s := 3) (by kernel_rfl) rfl) ?_
  clear ha94 a94; intro a95 ha95
  refine st_y ha95 rfl (y_fieldAddr ha95 (off := 0) rfl Try.underlying28 rfl (s := 0) (by kernel_rfl) rfl) ?_
  clear ha95 a95; intro a96 ha96
  refine st_y ha96 rfl (y_loadB1 ha96 m0 (i := 1) rfl rfl rfl Try.underlying3 rfl) ?_
  clear ha96 a96; intro a97 ha97
  refine st_y ha97 rfl (y_lss ha97 rfl rfl) ?_
  clear ha97 a97; intro a98 ha98
  refine wpList_nil ?_
  refine hK12 _ _ ?_; clear hK12; try clear K12
  refine bool_cases ha98 (t := 20) rfl (fun hb99 ha99 => ?_) (fun hb99 ha99 => ?_)
  · skip
    clear ha98
    try simp only [decide_eq_true_eq, decide_eq_false_iff_not, Bool.not_eq_true, Bool.not_eq_false, Bool.not_eq_eq_eq_not, Bool.not_true, Bool.not_false, Bool.not_not, Int.not_lt, Int.not_le, ne_eq, Decidable.not_not] at hb99
    obtain ⟨q, hq⟩ : ∃ q : Nat, bi = prev + q := ⟨(bi - prev).toNat, by omega⟩
    refine wp_cond_true (ha99.ev (x := .tmp 20) rfl) ?_
    refine wp_seq_k (fun K13 hK13 => ?_)
    have ha100 : Has 104 [(0, _), (1, _), (2, _), (3, _), (8, _), (9, _), (10, _), (20, _)] a98 := ha99.only [0, 1, 2, 3, 8, 9, 10, 20]; clear ha99
    refine wp_region_lit ?_
    refine st_y ha100 rfl (y_move ha100 rfl) ?_
    clear ha100 a98; intro a101 ha101
    refine st_y ha101 rfl (y_nilCheck ha101 rfl) ?_
    clear ha101 a101; intro a102 ha102
    refine st_y ha102 rfl (y_fieldAddr ha102 (off := 0) rfl Try.underlying41 rfl (s := 3) (by kernel_rfl) rfl) ?_
    clear ha102 a102; intro a103 ha103
    refine st_y ha103 rfl (y_fieldAddr ha103 (off := 0) rfl Try.underlying28 rfl (s := 0) (by kernel_rfl) rfl) ?_
    clear ha103 a103; intro a104 ha104
    refine st_y ha104 rfl (y_loadB1 ha104 m0 (i := 1) rfl rfl rfl Try.underlying3 rfl) ?_
    clear ha104 a104; intro a105 ha105
    refine st_y ha105 rfl (y_move ha105 rfl) ?_
    clear ha105 a105; intro a106 ha106
    refine st_y ha106 rfl (y_max ha106 rfl rfl (r := prev) (by omega)) ?_
    clear ha106 a106; intro a107 ha107
    refine st_y ha107 rfl (y_sub ha107 rfl rfl (r := (q : Int)) (by rw [IntWalk.i64_in _ (by omega)]; omega)) ?_
    clear ha107 a107; intro a108 ha108
    refine st_y ha108 rfl (y_assign ha108 rfl) ?_
    clear ha108 a108; intro a109 ha109
    refine wpList_nil ?_
    refine hK13 _ _ ?_; clear hK13; try clear K13
    refine wp_seq_k (fun K14 hK14 => ?_)
    refine wp_seq_k (fun K15 hK15 => ?_)
    have ha110 : Has 104 [(0, _), (1, _), (2, _), (3, _), (8, _), (9, _), (10, _), (20, _), (11, _)] a109 := ha109.only [0, 1, 2, 3, 8, 9, 10, 20, 11]; clear ha109
    refine wp_region_lit ?_
    refine st_y ha110 rfl (y_move ha110 rfl) ?_
    clear ha110 a109; intro a111 ha111
    refine st_y ha111 rfl (y_move ha111 rfl) ?_
    clear ha111 a111; intro a112 ha112
    refine st_y ha112 rfl (y_len ha112 rfl Try.underlying29) ?_
    clear ha112 a112; intro a113 ha113
    refine st_y ha113 rfl (y_geq ha113 rfl rfl) ?_
    clear ha113 a113; intro a114 ha114
    refine wpList_nil ?_
    refine hK15 _ _ ?_; clear hK15; try clear K15
    refine bool_cases ha114 (t := 32) rfl (fun hb115 ha115 => ?_) (fun hb115 ha115 => ?_)
    · skip
      clear ha114
      try simp only [decide_eq_true_eq, decide_eq_false_iff_not, Bool.not_eq_true, Bool.not_eq_false, Bool.not_eq_eq_eq_not, Bool.not_true, Bool.not_false, Bool.not_not, Int.not_lt, Int.not_le, ne_eq, Decidable.not_not] at hb115
      refine wp_cond_true (ha115.ev (x := .tmp 32) rfl) ?_
      refine wp_seq_k (fun K16 hK16 => ?_)
      have m116 : MemOk _ _ [(1, _), (2, _), (3, _), (4, _), (5, _)] _ := m0.only [1, 2, 3, 4, 5]; clear m0
      refine region_m 8 (B := [(1, _), (2, _), (3, _), (4, _), (5, _)]) (m116.to ⟨.inl rfl, .inl rfl, .inl rfl, .inl rfl, .inl rfl, trivial⟩) m116 (by kernel_rfl) (fun w117 mB117 m117 => ?_); clear m116 mB117
      refine d_y 0 ha115 rfl rfl (fun _ => (m117.to ⟨.inl rfl, .inl rfl, .inl rfl, .inl rfl, .inl rfl, trivial⟩)) (by kernel_rfl) (by kernel_rfl) (by kernel_rfl) (by rfl) (fun _ _ _ h => h) (fun W => y_move ha115 rfl) ?_
      clear ha115 a114; intro a118 ha118
      refine d_y 1 ha118 rfl rfl (fun _ => (m117.to ⟨.inl rfl, .inl rfl, .inl rfl, .inl rfl, .inl rfl, trivial⟩)) (by kernel_rfl) (by kernel_rfl) (by kernel_rfl) (by rfl) (fun _ _ _ h => h) (fun W => y_nilCheck ha118 rfl) ?_
      clear ha118 a118; intro a119 ha119
      refine d_y 2 ha119 rfl rfl (fun _ => (m117.to ⟨.inl rfl, .inl rfl, .inl rfl, .inl rfl, .inl rfl, trivial⟩)) (by kernel_rfl) (by kernel_rfl) (by kernel_rfl) (by rfl) (fun _ _ _ h => h) (fun W => y_fieldAddr ha119 (off := 0) rfl Try.underlying41 rfl (s := 3) (by kernel_rfl) rfl) ?_
      clear ha119 a119; intro a120 ha120
      refine d_y 3 ha120 rfl rfl (fun _ => (m117.to ⟨.inl rfl, .inl rfl, .inl rfl, .inl rfl, .inl rfl, trivial⟩)) (by kernel_rfl) (by kernel_rfl) (by kernel_rfl) (by rfl) (fun _ _ _ h => h) (fun W => y_fieldAddr ha120 (off := 0) rfl Try.underlying28 rfl (s := 0) (by kernel_rfl) rfl) ?_
      clear ha120 a120; intro a121 ha121
      refine d_h 4 ha121 rfl rfl (m117.to ⟨.inl rfl, .inl rfl, .inl rfl, .inl rfl, .inl rfl, trivial⟩) (by kernel_rfl) (by kernel_rfl) (by kernel_rfl) (by kernel_rfl) (by kernel_rfl) (fun _ _ _ h => h) (fun W hW => y_loadB1 ha121 hW (i := 1) rfl rfl rfl Try.underlying3 rfl) ?_
      clear ha121 a121; intro a122 ha122
      refine d_y 5 ha122 rfl rfl (fun _ => (m117.to ⟨.inl rfl, .inl rfl, .inl rfl, .inl rfl, .inl rfl, trivial⟩)) (by kernel_rfl) (by kernel_rfl) (by kernel_rfl) (by rfl) (fun _ _ _ h => h) (fun W => y_assign ha122 rfl) ?_
      clear ha122 a122; intro a123 ha123
      refine d_y 6 ha123 rfl rfl (fun _ => (m117.to ⟨.inl rfl, .inl rfl, .inl rfl, .inl rfl, .inl rfl, trivial⟩)) (by kernel_rfl) (by kernel_rfl) (by kernel_rfl) (by rfl) (fun _ _ _ h => h) (fun W => y_assign ha123 rfl) ?_
      clear ha123 a123; intro a124 ha124
      refine d_y 7 ha124 rfl rfl (fun _ => (m117.to ⟨.inl rfl, .inl rfl, .inl rfl, .inl rfl, .inl rfl, trivial⟩)) (by kernel_rfl) (by kernel_rfl) (by kernel_rfl) (by rfl) (fun _ _ _ h => h) (fun W => y_assign ha124 rfl) ?_
      clear ha124 a124; intro a125 ha125
      refine wpAnyE_done (by kernel_rfl) ?_ _
      refine hK16 _ _ ?_; clear hK16; try clear K16
      refine wp_ret ?_
      try dsimp only [Exit.then, Exit.inBlock]
      refine (ret3 (fn := Try.f14) ha125 rfl rfl rfl rfl ?_)
      have m126 := m117.dat 6 rfl (Rd.l0 none 0 4); clear m117
      have hE := fol_low (bt := bt) (es := es) hsq (by omega : prev + ls.length ≤ bi)
      rw [hE] at hR
      injection hR with r1 r2; injection r2 with r2 r3; subst r1; subst r2; subst r3
      exact ⟨_, _, _, _, rfl, m126.ren [(1, 1), (2, 2), (3, 3), (4, 4), (6, 6)] (by decide)⟩
    · skip
      clear ha114
      try simp only [decide_eq_true_eq, decide_eq_false_iff_not, Bool.not_eq_true, Bool.not_eq_false, Bool.not_eq_eq_eq_not, Bool.not_true, Bool.not_false, Bool.not_not, Int.not_lt, Int.not_le, ne_eq, Decidable.not_not] at hb115
      have hql : q < ls.length := by omega
      refine wp_cond_false (ha115.ev (x := .tmp 32) rfl) ?_
      refine wp_skip ?_
      refine hK14 _ _ ?_; clear hK14; try clear K14
      have m127 : MemOk _ _ [(1, _), (2, _), (3, _), (4, _), (5, _)] _ := m0.only [1, 2, 3, 4, 5]; clear m0
      refine region_m 10 (B := [(1, _)]) (m127.to ⟨.inl rfl, trivial⟩) m127 (by kernel_rfl) (fun w128 mB128 m128 => ?_); clear m127 mB128
      refine d_y 0 ha115 rfl rfl (fun _ => (m128.to ⟨.inl rfl, trivial⟩)) (by kernel_rfl) (by kernel_rfl) (by kernel_rfl) (by rfl) (fun _ _ _ h => h) (fun W => y_move ha115 rfl) ?_
      clear ha115 a114; intro a129 ha129
      refine d_y 1 ha129 rfl rfl (fun _ => (m128.to ⟨.inl rfl, trivial⟩)) (by kernel_rfl) (by kernel_rfl) (by kernel_rfl) (by rfl) (fun _ _ _ h => h) (fun W => y_nilCheck ha129 rfl) ?_
      clear ha129 a129; intro a130 ha130
      refine d_y 2 ha130 rfl rfl (fun _ => (m128.to ⟨.inl rfl, trivial⟩)) (by kernel_rfl) (by kernel_rfl) (by kernel_rfl) (by rfl) (fun _ _ _ h => h) (fun W => y_fieldAddr ha130 (off := 0) rfl Try.underlying41 rfl (s := 3) (by kernel_rfl) rfl) ?_
      clear ha130 a130; intro a131 ha131
      refine d_y 3 ha131 rfl rfl (fun _ => (m128.to ⟨.inl rfl, trivial⟩)) (by kernel_rfl) (by kernel_rfl) (by kernel_rfl) (by rfl) (fun _ _ _ h => h) (fun W => y_fieldAddr ha131 (off := 0) rfl Try.underlying28 rfl (s := 0) (by kernel_rfl) rfl) ?_
      clear ha131 a131; intro a132 ha132
      refine d_h 4 ha132 rfl rfl (m128.to ⟨.inl rfl, trivial⟩) (by kernel_rfl) (by kernel_rfl) (by kernel_rfl) (by kernel_rfl) (by kernel_rfl) (fun _ _ _ h => h) (fun W hW => y_loadB1 ha132 hW (i := 1) rfl rfl rfl Try.underlying3 rfl) ?_
      clear ha132 a132; intro a133 ha133
      refine d_y 5 ha133 rfl rfl (fun _ => (m128.to ⟨.inl rfl, trivial⟩)) (by kernel_rfl) (by kernel_rfl) (by kernel_rfl) (by rfl) (fun _ _ _ h => h) (fun W => y_move ha133 rfl) ?_
      clear ha133 a133; intro a134 ha134
      refine d_y 6 ha134 rfl rfl (fun _ => (m128.to ⟨.inl rfl, trivial⟩)) (by kernel_rfl) (by kernel_rfl) (by kernel_rfl) (by rfl) (fun _ _ _ h => h) (fun W => y_move ha134 rfl) ?_
      clear ha134 a134; intro a135 ha135
      have m136 := m128.dropR (i := 5) rfl q (by rw [List.length_map]; omega) 6 rfl; clear m128
      refine d_y 7 ha135 rfl rfl (fun _ => (m136.to ⟨.inl rfl, trivial⟩)) (by kernel_rfl) (by kernel_rfl) (by kernel_rfl) (by rfl) (fun _ _ _ h => h) (fun W => y_sliceLn ha135 q rfl rfl Try.underlying29 sz32rfo rfl (by omega)) ?_
      clear ha135 a135; intro a137 ha137
      refine d_y 8 ha137 rfl rfl (fun _ => (m136.to ⟨.inl rfl, trivial⟩)) (by kernel_rfl) (by kernel_rfl) (by kernel_rfl) (by rfl) (fun _ _ _ h => h) (fun W => y_assign ha137 rfl) ?_
      clear ha137 a137; intro a138 ha138
      refine d_y 9 ha138 rfl rfl (fun _ => (m136.to ⟨.inl rfl, trivial⟩)) (by kernel_rfl) (by kernel_rfl) (by kernel_rfl) (by rfl) (fun _ _ _ h => h) (fun W => y_assign ha138 rfl) ?_
      clear ha138 a138; intro a139 ha139
      refine wpAnyE_done (by kernel_rfl) ?_ _
      have hd1 : (ls.map entD).drop q = (ls.drop q).map entD := (List.map_drop ..).symm
      have hd2 : ls.length - q = (ls.drop q).length := List.length_drop.symm
      rw [hd1, hd2] at m136
      rw [hd2] at ha139
      exact hC1 _ _ ⟨q, bi, _, _, by omega, by omega, .inr rfl, by omega, by omega, ha139.only [0, 1, 3], m136.ren [(1, 1), (2, 2), (3, 3), (4, 4), (7, 6)] (by decide)⟩
  · skip
    clear ha98
    try simp only [decide_eq_true_eq, decide_eq_false_iff_not, Bool.not_eq_true, Bool.not_eq_false, Bool.not_eq_eq_eq_not, Bool.not_true, Bool.not_false, Bool.not_not, Int.not_lt, Int.not_le, ne_eq, Decidable.not_not] at hb99
    have hy2 := hyes (by omega)
    refine wp_cond_false (ha99.ev (x := .tmp 20) rfl) ?_
    refine wp_seq_k (fun K17 hK17 => ?_)
    have ha140 : Has 104 [(0, _), (1, _), (2, _), (3, _), (8, _), (9, _), (10, _), (20, _)] a98 := ha99.only [0, 1, 2, 3, 8, 9, 10, 20]; clear ha99
    refine wp_region_lit ?_
    refine st_y ha140 rfl (y_move ha140 rfl) ?_
    clear ha140 a98; intro a141 ha141
    refine st_y ha141 rfl (y_move ha141 rfl) ?_
    clear ha141 a141; intro a142 ha142
    refine wpList_plain rfl (fun K hK => ?_)
    refine e_call ha142 Try.func12 rfl rfl rfl rfl (rterm_any _ _ _ cf d es _ _ _ _ _ _ _ _ (m0.ok 1 _ rfl : Res.ok _ _ _ _ (.box _ _ _)).1 ((m0.ok 2 _ rfl : Res.ok _ _ _ _ (.seg _ _ _ _)).1.rd (S' := fun _ => True) (fun _ _ _ => trivial) (fun _ _ => trivial)) (by omega) (by omega)) ?_
    rintro e w143 ⟨rfl, hb143⟩
    have m144 := m0.later hb143
    clear m0
    clear hb143
    refine ⟨_, rfl, fun a145 ha145 => ?_⟩; clear ha142 a142
    refine hK _ _ ?_; clear hK K
    refine st_y ha145 rfl (y_move ha145 rfl) ?_
    clear ha145 a145; intro a146 ha146
    refine st_y ha146 rfl (y_neq ha146 rfl rfl) ?_
    clear ha146 a146; intro a147 ha147
    refine wpList_nil ?_
    refine hK17 _ _ ?_; clear hK17; try clear K17
    refine bool_cases ha147 (t := 50) rfl (fun hb148 ha148 => ?_) (fun hb148 ha148 => ?_)
    · exact absurd hb148 (by simp; exact hy2.2)
    clear ha147 hb148
    refine wp_cond_false (ha148.ev (x := .tmp 50) rfl) ?_
    refine wp_skip ?_
    exact hC1 _ _ ⟨0, prev, _, _, Nat.zero_le _, by omega, .inl rfl, by omega, hy2.1, ha148.only [0, 1, 3], m144.ren [(1, 1), (2, 2), (3, 3), (4, 4), (7, 5)] (by decide)⟩
end Go.Proofs.Ytmdckdhogbbhlaa.K
