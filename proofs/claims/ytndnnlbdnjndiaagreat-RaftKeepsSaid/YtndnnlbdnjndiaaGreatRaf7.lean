/- RaftKeeps' walk. -/
import Derived.Test.YtndnnlbdnjndiaaGreatRafA
namespace Go.Proofs.YtndnnlbdnjndiaaGreat.K
open Go.ChangeShapes Go.WideShapes Go.ChangeAt Go.RowKit
set_option linter.unusedVariables false
set_option linter.unusedSimpArgs false

theorem fl25rk : flatS Tryz.prog 25 [.int .i64 0, .int .i64 0] = true := by kernel_rfl
theorem fl29rk : flatS Tryz.prog 29 [.int .i64 0, .int .i64 0, .slice none 0 0, .slice none 0 0] = true := by kernel_rfl
theorem inf3rk : (Tryz.prog.info? 3).map (fun i => (i.zero, i.size, i.bytes)) = some (some (.int .i64 0), 1, 8) := by kernel_rfl
theorem ps32rk : placesS Tryz.prog 32 = some [(0, 2), (2, 4), (6, 1)] := by kernel_rfl
theorem ps55rk : placesS Tryz.prog 55 = some [(0, 1), (1, 1), (2, 1), (3, 1), (4, 1), (5, 1), (6, 1), (7, 1), (8, 1), (9, 1), (10, 4), (14, 1), (15, 1), (16, 1), (17, 1), (18, 1)] := by kernel_rfl
theorem sz3rk : (Tryz.prog.info? 3).map (·.size) = some 1 := by kernel_rfl
theorem sz29rk : (Tryz.prog.info? 29).map (·.size) = some 4 := by kernel_rfl
theorem sz32rk : (Tryz.prog.info? 32).map (·.size) = some 7 := by kernel_rfl
theorem sz46rk : (Tryz.prog.info? 46).map (·.size) = some 3 := by kernel_rfl
theorem sz55rk : (Tryz.prog.info? 55).map (·.size) = some 19 := by kernel_rfl
theorem sz62rk : (Tryz.prog.info? 62).map (·.size) = some 4 := by kernel_rfl
theorem zc25rk : ((Tryz.prog.info? 25).bind (·.zero)).map (·.cells.toList) = some [.int .i64 0, .int .i64 0] := by kernel_rfl
theorem zc29rk : ((Tryz.prog.info? 29).bind (·.zero)).map (·.cells.toList) = some [.int .i64 0, .int .i64 0, .slice none 0 0, .slice none 0 0] := by kernel_rfl
theorem zc32rk : ((Tryz.prog.info? 32).bind (·.zero)).map (·.cells.toList) = some [.int .i64 0, .int .i64 0, .int .i64 0, .int .i64 0, .slice none 0 0, .slice none 0 0, .slice none 0 0] := by kernel_rfl
theorem zc46rk : ((Tryz.prog.info? 46).bind (·.zero)).map (·.cells.toList) = some [.slice none 0 0, .slice none 0 0, .bool false] := by kernel_rfl
theorem zc55rk : ((Tryz.prog.info? 55).bind (·.zero)).map (·.cells.toList) = some [.int .i64 0, .int .i64 0, .int .i64 0, .int .i64 0, .int .i64 0, .int .i64 0, .int .i64 0, .int .i64 0, .bool false, .slice none 0 0, .int .i64 0, .int .i64 0, .slice none 0 0, .slice none 0 0, .slice none 0 0, .int .i64 0, .int .i64 0, .int .i64 0, .int .i64 0] := by kernel_rfl

def Seq (pv : Int) (es : List (Int × Int × Int × List Int)) : Prop := ∀ j, j < es.length → (es.getD j e0).1 = pv + 1 + j
theorem Seq.runN {pv : Int} {es : List (Int × Int × Int × List Int)} (h : Seq pv es) : K.runN pv es = es.length := (Run.eq (k := es.length) ⟨Nat.le_refl _, h, .inl rfl⟩).symm
theorem Seq.run {pv : Int} {es : List (Int × Int × Int × List Int)} (h : Seq pv es) : es.take (K.runN pv es) = es := by rw [h.runN]; exact List.take_length
theorem ents_getD (F : Int) (l : List Int) : ∀ n k, k < n → (entsN F l n).getD k e0 = entOf F (termN l (k + 1)) (l.getD k 0) k
 | 0, k, h => by omega
 | n + 1, k, h => by
   rw [entsN, List.getD]
   by_cases e : k < n
   · rw [List.getElem?_append_left (by rw [entsN_len]; exact e)]; exact ents_getD F l n k e
   · obtain rfl : k = n := by omega
     rw [List.getElem?_append_right (by rw [entsN_len]; omega), entsN_len]; simp
theorem seq_ents (F : Int) (l : List Int) : Seq (F - 1) (entsN F l l.length) := fun j hj => by
 rw [entsN_len] at hj
 rw [ents_getD F l _ j hj]
 show F + (j : Int) = F - 1 + 1 + j
 omega
theorem entOf_data {F tm x i : Int} (hx : 0 ≤ x ∧ x ≤ 255) (hi : 0 ≤ i ∧ i ≤ 255) : (entOf F tm x i).2.2.2.length ≤ 2 ∧ ByteL (entOf F tm x i).2.2.2 := by
 unfold entOf ByteL
 dsimp only
 split
 · exact ⟨by simp, fun z hz => by simp at hz; omega⟩
 · split
   · exact ⟨by simp, fun z hz => by simp at hz; omega⟩
   · exact ⟨by simp, fun z hz => by cases hz⟩
theorem ents_mem {F : Int} {l : List Int} {e : Int × Int × Int × List Int} (h : e ∈ entsN F l l.length) : ∃ k, k < l.length ∧ e = entOf F (termN l (k + 1)) (l.getD k 0) k := by
 obtain ⟨k, hk, rfl⟩ := List.getElem_of_mem h
 rw [entsN_len] at hk
 refine ⟨k, hk, ?_⟩
 have := ents_getD F l l.length k hk
 rw [List.getD, List.getElem?_eq_getElem (by rw [entsN_len]; exact hk)] at this
 exact this
theorem ents_ok {F : Int} {l : List Int} (hb : ∀ j, j < l.length → 0 ≤ l.getD j 0 ∧ l.getD j 0 ≤ 255) (hl : l.length ≤ 256 := by omega) : EntsOk (entsN F l l.length) := fun e he => by
 obtain ⟨k, hk, rfl⟩ := ents_mem he
 have := (entOf_data (F := F) (tm := termN l (k + 1)) (hb k hk) (i := k) (by omega)).1
 omega

theorem ents_all {F : Int} {l : List Int} (hb : ∀ j, j < l.length → 0 ≤ l.getD j 0 ∧ l.getD j 0 ≤ 255) (hl : l.length ≤ 256) : ∀ e ∈ entsN F l l.length, e.2.2.2.length ≤ 100000 ∧ ByteL e.2.2.2 := fun e he => by
 obtain ⟨k, hk, rfl⟩ := ents_mem he
 have := entOf_data (F := F) (tm := termN l (k + 1)) (hb k hk) (i := k) (by omega)
 exact ⟨by omega, this.2⟩
def Ks (es : List En) : RS := ⟨newX 0 1 20 (-1) 0, 0, 0, [0, 1, 2], [], es, [], [], [], false⟩
theorem ks_new {es : List En} (h : es.take (runN 0 es) = es) : newS 0 1 20 (-1) 0 0 [0, 1, 2] [] es = Ks es := by unfold newS; rw [h]; rfl
abbrev inS1 (es : List En) (bi : Int) : RS := replyS (withX (Ks es) { (Ks es).x with ro := 0, le := 1, si := 0, co := bi }) 1 6 true bi
abbrev inS2 (es : List En) (bi : Int) (dd : List Int) : RS := replyS (instS (clrS (inS1 es bi)) 1 (bi + 1) 19 [0, 1, 2] dd) 1 6 true (bi + 1)
theorem ks_ok (es : List En) (hl : es.length ≤ 12) (hb : ∀ e ∈ es, e.2.2.2.length ≤ 100000 ∧ ByteL e.2.2.2) : ROk (Ks es) :=
 ⟨⟨by show (-1000000000000000 : Int) ≤ 0 ∧ (0 : Int) ≤ 1000000000000000; decide, by show 3 ≤ 900; decide, by show 0 ≤ 100000; decide, by show es.length ≤ 100000; omega, hb⟩, by show es.length < 90000; omega, by show (-1000000000 : Int) ≤ 0 ∧ (0 : Int) ≤ 1000000000; decide, by show (0 : Int) + (es.length : Int) - 0 ≤ 900; omega, by show 0 ≤ 800000; decide, by show 0 ≤ 800000; decide, by show (0 : Int) ≤ 20 ∧ (20 : Int) ≤ 1000000000000000; decide, by show (0 : Int) ≤ 0 ∧ (0 : Int) ≤ 6; decide, by show (-1000000000000000 : Int) ≤ 0 ∧ (0 : Int) ≤ 1000000000000000; decide, by show (-1000000000000000 : Int) ≤ 0 ∧ (0 : Int) ≤ 1000000000000000; decide, by show 0 ≤ 800; decide⟩
theorem ks1_ok (es : List En) (bi : Int) (hi : 0 ≤ bi ∧ bi ≤ 100) (hl : es.length ≤ 12) (hb : ∀ e ∈ es, e.2.2.2.length ≤ 100000 ∧ ByteL e.2.2.2) : ROk (clrS (inS1 es bi)) :=
 have h := ks_ok es hl hb
 ⟨h.l, h.n, by show -1000000000 ≤ bi ∧ bi ≤ 1000000000; omega, by show (0 : Int) + (es.length : Int) - bi ≤ 900; omega, h.ms, h.rs, h.te, h.id, h.si, h.be, h.ys⟩
theorem ks2_l (es : List En) (bi : Int) (dd : List Int) (hi : 0 ≤ bi ∧ bi ≤ 100) (hd : dd.length ≤ 100) : RLS (clrS (inS2 es bi dd)) :=
 ⟨by show -1000000000000000 ≤ bi + 1 ∧ bi + 1 ≤ 1000000000000000; omega, by show 3 ≤ 900; decide, by show dd.length ≤ 100000; omega, by show 0 ≤ 100000; decide, by intro e he; cases he⟩
theorem term_at2 {l : List Int} {es : List En} (hes : entsN 1 l l.length = es) {i : Nat} (hi : i < l.length) : termL 0 0 es ((i : Int) + 1) = termN l (i + 1) := by
 have h9 : es.length = l.length := by rw [← hes, entsN_len]
 unfold termL
 rw [if_neg (by omega), if_pos (by unfold inB; omega), show ((i : Int) + 1 - 0 - 1).toNat = i from by omega, ← hes, ents_getD 1 l _ i hi]
 rfl
theorem ks_term {l : List Int} {es : List En} (hes : entsN 1 l l.length = es) {i : Nat} (hi : i < l.length) : termS (Ks es) ((i : Int) + 1) = termN l (i + 1) := term_at2 hes hi
theorem ks_no {l : List Int} {es : List En} (hes : entsN 1 l l.length = es) (hlb : ∀ j, j < l.length → 0 ≤ l.getD j 0 ∧ l.getD j 0 ≤ 255) (hl : l.length ≤ 12) {i : Nat} (hi : i < l.length) : lastS (clrS (inS1 es ((i : Int) + 1))) < (i : Int) + 1 + 1 ∨ termS (clrS (inS1 es ((i : Int) + 1))) ((i : Int) + 1 + 1) ≠ 19 := by
 have h9 : es.length = l.length := by rw [← hes, entsN_len]
 by_cases h : i + 1 < l.length
 · right
   have e : termS (clrS (inS1 es ((i : Int) + 1))) ((i : Int) + 1 + 1) = termN l (i + 1 + 1) := by
     have := term_at2 hes h
     rw [show ((i + 1 : Nat) : Int) = (i : Int) + 1 from by omega] at this
     exact this
   have := termN_bd l hlb (i + 1 + 1) (by omega)
   rw [e]; omega
 · left; show (0 : Int) + (es.length : Int) < (i : Int) + 1 + 1; omega
set_option maxRecDepth 100000
set_option maxHeartbeats 4000000
theorem sbase_any (bi bt : Int) (cf d : List Int) (p1 p2 p3 p4 : Option Addr) (c1 c2 c3 c4 : Nat) (w0 : World) (hcf : cf.length ≤ 1000000) (h1 : Rd (fun _ => True) w0 (.slice p1 cf.length c1) (.ns .i64 cf)) (h2 : Rd (fun _ => True) w0 (.slice p2 d.length c2) (.ns .u8 d)) (h3 : Rd (fun _ => True) w0 (.slice p3 cf.length c3) (.ns .i64 cf)) (h4 : Rd (fun _ => True) w0 (.slice p4 d.length c4) (.ns .u8 d)) :
   Calls Tryz.prog 28 #[.agg #[.int .i64 bi, .int .i64 bt, .slice p1 cf.length c1, .slice p2 d.length c2], .agg #[.int .i64 bi, .int .i64 bt, .slice p3 cf.length c3, .slice p4 d.length c4]] w0 fun e w' => e = .returned (.bool true) ∧ Below w0.heap.size w0 w' := by
 refine enter (fn := Tryz.f28) Tryz.func28 rfl Tryz.ntmps28 rfl (fun Az Hz => ?_)
 simp only [List.zipIdx_cons, List.zipIdx_nil, List.map_cons, List.map_nil, Nat.reduceAdd, Nat.zero_add] at Hz
 have m0 := MemOk.start (fun _ => False) w0
 refine wp_seq_k (fun K0 hK0 => ?_)
 refine wp_region_lit ?_
 refine wpList_plain rfl (fun K hK => ?_)
 refine e_box Hz m0 5 (cs := [_, _, _, _]) rfl rfl rfl ?_
 clear Hz Az m0; intro g1 Az w2 Hz m2 hB2 hg2
 clear hB2 hg2
 refine hK _ _ ?_; clear hK K
 refine wpList_plain rfl (fun K hK => ?_)
 refine e_box Hz m2 6 (cs := [_, _, _, _]) rfl rfl rfl ?_
 clear Hz Az m2; intro g3 Az w4 Hz m4 hB4 hg4
 clear hB4 hg4
 refine hK _ _ ?_; clear hK K
 refine goCh Hz (.assign rfl .nil) ?_
 clear Hz Az; intro Az Hz
 refine wpList_nil ?_
 refine hK0 _ _ ?_; clear hK0; try clear K0
 refine wp_seq_k (fun K1 hK1 => ?_)
 refine wp_region_lit ?_
 refine goCh Hz (.fieldAddr (off := 0) rfl Tryz.underlying29 rfl (s := 0) (by kernel_rfl) rfl <| .loadB1 m4 (i := 5) rfl rfl rfl Tryz.underlying3 rfl <| .fieldAddr (off := 0) rfl Tryz.underlying29 rfl (s := 0) (by kernel_rfl) rfl <| .loadB1 m4 (i := 6) rfl rfl rfl Tryz.underlying3 rfl <| .eql rfl rfl <| .move rfl <| .nil) ?_
 clear Hz Az; intro Az Hz
 refine bool_cases Hz (t := 10) rfl ?_ ?_
 rotate_left
 · intro hb _; exact absurd hb (by simp)
 clear Hz; intro _ Hz
 refine goCh Hz (.fieldAddrZ (off := 1) rfl Tryz.underlying29 rfl (s := 0) (by kernel_rfl) rfl <| .loadB1Z m4 (i := 5) rfl rfl rfl Tryz.underlying3 rfl <| .fieldAddrZ (off := 1) rfl Tryz.underlying29 rfl (s := 0) (by kernel_rfl) rfl <| .loadB1Z m4 (i := 6) rfl rfl rfl Tryz.underlying3 rfl <| .eqlZ rfl rfl <| .pickT rfl rfl <| .move rfl <| .nil) ?_
 clear Hz Az; intro Az Hz
 refine bool_cases Hz (t := 17) rfl ?_ ?_
 rotate_left
 · intro hb _; exact absurd hb (by simp)
 clear Hz; intro _ Hz
 refine goCh Hz (.fieldAddrZ (off := 2) rfl Tryz.underlying29 rfl (s := 0) (by kernel_rfl) rfl <| .loadB1Z m4 (i := 5) rfl rfl rfl Tryz.underlying26 rfl <| .fieldAddrZ (off := 2) rfl Tryz.underlying29 rfl (s := 0) (by kernel_rfl) rfl <| .loadB1Z m4 (i := 6) rfl rfl rfl Tryz.underlying26 rfl <| .nil) ?_
 clear Hz Az; intro Az Hz
 refine st_ge Hz rfl rfl rfl rfl (fun K hK => ?_)
 refine e_call Hz Tryz.func68 rfl rfl rfl rfl (sameI_any cf _ _ _ _ _ hcf ((h1.now' m4 rfl).any) ((h3.now' m4 rfl).any)) ?_
 rintro e w31 ⟨rfl, hb31⟩
 have m32 := m4.later hb31
 clear m4
 clear hb31
 refine ⟨_, rfl, ?_⟩; clear Hz Az; intro Az Hz
 refine hK _ _ ?_; clear hK K
 refine goCh Hz (.pickT rfl rfl <| .move rfl <| .fieldAddrZ (off := 3) rfl Tryz.underlying29 rfl (s := 0) (by kernel_rfl) rfl <| .loadB1Z m32 (i := 5) rfl rfl rfl Tryz.underlying27 rfl <| .strZ rfl (h2.now' m32 rfl).ns_out.nums Tryz.underlying27 Tryz.underlying5 Tryz.underlying9 <| .fieldAddrZ (off := 3) rfl Tryz.underlying29 rfl (s := 0) (by kernel_rfl) rfl <| .loadB1Z m32 (i := 6) rfl rfl rfl Tryz.underlying27 rfl <| .strZ rfl (h4.now' m32 rfl).ns_out.nums Tryz.underlying27 Tryz.underlying5 Tryz.underlying9 <| .eqlSZ rfl rfl <| .pickT rfl rfl <| .assign rfl <| .nil) ?_
 clear Hz Az; intro Az Hz
 refine wpList_nil ?_
 refine hK1 _ _ ?_; clear hK1; try clear K1
 refine wp_ret ?_
 try dsimp only [Exit.then, Exit.inBlock]
 refine (ret1 (fn := Tryz.f28) Hz rfl rfl ?_)
 exact ⟨by simp, m32.below⟩
theorem keeps_walk (l dd : List Int) (x1 : Nat) (p0 p2 : Option Addr) (c0 c2 : Nat) (w0 : World) (hx1 : x1 ≤ 255) (h0 : Rd (fun _ => True) w0 (.slice p0 l.length c0) (.ns .u8 l)) (hlb : ∀ j, j < l.length → 0 ≤ l.getD j 0 ∧ l.getD j 0 ≤ 255) (h2 : Rd (fun _ => True) w0 (.slice p2 dd.length c2) (.ns .u8 dd)) :
   Calls Tryz.prog 5 #[.slice p0 l.length c0, .int .u8 (x1 : Int), .slice p2 dd.length c2] w0 fun e w' => e = .returned (.bool true) ∧ Below w0.heap.size w0 w' := by
 refine enter (fn := Tryz.f5) Tryz.func5 rfl Tryz.ntmps5 rfl (fun Az Hz => ?_)
 simp only [List.zipIdx_cons, List.zipIdx_nil, List.map_cons, List.map_nil, Nat.reduceAdd, Nat.zero_add] at Hz
 have m0 := (MemOk.start (fun _ => True) w0).dat 92 rfl (h2.cast (fun _ _ => free_nil (fun _ => trivial)))
 refine regS Hz (.assign rfl <| .nil) ?_
 clear Hz Az; intro Az Hz
 refine wp_seq_k (fun K0 hK0 => ?_)
 refine wp_seq_k (fun K1 hK1 => ?_)
 refine wp_region_lit ?_
 refine wpList_plain rfl (fun K hK => ?_)
 refine e_call Hz Tryz.func10 rfl rfl rfl rfl (rknown_any _) ?_
 rintro e w2 ⟨rfl, hb2⟩
 have m3 := m0.later hb2
 clear m0
 clear hb2
 refine ⟨_, rfl, ?_⟩; clear Hz Az; intro Az Hz
 refine hK _ _ ?_; clear hK K
 refine goCh Hz (.not rfl .nil) ?_
 clear Hz Az; intro Az Hz
 refine wpList_nil ?_
 refine hK1 _ _ ?_; clear hK1; try clear K1
 refine wp_cond_false (Hz.ev (x := .tmp 14) rfl) ?_
 refine wp_skip ?_
 refine hK0 _ _ ?_; clear hK0; try clear K0
 refine wp_seq_k (fun K2 hK2 => ?_)
 refine wp_seq_k (fun K3 hK3 => ?_)
 refine wp_region_lit ?_
 refine goCh Hz (.move rfl <| .len rfl Tryz.underlying27 <| .gtr rfl rfl <| .move rfl <| .nil) ?_
 clear Hz Az; intro Az Hz
 refine bool_cases Hz (t := 18) rfl ?_ ?_
 ·
  clear Hz; intro hb14 Hz
  try simp only [Q1x, Q2x, Q3x, Q4x, Q5x, Q6x, Q7x, Q8x, Q9x, Q0x, Qax, Qbx] at hb14
  refine goCh Hz (.sk <| .sk <| .sk <| .pickT rfl rfl <| .move rfl <| .sk <| .sk <| .sk <| .pickT rfl rfl <| .nil) ?_
  clear Hz Az; intro Az Hz
  refine wpList_nil ?_
  refine hK3 _ _ ?_; clear hK3; try clear K3
  refine wp_cond_true (Hz.ev (x := .tmp 27) rfl) ?_
  replace Hz : Has 140 [(0, _), (1, _), (2, _), (6, _)] Az := Hz.only [0, 1, 2, 6]
  refine regS Hz (.assign rfl <| .nil) ?_
  clear Hz Az; intro Az Hz
  refine wp_ret ?_
  try dsimp only [Exit.then, Exit.inBlock]
  refine (ret1 (fn := Tryz.f5) Hz rfl rfl ?_)
  exact ⟨by first | rfl | simp, m3.below⟩
 ·
  clear Hz; intro hb14 Hz
  try simp only [Q1x, Q2x, Q3x, Q4x, Q5x, Q6x, Q7x, Q8x, Q9x, Q0x, Qax, Qbx] at hb14
  refine goCh Hz (.moveZ rfl <| .lenZ rfl Tryz.underlying27 <| .eqlZ rfl rfl <| .pickF rfl rfl <| .move rfl <| .nil) ?_
  clear Hz Az; intro Az Hz
  refine bool_cases Hz (t := 23) rfl ?_ ?_
  ·
   clear Hz; intro hb31 Hz
   try simp only [Q1x, Q2x, Q3x, Q4x, Q5x, Q6x, Q7x, Q8x, Q9x, Q0x, Qax, Qbx] at hb31
   refine goCh Hz (.sk <| .sk <| .sk <| .pickT rfl rfl <| .nil) ?_
   clear Hz Az; intro Az Hz
   refine wpList_nil ?_
   refine hK3 _ _ ?_; clear hK3; try clear K3
   refine wp_cond_true (Hz.ev (x := .tmp 27) rfl) ?_
   replace Hz : Has 140 [(0, _), (1, _), (2, _), (6, _)] Az := Hz.only [0, 1, 2, 6]
   refine regS Hz (.assign rfl <| .nil) ?_
   clear Hz Az; intro Az Hz
   refine wp_ret ?_
   try dsimp only [Exit.then, Exit.inBlock]
   refine (ret1 (fn := Tryz.f5) Hz rfl rfl ?_)
   exact ⟨by first | rfl | simp, m3.below⟩
  ·
   clear Hz; intro hb31 Hz
   try simp only [Q1x, Q2x, Q3x, Q4x, Q5x, Q6x, Q7x, Q8x, Q9x, Q0x, Qax, Qbx] at hb31
   refine goCh Hz (.moveZ rfl <| .lenZ rfl Tryz.underlying27 <| .gtrZ rfl rfl <| .pickF rfl rfl <| .nil) ?_
   clear Hz Az; intro Az Hz
   refine wpList_nil ?_
   refine hK3 _ _ ?_; clear hK3; try clear K3
   refine bool_cases Hz (t := 27) rfl ?_ ?_
   ·
    clear Hz; intro hb42 Hz
    try simp only [Q1x, Q2x, Q3x, Q4x, Q5x, Q6x, Q7x, Q8x, Q9x, Q0x, Qax, Qbx] at hb42
    refine wp_cond_true (Hz.ev (x := .tmp 27) rfl) ?_
    replace Hz : Has 140 [(0, _), (1, _), (2, _), (6, _)] Az := Hz.only [0, 1, 2, 6]
    refine regS Hz (.assign rfl <| .nil) ?_
    clear Hz Az; intro Az Hz
    refine wp_ret ?_
    try dsimp only [Exit.then, Exit.inBlock]
    refine (ret1 (fn := Tryz.f5) Hz rfl rfl ?_)
    exact ⟨by first | rfl | simp, m3.below⟩
   ·
    clear Hz; intro hb42 Hz
    try simp only [Q1x, Q2x, Q3x, Q4x, Q5x, Q6x, Q7x, Q8x, Q9x, Q0x, Qax, Qbx] at hb42
    obtain ⟨es, hes⟩ : ∃ x, entsN 1 l l.length = x := ⟨_, rfl⟩
    have hesl : es.length = l.length := by rw [← hes, entsN_len]
    have heok : EntsOk es := hes ▸ ents_ok hlb
    have heb : ∀ e ∈ es, e.2.2.2.length ≤ 100000 ∧ ByteL e.2.2.2 := hes ▸ ents_all hlb (by omega)
    have hrun : es.take (runN 0 es) = es := Seq.run (hes ▸ seq_ents 1 l)
    obtain ⟨i, hi⟩ : ∃ i : Nat, i = x1 % l.length := ⟨_, rfl⟩
    have hil : i < l.length := hi ▸ Nat.mod_lt _ (by omega)
    obtain ⟨⟨ei, et, ek, ed⟩, hei⟩ : ∃ e, es[i]? = some e := ⟨_, List.getElem?_eq_getElem (by omega)⟩
    have het : et = termN l (i + 1) := by
      have h9 := ents_getD 1 l l.length i hil
      rw [hes, List.getD, hei] at h9
      exact congrArg (fun e : En => e.2.1) h9
    subst het
    have htm : termS (Ks es) ((i : Int) + 1) = termN l (i + 1) := ks_term hes (by omega)
    have hno : lastS (clrS (inS1 es ((i : Int) + 1))) < (i : Int) + 1 + 1 ∨ termS (clrS (inS1 es ((i : Int) + 1))) ((i : Int) + 1 + 1) ≠ 19 := ks_no hes hlb (by omega) (by omega)
    refine wp_cond_false (Hz.ev (x := .tmp 27) rfl) ?_
    refine wp_skip ?_
    refine hK2 _ _ ?_; clear hK2; try clear K2
    refine wp_seq_k (fun K4 hK4 => ?_)
    have hC4 : ∀ (a : Act) (w : World), (∃ (B1 : Nat) (qc qe : Option Addr) (kc ke : Nat), Has 140 [(0, .slice p0 l.length c0), (1, .int .u8 (x1 : Int)), (2, .slice p2 dd.length c2), (7, .pointer (some ⟨B1, 0, none⟩))] a ∧ MemOk (cx (fun _ => True) w0) w0 [(50, .box B1 32 [.int .i64 20, .int .i64 (-1), .int .i64 0, .int .i64 0, .slice qc ([0, 1, 2] : List Int).length kc, .slice none 0 0, .slice qe (es.map entD).length ke]), (51, .dat (.slice qc ([0, 1, 2] : List Int).length kc) (.ns .i64 [0, 1, 2])), (53, .dat (.slice qe (es.map entD).length ke) (.l 4 (es.map entD))), (92, .dat (.slice p2 dd.length c2) (.ns .u8 dd))] w) → K4 a w := by
      clear Hz m3
      rintro Az w45 ⟨B1, qc, qe, kc, ke, Hz, m45⟩
      refine hK4 _ _ ?_; clear hK4; try clear K4
      refine wp_seq_k (fun K5 hK5 => ?_)
      refine wp_region_lit ?_
      refine goCh Hz (.loadBR m45 (i := 50) rfl rfl Tryz.underlying32 rfl sz32rk (by simp) (by dsimp only [List.drop, List.take] <;> rfl) .nil) ?_
      clear Hz Az; intro Az Hz
      have m48 := m45.dat 100 rfl (m45.rd (i := 51) rfl); clear m45
      have m49 := m48.dat 101 rfl (Rd.nilN _ _ .u8 none); clear m48
      have m50 := m49.dat 102 rfl (m49.rd (i := 53) rfl); clear m49
      refine wpList_plain rfl (fun K hK => ?_)
      refine e_call Hz Tryz.func11 rfl rfl rfl rfl (rNew_s _ 0 1 20 (-1) 0 0 [0, 1, 2] [] es _ _ _ _ _ _ _ _ (by decide) (by decide) (by decide) (by omega) heok (m50.into [(5, 100), (6, 101), (7, 102)] (by decide) rfl)) ?_
      rintro e w51 ⟨R, p1, rfl, hm51⟩
      have mx51 := m50.back hm51 [(1, 1), (2, 2), (3, 3), (4, 4), (5, 5), (6, 6), (7, 7), (8, 8)] (by decide); clear hm51 m50
      have m51 : MemOk _ _ [(1, _), (2, _), (3, _), (4, _), (5, _), (6, _), (7, _), (8, _), (50, _), (51, _), (53, _), (92, _)] _ := mx51.only [1, 2, 3, 4, 5, 6, 7, 8, 50, 51, 53, 92]; clear mx51
      refine ⟨_, rfl, ?_⟩; clear Hz Az; intro Az Hz
      refine hK _ _ ?_; clear hK K
      rw [ks_new hrun] at m51
      refine goCh Hz (.assign rfl .nil) ?_
      clear Hz Az; intro Az Hz
      refine wpList_nil ?_
      refine hK5 _ _ ?_; clear hK5; try clear K5
      refine regS Hz (.move rfl <| .conv rfl Tryz.underlying5 Tryz.underlying3 (r := (x1 : Int)) (IntWalk.i64_in _ (by omega)) <| .move rfl <| .len rfl Tryz.underlying27 <| .rem rfl rfl (r := (i : Int)) (by omega) (by rw [Int.tmod_eq_emod_of_nonneg (by omega), hi]; omega) <| .add rfl rfl (r := ((i : Int) + 1)) (IntWalk.i64_in _ (by omega)) <| .assign rfl <| .nil) ?_
      clear Hz Az; intro Az Hz
      refine wp_seq_k (fun K6 hK6 => ?_)
      have hC6 : ∀ (a : Act) (w : World), (∃ (B2 : Nat) (qd : Option Addr) (kd : Nat), Has 140 [(7, .pointer (some ⟨B1, 0, none⟩)), (8, .pointer (some ⟨R, 0, none⟩)), (9, .int .i64 ((i : Int) + 1)), (10, .pointer (some ⟨B2, 0, none⟩))] a ∧ MemOk (cx (fun _ => True) w0) w0 ((54, .box B2 29 [.int .i64 ((i : Int) + 1), .int .i64 (termN l (i + 1)), .slice qd ([0, 1, 2] : List Int).length kd, .slice p2 dd.length c2]) :: (55, .dat (.slice qd ([0, 1, 2] : List Int).length kd) (.ns .i64 [0, 1, 2])) :: (50, .box B1 32 [.int .i64 20, .int .i64 (-1), .int .i64 0, .int .i64 0, .slice qc ([0, 1, 2] : List Int).length kc, .slice none 0 0, .slice qe (es.map entD).length ke]) :: (51, .dat (.slice qc ([0, 1, 2] : List Int).length kc) (.ns .i64 [0, 1, 2])) :: (53, .dat (.slice qe (es.map entD).length ke) (.l 4 (es.map entD))) :: (92, .dat (.slice p2 dd.length c2) (.ns .u8 dd)) :: rfM R (Ks es) (nilP p1)) w) → K6 a w := by
        clear Hz m51
        rintro Az w61 ⟨B2, qd, kd, Hz, m61⟩
        refine hK6 _ _ ?_; clear hK6; try clear K6
        refine wp_seq_k (fun K7 hK7 => ?_)
        refine wp_region_lit ?_
        refine goCh Hz (.move rfl <| .loadBR m61 (i := 54) rfl rfl Tryz.underlying29 rfl sz29rk (by simp) (by dsimp only [List.drop, List.take] <;> rfl) <| .buildG rfl zc55rk ps55rk rfl <| .nil) ?_
        clear Hz Az; intro Az Hz
        have m68 := m61.dat 200 rfl (m61.rd (i := 55) rfl); clear m61
        have m69 := m68.dat 201 rfl (m68.rd (i := 92) rfl); clear m68
        refine wpList_plain rfl (fun K hK => ?_)
        refine e_call Hz Tryz.func23 rfl rfl rfl rfl (rRecvInstallC_s _ R (Ks es) (nilP p1) 1 1 0 20 0 0 0 false ((i : Int) + 1) (termN l (i + 1)) [0, 1, 2] dd _ _ _ _ _ (ks_ok es (by omega) heb) rfl rfl (by show (1 : Int) ≠ 0; decide) rfl (by show (0 : Int) < (i : Int) + 1; omega) (by show (i : Int) + 1 ≤ 0 + (es.length : Int); omega) htm (m69.into [(31, 200), (32, 201), (1, 1), (2, 2), (3, 3), (4, 4), (5, 5), (6, 6), (7, 7), (8, 8)] (by decide) rfl)) ?_
        rintro e w70 ⟨p2, ⟨om, oq, ocm, ocq⟩, rfl, hm70⟩
        have mx70 := m69.back hm70 [(1, 1), (2, 2), (3, 3), (4, 4), (5, 5), (6, 6), (7, 7), (8, 8), (11, 11), (12, 12)] (by decide); clear hm70 m69
        have m70 : MemOk _ _ [(1, _), (2, _), (3, _), (4, _), (5, _), (6, _), (7, _), (8, _), (11, _), (12, _), (50, _), (51, _), (53, _), (54, _), (55, _), (92, _)] _ := mx70.only [1, 2, 3, 4, 5, 6, 7, 8, 11, 12, 50, 51, 53, 54, 55, 92]; clear mx70
        refine ⟨_, rfl, ?_⟩; clear Hz Az; intro Az Hz
        refine hK _ _ ?_; clear hK K
        have m72 := (m70.freezeS 11 rfl (by intro b hb; cases hb)); clear m70
        refine wpList_plain rfl (fun K hK => ?_)
        refine e_alloc Hz m72 202 zc46rk rfl ?_
        clear Hz Az m72; intro g73 Az w74 Hz m74 hB74 hg74
        clear hB74 hg74
        refine hK _ _ ?_; clear hK K
        refine wpList_plain rfl (fun K hK => ?_)
        refine e_storeW Hz m74 202 rfl rfl rfl rfl rfl sz46rk ?_
        clear m74; intro w75 m75 hB75
        clear hB75
        refine hK _ _ ?_; clear hK K
        refine wpList_nil ?_
        refine hK7 _ _ ?_; clear hK7; try clear K7
        refine wp_seq_k (fun K8 hK8 => ?_)
        refine wp_seq_k (fun K9 hK9 => ?_)
        obtain ⟨b76, o76, vs76, hp76, hR76, ho76, m76⟩ := m75.openR (i := 11) rfl (0) (r := [.v (.int .i64 6), .v (.int .i64 1), .v (.int .i64 0), .v (.int .i64 1), .v (.int .i64 20), .v (.int .i64 ((i : Int) + 1)), .v (.int .i64 0), .v (.int .i64 0), .v (.bool true), .l 4 (([] : List En).map entD), .v (.int .i64 0), .v (.int .i64 0), .ns .i64 [], .ns .u8 [], .ns .u8 [], .v (.int .i64 0), .v (.int .i64 0), .v (.int .i64 0), .v (.int .i64 0)]) rfl 203 rfl
        cases hp76; clear m75 ho76
        rcases hR76 with _ | ⟨hd76_0, _ | ⟨hd76_1, _ | ⟨hd76_2, _ | ⟨hd76_3, _ | ⟨hd76_4, _ | ⟨hd76_5, _ | ⟨hd76_6, _ | ⟨hd76_7, _ | ⟨hd76_8, _ | ⟨hd76_9, _ | ⟨hd76_10, _ | ⟨hd76_11, _ | ⟨hd76_12, _ | ⟨hd76_13, _ | ⟨hd76_14, _ | ⟨hd76_15, _ | ⟨hd76_16, _ | ⟨hd76_17, _ | ⟨hd76_18, _ | _⟩⟩⟩⟩⟩⟩⟩⟩⟩⟩⟩⟩⟩⟩⟩⟩⟩⟩⟩
        obtain rfl := hd76_0.v_out
        clear hd76_0
        obtain rfl := hd76_1.v_out
        clear hd76_1
        obtain rfl := hd76_2.v_out
        clear hd76_2
        obtain rfl := hd76_3.v_out
        clear hd76_3
        obtain rfl := hd76_4.v_out
        clear hd76_4
        obtain rfl := hd76_5.v_out
        clear hd76_5
        obtain rfl := hd76_6.v_out
        clear hd76_6
        obtain rfl := hd76_7.v_out
        clear hd76_7
        obtain rfl := hd76_8.v_out
        clear hd76_8
        obtain ⟨p77, c77, hv77, hc77⟩ := hd76_9.l_shape; subst hv77
        have m77 := m76.dat 204 rfl (hd76_9.cast (fun _ h => (free_add rfl h))); clear m76 hd76_9
        obtain rfl := hd76_10.v_out
        clear hd76_10
        obtain rfl := hd76_11.v_out
        clear hd76_11
        obtain ⟨p78, c78, hv78, hc78⟩ := hd76_12.ns_shape; subst hv78
        have m78 := m77.dat 205 rfl (hd76_12.cast (fun _ h => (free_add rfl (free_add rfl h)))); clear m77 hd76_12
        obtain ⟨p79, c79, hv79, hc79⟩ := hd76_13.ns_shape; subst hv79
        have m79 := m78.dat 206 rfl (hd76_13.cast (fun _ h => (free_add rfl (free_add rfl (free_add rfl h))))); clear m78 hd76_13
        obtain ⟨p80, c80, hv80, hc80⟩ := hd76_14.ns_shape; subst hv80
        have m80 := m79.dat 207 rfl (hd76_14.cast (fun _ h => (free_add rfl (free_add rfl (free_add rfl (free_add rfl h)))))); clear m79 hd76_14
        obtain rfl := hd76_15.v_out
        clear hd76_15
        obtain rfl := hd76_16.v_out
        clear hd76_16
        obtain rfl := hd76_17.v_out
        clear hd76_17
        obtain rfl := hd76_18.v_out
        clear hd76_18
        obtain ⟨b81, o81, vs81, hp81, hR81, ho81, m81⟩ := m80.openR (i := 11) rfl (0) (r := [.v (.int .i64 6), .v (.int .i64 1), .v (.int .i64 0), .v (.int .i64 1), .v (.int .i64 20), .v (.int .i64 ((i : Int) + 1)), .v (.int .i64 0), .v (.int .i64 0), .v (.bool true), .l 4 (([] : List En).map entD), .v (.int .i64 0), .v (.int .i64 0), .ns .i64 [], .ns .u8 [], .ns .u8 [], .v (.int .i64 0), .v (.int .i64 0), .v (.int .i64 0), .v (.int .i64 0)]) rfl 208 rfl
        cases hp81; clear m80 ho81
        rcases hR81 with _ | ⟨hd81_0, _ | ⟨hd81_1, _ | ⟨hd81_2, _ | ⟨hd81_3, _ | ⟨hd81_4, _ | ⟨hd81_5, _ | ⟨hd81_6, _ | ⟨hd81_7, _ | ⟨hd81_8, _ | ⟨hd81_9, _ | ⟨hd81_10, _ | ⟨hd81_11, _ | ⟨hd81_12, _ | ⟨hd81_13, _ | ⟨hd81_14, _ | ⟨hd81_15, _ | ⟨hd81_16, _ | ⟨hd81_17, _ | ⟨hd81_18, _ | _⟩⟩⟩⟩⟩⟩⟩⟩⟩⟩⟩⟩⟩⟩⟩⟩⟩⟩⟩
        obtain rfl := hd81_0.v_out
        clear hd81_0
        obtain rfl := hd81_1.v_out
        clear hd81_1
        obtain rfl := hd81_2.v_out
        clear hd81_2
        obtain rfl := hd81_3.v_out
        clear hd81_3
        obtain rfl := hd81_4.v_out
        clear hd81_4
        obtain rfl := hd81_5.v_out
        clear hd81_5
        obtain rfl := hd81_6.v_out
        clear hd81_6
        obtain rfl := hd81_7.v_out
        clear hd81_7
        obtain rfl := hd81_8.v_out
        clear hd81_8
        obtain ⟨p82, c82, hv82, hc82⟩ := hd81_9.l_shape; subst hv82
        have m82 := m81.dat 209 rfl (hd81_9.cast (fun _ h => (free_add rfl h))); clear m81 hd81_9
        obtain rfl := hd81_10.v_out
        clear hd81_10
        obtain rfl := hd81_11.v_out
        clear hd81_11
        obtain ⟨p83, c83, hv83, hc83⟩ := hd81_12.ns_shape; subst hv83
        have m83 := m82.dat 210 rfl (hd81_12.cast (fun _ h => (free_add rfl (free_add rfl h)))); clear m82 hd81_12
        obtain ⟨p84, c84, hv84, hc84⟩ := hd81_13.ns_shape; subst hv84
        have m84 := m83.dat 211 rfl (hd81_13.cast (fun _ h => (free_add rfl (free_add rfl (free_add rfl h))))); clear m83 hd81_13
        obtain ⟨p85, c85, hv85, hc85⟩ := hd81_14.ns_shape; subst hv85
        have m85 := m84.dat 212 rfl (hd81_14.cast (fun _ h => (free_add rfl (free_add rfl (free_add rfl (free_add rfl h)))))); clear m84 hd81_14
        obtain rfl := hd81_15.v_out
        clear hd81_15
        obtain rfl := hd81_16.v_out
        clear hd81_16
        obtain rfl := hd81_17.v_out
        clear hd81_17
        obtain rfl := hd81_18.v_out
        clear hd81_18
        have m86 : MemOk _ _ [(1, _), (2, _), (3, _), (4, _), (5, _), (6, _), (7, _), (8, _), (11, _), (12, _), (50, _), (51, _), (53, _), (54, _), (55, _), (92, _), (202, _), (203, _), (204, _), (205, _), (206, _), (207, _), (208, _), (209, _), (210, _), (211, _), (212, _)] _ := m85.only [1, 2, 3, 4, 5, 6, 7, 8, 11, 12, 50, 51, 53, 54, 55, 92, 202, 203, 204, 205, 206, 207, 208, 209, 210, 211, 212]; clear m85
        refine region_p 46 (B := [(1, _), (2, _), (3, _), (4, _), (5, _), (6, _), (7, _), (8, _), (11, _), (12, _), (50, _), (51, _), (53, _), (54, _), (55, _), (92, _), (202, _), (203, _), (204, _), (205, _), (206, _), (207, _), (208, _), (209, _), (210, _), (211, _), (212, _)]) (m86.to ⟨il, il, il, il, il, il, il, il, il, il, il, il, il, il, il, il, il, il, il, il, il, il, il, il, il, il, il, trivial⟩) m86 (by kernel_rfl) (fun w87 hP87 m87 => ?_); clear m86
        refine goR hP87 [0, 1, 2] [1] 3 0 7 Hz (m87.to ⟨il, il, il, il, il, il, il, il, il, il, il, il, il, il, il, il, il, il, il, il, il, il, il, il, il, il, il, trivial⟩) (.fieldAddr (off := 2) rfl Tryz.underlying46 rfl (s := 0) (by kernel_rfl) rfl <| .loadB1 hh (i := 202) rfl rfl rfl Tryz.underlying4 rfl <| .move rfl <| .nil) ?_
        clear Hz Az; intro Az Hz
        refine bool_cases Hz (t := 59) rfl ?_ ?_
        · intro hb _; exact absurd hb (fun h9 => Bool.false_ne_true h9)
        clear Hz; intro _ Hz
        refine goR hP87 [3, 4, 5, 6, 7, 8] [4] 6 7 511 Hz (m87.to ⟨il, il, il, il, il, il, il, il, il, il, il, il, il, il, il, il, il, il, il, il, il, il, il, il, il, il, il, trivial⟩) (.fieldAddr (off := 1) rfl Tryz.underlying46 rfl (s := 0) (by kernel_rfl) rfl <| .loadB1 hh (i := 202) rfl rfl rfl Tryz.underlying44 rfl <| .len rfl Tryz.underlying44 <| .neq rfl rfl <| .pickF rfl rfl <| .move rfl <| .nil) ?_
        clear Hz Az; intro Az Hz
        refine bool_cases Hz (t := 65) rfl ?_ ?_
        · intro hb _; exact absurd hb (fun h9 => of_decide_eq_true h9 rfl)
        clear Hz; intro _ Hz
        refine goR hP87 [9, 10, 11, 12, 13, 14] [10] 6 511 32767 Hz (m87.to ⟨il, il, il, il, il, il, il, il, il, il, il, il, il, il, il, il, il, il, il, il, il, il, il, il, il, il, il, trivial⟩) (.fieldAddr (off := 0) rfl Tryz.underlying46 rfl (s := 0) (by kernel_rfl) rfl <| .loadB1 hh (i := 202) rfl rfl rfl Tryz.underlying43 rfl <| .len rfl Tryz.underlying43 <| .neq rfl rfl <| .pickF rfl rfl <| .move rfl <| .nil) ?_
        clear Hz Az; intro Az Hz
        refine bool_cases Hz (t := 71) rfl ?_ ?_
        · intro hb _; exact absurd hb (fun h9 => of_decide_eq_true h9 rfl)
        clear Hz; intro _ Hz
        refine goR hP87 [15, 16, 17, 18, 19, 20, 21, 22] [16, 19] 8 32767 8388607 Hz (m87.to ⟨il, il, il, il, il, il, il, il, il, il, il, il, il, il, il, il, il, il, il, il, il, il, il, il, il, il, il, trivial⟩) (.fieldAddr (off := 0) rfl Tryz.underlying46 rfl (s := 0) (by kernel_rfl) rfl <| .loadB1 hh (i := 202) rfl rfl rfl Tryz.underlying43 rfl <| .p (fun _ _ h_ => y_idx h_ rfl rfl Tryz.underlying43 sz55rk (0) rfl (Nat.zero_lt_succ 0)) <| .fieldAddrQ 8 rfl Tryz.underlying55 rfl (s := 0) (by kernel_rfl) rfl <| .loadC1 hh (i := 203) (q := 8) rfl rfl rfl Tryz.underlying4 rfl <| .not rfl <| .pickF rfl rfl <| .move rfl <| .nil) ?_
        clear Hz Az; intro Az Hz
        refine bool_cases Hz (t := 79) rfl ?_ ?_
        · intro hb _; exact absurd hb (by decide)
        clear Hz; intro _ Hz
        refine goR hP87 [23, 24, 25, 26, 27, 28, 29, 30, 31] [24, 27] 9 8388607 4294967295 Hz (m87.to ⟨il, il, il, il, il, il, il, il, il, il, il, il, il, il, il, il, il, il, il, il, il, il, il, il, il, il, il, trivial⟩) (.fieldAddr (off := 0) rfl Tryz.underlying46 rfl (s := 0) (by kernel_rfl) rfl <| .loadB1 hh (i := 202) rfl rfl rfl Tryz.underlying43 rfl <| .p (fun _ _ h_ => y_idx h_ rfl rfl Tryz.underlying43 sz55rk (0) rfl (Nat.zero_lt_succ 0)) <| .fieldAddrQ 5 rfl Tryz.underlying55 rfl (s := 0) (by kernel_rfl) rfl <| .loadC1 hh (i := 208) (q := 5) rfl rfl rfl Tryz.underlying3 rfl <| .move rfl <| .neq rfl rfl <| .pickF rfl rfl <| .move rfl <| .nil) ?_
        clear Hz Az; intro Az Hz
        refine bool_cases Hz (t := 88) rfl ?_ ?_
        · intro hb _; exact absurd hb (fun h9 => of_decide_eq_true h9 rfl)
        clear Hz; intro _ Hz
        refine goA hP87 [32, 34] 2 4294967295 25769803775 Hz (m87.to ⟨il, il, il, il, il, il, il, il, il, il, il, il, il, il, il, il, il, il, il, il, il, il, il, il, il, il, il, trivial⟩) (.move rfl <| .move rfl <| .nil) ?_
        clear Hz Az; intro Az Hz
        refine stepE_only 33 rfl (by kernel_rfl) (wantedG Hz rfl rfl rfl rfl) (fun K hK => ?_)
        refine e_call Hz Tryz.func26 rfl rfl rfl rfl (rCommit _ R (clrS (inS1 es ((i : Int) + 1))) (nilP p2) _ (m87.into [(1, 1), (2, 2), (3, 3), (4, 4), (5, 5), (6, 6), (7, 7), (8, 8)] (by decide) rfl)) ?_
        rintro e w127 ⟨rfl, hm127⟩
        have mx127 := m87.back hm127 [(1, 1), (2, 2), (3, 3), (4, 4), (5, 5), (6, 6), (7, 7), (8, 8)] (by decide); clear hm127 m87
        have m127 : MemOk _ _ [(1, _), (2, _), (3, _), (4, _), (5, _), (6, _), (7, _), (8, _), (11, _), (12, _), (50, _), (51, _), (53, _), (54, _), (55, _), (92, _), (202, _), (203, _), (204, _), (205, _), (206, _), (207, _), (208, _), (209, _), (210, _), (211, _), (212, _)] _ := mx127.only [1, 2, 3, 4, 5, 6, 7, 8, 11, 12, 50, 51, 53, 54, 55, 92, 202, 203, 204, 205, 206, 207, 208, 209, 210, 211, 212]; clear mx127
        refine ⟨_, rfl, ?_⟩; clear Hz Az; intro Az Hz
        refine hK _ _ (m127.to ⟨il, il, il, il, il, il, il, il, il, il, il, il, il, il, il, il, il, il, il, il, il, il, il, il, il, il, il, trivial⟩) ?_; clear hK K
        refine goA hP87 [35, 36, 37] 3 34359738367 274877906943 Hz (m127.to ⟨il, il, il, il, il, il, il, il, il, il, il, il, il, il, il, il, il, il, il, il, il, il, il, il, il, il, il, trivial⟩) (.neq rfl rfl <| .pickF rfl rfl <| .move rfl <| .nil) ?_
        clear Hz Az; intro Az Hz
        refine bool_cases Hz (t := 94) rfl ?_ ?_
        · intro hb _; exact absurd hb (fun h9 => of_decide_eq_true h9 rfl)
        clear Hz; intro _ Hz
        refine goR hP87 [38, 41, 42] [42] 3 274877906943 7146825580543 Hz (m127.to ⟨il, il, il, il, il, il, il, il, il, il, il, il, il, il, il, il, il, il, il, il, il, il, il, il, il, il, il, trivial⟩) (.move rfl <| .fieldAddr (off := 6) rfl Tryz.underlying32 rfl (s := 0) (by kernel_rfl) rfl <| .loadB1 hh (i := 50) rfl rfl rfl Tryz.underlying30 rfl <| .nil) ?_
        clear Hz Az; intro Az Hz
        refine stepE_only 39 rfl (by kernel_rfl) (wantedG Hz rfl rfl rfl rfl) (fun K hK => ?_)
        refine e_call Hz Tryz.func20 rfl rfl rfl rfl (rImage_s R (clrS (inS1 es ((i : Int) + 1))) (nilP p2) _ (rfM_is (clrS (inS1 es ((i : Int) + 1))) (nilP p2) (m127.into [(1, 1), (2, 2), (3, 3), (4, 4), (5, 5), (6, 6), (7, 7), (8, 8)] (by decide) rfl)) (ks1_ok es ((i : Int) + 1) (by omega) (by omega) heb).l) ?_
        rintro e w136 ⟨qa136, ca136, qb136, cb136, qc136, cc136, rfl, hx136, hy136, hz136, hb136⟩
        have m137 := m127.callF3 213 214 215 rfl rfl rfl hb136 hx136 hy136 hz136
        clear m127
        clear hb136 hx136 hy136 hz136
        refine ⟨_, rfl, ?_⟩; clear Hz Az; intro Az Hz
        refine hK _ _ (m137.to ⟨il, il, il, il, il, il, il, il, il, il, il, il, il, il, il, il, il, il, il, il, il, il, il, il, il, il, il, trivial⟩) ?_; clear hK K
        refine goA hP87 [40] 1 7696581394431 8796093022207 Hz (m137.to ⟨il, il, il, il, il, il, il, il, il, il, il, il, il, il, il, il, il, il, il, il, il, il, il, il, il, il, il, trivial⟩) (.field1 rfl Tryz.underlying32 rfl (td := _) Tryz.underlying30 rfl rfl <| .nil) ?_
        clear Hz Az; intro Az Hz
        refine stepE_only 43 rfl (by kernel_rfl) (wantedG Hz rfl rfl rfl rfl) (fun K hK => ?_)
        refine e_call Hz Tryz.func27 rfl rfl rfl rfl (sameS_any es _ _ _ _ _ (by omega) ((m137.rd (i := 215) rfl).any) ((m137.rd (i := 53) rfl).any)) ?_
        rintro e w140 ⟨rfl, hb140⟩
        have m141 := m137.later hb140
        clear m137
        clear hb140
        refine ⟨_, rfl, ?_⟩; clear Hz Az; intro Az Hz
        refine hK _ _ (m141.to ⟨il, il, il, il, il, il, il, il, il, il, il, il, il, il, il, il, il, il, il, il, il, il, il, il, il, il, il, trivial⟩) ?_; clear hK K
        refine goA hP87 [44, 45] 2 17592186044415 70368744177663 Hz (m141.to ⟨il, il, il, il, il, il, il, il, il, il, il, il, il, il, il, il, il, il, il, il, il, il, il, il, il, il, il, trivial⟩) (.not rfl <| .pickF rfl rfl <| .nil) ?_
        clear Hz Az; intro Az Hz
        refine wpAnyE_done (by kernel_rfl) ?_ _
        refine hK9 _ _ ?_; clear hK9; try clear K9
        refine wp_cond_false (Hz.ev (x := .tmp 102) rfl) ?_
        refine wp_skip ?_
        refine hK8 _ _ ?_; clear hK8; try clear K8
        replace Hz : Has 140 [(8, _), (9, _), (10, _)] Az := Hz.only [8, 9, 10]
        refine wp_seq_k (fun K10 hK10 => ?_)
        refine wp_region_lit ?_
        refine goCh Hz (.move rfl <| .add rfl rfl (r := ((i : Int) + 1) + 1) (IntWalk.i64_in _ (by omega)) <| .fieldAddr (off := 0) rfl Tryz.underlying29 rfl (s := 0) (by kernel_rfl) rfl <| .nil) ?_
        clear Hz Az; intro Az Hz
        refine wpList_plain rfl (fun K hK => ?_)
        refine e_store1 Hz m141 54 rfl rfl rfl rfl rfl sz3rk (by dsimp only [List.set] <;> rfl) ?_
        clear m141; intro w152 m152 hB152
        clear hB152
        refine hK _ _ ?_; clear hK K
        refine goCh Hz (.fieldAddr (off := 1) rfl Tryz.underlying29 rfl (s := 0) (by kernel_rfl) rfl .nil) ?_
        clear Hz Az; intro Az Hz
        refine wpList_plain rfl (fun K hK => ?_)
        refine e_store1 Hz m152 54 rfl rfl rfl rfl rfl sz3rk (by dsimp only [List.set] <;> rfl) ?_
        clear m152; intro w154 m154 hB154
        clear hB154
        refine hK _ _ ?_; clear hK K
        refine wpList_nil ?_
        refine hK10 _ _ ?_; clear hK10; try clear K10
        refine wp_seq_k (fun K11 hK11 => ?_)
        refine wp_region_lit ?_
        refine goCh Hz (.move rfl <| .loadBR m154 (i := 54) rfl rfl Tryz.underlying29 rfl sz29rk (by simp) (by dsimp only [List.drop, List.take] <;> rfl) <| .buildG rfl zc55rk ps55rk rfl <| .nil) ?_
        clear Hz Az; intro Az Hz
        have m161 := m154.dat 216 rfl (m154.rd (i := 55) rfl); clear m154
        have m162 := m161.dat 217 rfl (m161.rd (i := 92) rfl); clear m161
        refine wpList_plain rfl (fun K hK => ?_)
        refine e_call Hz Tryz.func23 rfl rfl rfl rfl (rRecvInstallB_s _ R (clrS (inS1 es ((i : Int) + 1))) (nilP p2) 1 1 0 20 0 0 0 false (((i : Int) + 1) + 1) 19 [0, 1, 2] dd _ _ _ _ _ (ks1_ok es ((i : Int) + 1) (by omega) (by omega) heb) rfl rfl (by show (1 : Int) ≠ 0; decide) rfl (by show (i : Int) + 1 < (i : Int) + 1 + 1; omega) hno (by decide) (by omega) (m162.into [(31, 216), (32, 217), (1, 1), (2, 2), (3, 3), (4, 4), (5, 5), (6, 6), (7, 7), (8, 8)] (by decide) rfl)) ?_
        rintro e w163 ⟨p3, ⟨om2, oq2, ocm2, ocq2⟩, rfl, hm163⟩
        have mx163 := m162.back hm163 [(1, 1), (2, 2), (3, 3), (4, 4), (5, 5), (6, 6), (7, 7), (8, 8), (41, 11), (42, 12)] (by decide); clear hm163 m162
        have m163 : MemOk _ _ [(1, _), (2, _), (3, _), (4, _), (5, _), (6, _), (7, _), (8, _), (41, _), (42, _), (11, _), (12, _), (50, _), (51, _), (53, _), (54, _), (55, _), (92, _), (202, _), (203, _), (204, _), (205, _), (206, _), (207, _), (208, _), (209, _), (210, _), (211, _), (212, _), (213, _), (214, _), (215, _)] _ := mx163.only [1, 2, 3, 4, 5, 6, 7, 8, 41, 42, 11, 12, 50, 51, 53, 54, 55, 92, 202, 203, 204, 205, 206, 207, 208, 209, 210, 211, 212, 213, 214, 215]; clear mx163
        refine ⟨_, rfl, ?_⟩; clear Hz Az; intro Az Hz
        refine hK _ _ ?_; clear hK K
        refine wpList_plain rfl (fun K hK => ?_)
        refine e_alloc Hz m163 218 zc46rk rfl ?_
        clear Hz Az m163; intro g165 Az w166 Hz m166 hB166 hg166
        clear hB166 hg166
        refine hK _ _ ?_; clear hK K
        refine wpList_plain rfl (fun K hK => ?_)
        refine e_storeW Hz m166 218 rfl rfl rfl rfl rfl sz46rk ?_
        clear m166; intro w167 m167 hB167
        clear hB167
        refine hK _ _ ?_; clear hK K
        refine wpList_nil ?_
        refine hK11 _ _ ?_; clear hK11; try clear K11
        refine wp_seq_k (fun K12 hK12 => ?_)
        replace Hz : Has 140 [(8, _), (9, _), (10, _), (12, _)] Az := Hz.only [8, 9, 10, 12]
        have m169 : MemOk _ _ [(1, _), (2, _), (3, _), (4, _), (5, _), (6, _), (7, _), (8, _), (11, _), (12, _), (41, _), (42, _), (50, _), (51, _), (53, _), (54, _), (55, _), (92, _), (202, _), (203, _), (204, _), (205, _), (206, _), (207, _), (208, _), (209, _), (210, _), (211, _), (212, _), (213, _), (214, _), (215, _), (218, _)] _ := m167.only [1, 2, 3, 4, 5, 6, 7, 8, 11, 12, 41, 42, 50, 51, 53, 54, 55, 92, 202, 203, 204, 205, 206, 207, 208, 209, 210, 211, 212, 213, 214, 215, 218]; clear m167
        refine region_p 30 (B := [(1, _), (2, _), (3, _), (4, _), (5, _), (6, _), (7, _), (8, _), (11, _), (12, _), (41, _), (42, _), (50, _), (51, _), (53, _), (54, _), (55, _), (92, _), (202, _), (203, _), (204, _), (205, _), (206, _), (207, _), (208, _), (209, _), (210, _), (211, _), (212, _), (213, _), (214, _), (215, _), (218, _)]) (m169.to ⟨il, il, il, il, il, il, il, il, il, il, il, il, il, il, il, il, il, il, il, il, il, il, il, il, il, il, il, il, il, il, il, il, il, trivial⟩) m169 (by kernel_rfl) (fun w170 hP170 m170 => ?_); clear m169
        refine goR hP170 [0, 1, 2] [1] 3 0 7 Hz (m170.to ⟨il, il, il, il, il, il, il, il, il, il, il, il, il, il, il, il, il, il, il, il, il, il, il, il, il, il, il, il, il, il, il, il, il, trivial⟩) (.fieldAddr (off := 2) rfl Tryz.underlying46 rfl (s := 0) (by kernel_rfl) rfl <| .loadB1 hh (i := 218) rfl rfl rfl Tryz.underlying4 rfl <| .move rfl <| .nil) ?_
        clear Hz Az; intro Az Hz
        refine bool_cases Hz (t := 113) rfl ?_ ?_
        rotate_left
        · intro hb _; exact absurd hb (fun h9 => Bool.false_ne_true h9.symm)
        clear Hz; intro _ Hz
        refine goR hP170 [3, 4, 5, 6, 7, 8] [4] 6 7 511 Hz (m170.to ⟨il, il, il, il, il, il, il, il, il, il, il, il, il, il, il, il, il, il, il, il, il, il, il, il, il, il, il, il, il, il, il, il, il, trivial⟩) (.fieldAddr (off := 1) rfl Tryz.underlying46 rfl (s := 0) (by kernel_rfl) rfl <| .loadB1 hh (i := 218) rfl rfl rfl Tryz.underlying44 rfl <| .len rfl Tryz.underlying44 <| .eql rfl rfl <| .pickT rfl rfl <| .move rfl <| .nil) ?_
        clear Hz Az; intro Az Hz
        refine bool_cases Hz (t := 119) rfl ?_ ?_
        rotate_left
        · intro hb _; exact absurd hb (fun h9 => of_decide_eq_false h9 rfl)
        clear Hz; intro _ Hz
        refine goA hP170 [9] 1 511 1023 Hz (m170.to ⟨il, il, il, il, il, il, il, il, il, il, il, il, il, il, il, il, il, il, il, il, il, il, il, il, il, il, il, il, il, il, il, il, il, trivial⟩) (.move rfl <| .nil) ?_
        clear Hz Az; intro Az Hz
        refine stepE_only 10 rfl (by kernel_rfl) (wantedG Hz rfl rfl rfl rfl) (fun K hK => ?_)
        refine e_call Hz Tryz.func20 rfl rfl rfl rfl (rImage_s R (clrS (inS2 es ((i : Int) + 1) dd)) (nilP p3) _ (rfM_is (clrS (inS2 es ((i : Int) + 1) dd)) (nilP p3) (m170.into [(1, 1), (2, 2), (3, 3), (4, 4), (5, 5), (6, 6), (7, 7), (8, 8)] (by decide) rfl)) (ks2_l es ((i : Int) + 1) dd (by omega) (by omega))) ?_
        rintro e w183 ⟨qa183, ca183, qb183, cb183, qc183, cc183, rfl, hx183, hy183, hz183, hb183⟩
        have m184 := m170.callF3 219 220 221 rfl rfl rfl hb183 hx183 hy183 hz183
        clear m170
        clear hb183 hx183 hy183 hz183
        refine ⟨_, rfl, ?_⟩; clear Hz Az; intro Az Hz
        refine hK _ _ (m184.to ⟨il, il, il, il, il, il, il, il, il, il, il, il, il, il, il, il, il, il, il, il, il, il, il, il, il, il, il, il, il, il, il, il, il, trivial⟩) ?_; clear hK K
        refine goA hP170 [11, 12, 13, 14, 15] 5 2047 65535 Hz (m184.to ⟨il, il, il, il, il, il, il, il, il, il, il, il, il, il, il, il, il, il, il, il, il, il, il, il, il, il, il, il, il, il, il, il, il, trivial⟩) (.field1 rfl Tryz.underlying32 rfl (td := _) Tryz.underlying30 rfl rfl <| .len rfl Tryz.underlying30 <| .eql rfl rfl <| .pickT rfl rfl <| .move rfl <| .nil) ?_
        clear Hz Az; intro Az Hz
        refine bool_cases Hz (t := 126) rfl ?_ ?_
        rotate_left
        · intro hb _; exact absurd hb (fun h9 => of_decide_eq_false h9 rfl)
        clear Hz; intro _ Hz
        refine goA hP170 [16, 18, 19] 3 65535 917503 Hz (m184.to ⟨il, il, il, il, il, il, il, il, il, il, il, il, il, il, il, il, il, il, il, il, il, il, il, il, il, il, il, il, il, il, il, il, il, trivial⟩) (.move rfl <| .move rfl <| .add rfl rfl (r := ((i : Int) + 1) + 1) (IntWalk.i64_in _ (by omega)) <| .nil) ?_
        clear Hz Az; intro Az Hz
        refine stepE_only 17 rfl (by kernel_rfl) (wantedG Hz rfl rfl rfl rfl) (fun K hK => ?_)
        refine e_call Hz Tryz.func26 rfl rfl rfl rfl (rCommit _ R (clrS (inS2 es ((i : Int) + 1) dd)) (nilP p3) _ (m184.into [(1, 1), (2, 2), (3, 3), (4, 4), (5, 5), (6, 6), (7, 7), (8, 8)] (by decide) rfl)) ?_
        rintro e w195 ⟨rfl, hm195⟩
        have mx195 := m184.back hm195 [(1, 1), (2, 2), (3, 3), (4, 4), (5, 5), (6, 6), (7, 7), (8, 8)] (by decide); clear hm195 m184
        have m195 : MemOk _ _ [(1, _), (2, _), (3, _), (4, _), (5, _), (6, _), (7, _), (8, _), (11, _), (12, _), (41, _), (42, _), (50, _), (51, _), (53, _), (54, _), (55, _), (92, _), (202, _), (203, _), (204, _), (205, _), (206, _), (207, _), (208, _), (209, _), (210, _), (211, _), (212, _), (213, _), (214, _), (215, _), (218, _), (219, _), (220, _), (221, _)] _ := mx195.only [1, 2, 3, 4, 5, 6, 7, 8, 11, 12, 41, 42, 50, 51, 53, 54, 55, 92, 202, 203, 204, 205, 206, 207, 208, 209, 210, 211, 212, 213, 214, 215, 218, 219, 220, 221]; clear mx195
        refine ⟨_, rfl, ?_⟩; clear Hz Az; intro Az Hz
        refine hK _ _ (m195.to ⟨il, il, il, il, il, il, il, il, il, il, il, il, il, il, il, il, il, il, il, il, il, il, il, il, il, il, il, il, il, il, il, il, il, trivial⟩) ?_; clear hK K
        refine goA hP170 [20, 21, 22] 3 1048575 8388607 Hz (m195.to ⟨il, il, il, il, il, il, il, il, il, il, il, il, il, il, il, il, il, il, il, il, il, il, il, il, il, il, il, il, il, il, il, il, il, trivial⟩) (.eql rfl rfl <| .pickT rfl rfl <| .move rfl <| .nil) ?_
        clear Hz Az; intro Az Hz
        refine bool_cases Hz (t := 133) rfl ?_ ?_
        rotate_left
        · intro hb _; exact absurd hb (fun h9 => of_decide_eq_false h9 rfl)
        clear Hz; intro _ Hz
        refine goR hP170 [23, 26] [26] 2 8388607 83886079 Hz (m195.to ⟨il, il, il, il, il, il, il, il, il, il, il, il, il, il, il, il, il, il, il, il, il, il, il, il, il, il, il, il, il, il, il, il, il, trivial⟩) (.move rfl <| .loadBR hh (i := 54) rfl rfl Tryz.underlying29 rfl sz29rk (by simp) (by dsimp only [List.drop, List.take] <;> rfl) <| .nil) ?_
        clear Hz Az; intro Az Hz
        refine stepE_only 24 rfl (by kernel_rfl) (wantedG Hz rfl rfl rfl rfl) (fun K hK => ?_)
        refine e_call Hz Tryz.func20 rfl rfl rfl rfl (rImage_s R (clrS (inS2 es ((i : Int) + 1) dd)) (nilP p3) _ (rfM_is (clrS (inS2 es ((i : Int) + 1) dd)) (nilP p3) (m195.into [(1, 1), (2, 2), (3, 3), (4, 4), (5, 5), (6, 6), (7, 7), (8, 8)] (by decide) rfl)) (ks2_l es ((i : Int) + 1) dd (by omega) (by omega))) ?_
        rintro e w203 ⟨qa203, ca203, qb203, cb203, qc203, cc203, rfl, hx203, hy203, hz203, hb203⟩
        have m204 := m195.callF3 222 223 224 rfl rfl rfl hb203 hx203 hy203 hz203
        clear m195
        clear hb203 hx203 hy203 hz203
        refine ⟨_, rfl, ?_⟩; clear Hz Az; intro Az Hz
        refine hK _ _ (m204.to ⟨il, il, il, il, il, il, il, il, il, il, il, il, il, il, il, il, il, il, il, il, il, il, il, il, il, il, il, il, il, il, il, il, il, trivial⟩) ?_; clear hK K
        refine goA hP170 [25] 1 100663295 134217727 Hz (m204.to ⟨il, il, il, il, il, il, il, il, il, il, il, il, il, il, il, il, il, il, il, il, il, il, il, il, il, il, il, il, il, il, il, il, il, trivial⟩) (.p (fun _ _ h_ => y_fieldS h_ rfl Tryz.underlying32 rfl (td := _) Tryz.underlying29 rfl sz29rk (by dsimp only [List.drop, List.take] <;> rfl)) <| .nil) ?_
        clear Hz Az; intro Az Hz
        refine stepE_only 27 rfl (by kernel_rfl) (wantedG Hz rfl rfl rfl rfl) (fun K hK => ?_)
        refine e_call Hz Tryz.func28 rfl rfl rfl rfl (sbase_any (((i : Int) + 1) + 1) 19 [0, 1, 2] dd _ _ _ _ _ _ _ _ _ (by decide) ((m204.rd (i := 222) rfl).any) ((m204.rd (i := 223) rfl).any) ((m204.rd (i := 55) rfl).any) ((m204.rd (i := 92) rfl).any)) ?_
        rintro e w207 ⟨rfl, hb207⟩
        have m208 := m204.later hb207
        clear m204
        clear hb207
        refine ⟨_, rfl, ?_⟩; clear Hz Az; intro Az Hz
        refine hK _ _ (m208.to ⟨il, il, il, il, il, il, il, il, il, il, il, il, il, il, il, il, il, il, il, il, il, il, il, il, il, il, il, il, il, il, il, il, il, trivial⟩) ?_; clear hK K
        refine goA hP170 [28, 29] 2 268435455 1073741823 Hz (m208.to ⟨il, il, il, il, il, il, il, il, il, il, il, il, il, il, il, il, il, il, il, il, il, il, il, il, il, il, il, il, il, il, il, il, il, trivial⟩) (.pickT rfl rfl <| .assign rfl <| .nil) ?_
        clear Hz Az; intro Az Hz
        refine wpAnyE_done (by kernel_rfl) ?_ _
        refine hK12 _ _ ?_; clear hK12; try clear K12
        refine wp_ret ?_
        try dsimp only [Exit.then, Exit.inBlock]
        refine (ret1 (fn := Tryz.f5) Hz rfl rfl ?_)
        exact ⟨by first | rfl | simp, m208.below⟩
      replace Hz : Has 140 [(2, _), (7, _), (8, _), (9, _)] Az := Hz.only [2, 7, 8, 9]
      refine wp_region_lit ?_
      refine goCh Hz (.move rfl <| .fieldAddr (off := 6) rfl Tryz.underlying32 rfl (s := 0) (by kernel_rfl) rfl <| .loadB1 m51 (i := 50) rfl rfl rfl Tryz.underlying30 rfl <| .move rfl <| .sub rfl rfl (r := (i : Int)) (by rw [IntWalk.i64_in _ (by omega)]; omega) <| .nil) ?_
      clear Hz Az; intro Az Hz
      obtain ⟨b218, o218, vs218, hp218, hR218, ho218, m218⟩ := m51.openR (i := 53) rfl (i) (r := [.v (.int .i64 ei), .v (.int .i64 (termN l (i + 1))), .v (.int .i64 ek), .ns .u8 ed]) (ent_get hei) 103 rfl
      cases hp218; clear m51 ho218
      rcases hR218 with _ | ⟨hd218_0, _ | ⟨hd218_1, _ | ⟨hd218_2, _ | ⟨hd218_3, _ | _⟩⟩⟩⟩
      obtain rfl := hd218_0.v_out
      clear hd218_0
      obtain rfl := hd218_1.v_out
      clear hd218_1
      obtain rfl := hd218_2.v_out
      clear hd218_2
      obtain ⟨p219, c219, hv219, hc219⟩ := hd218_3.ns_shape; subst hv219
      have m219 := m218.dat 104 rfl (hd218_3.cast (fun _ h => (free_add rfl h))); clear m218 hd218_3
      refine goCh Hz (.c rfl (fun _ h_ => y_idx h_ rfl rfl Tryz.underlying30 sz62rk (i) rfl (by rw [List.length_map]; omega)) <| .fieldAddrQ 1 rfl Tryz.underlying62 rfl (s := 0) (by kernel_rfl) rfl <| .loadC1 m219 (i := 103) (q := 1) rfl rfl rfl Tryz.underlying3 rfl <| .nil) ?_
      clear Hz Az; intro Az Hz
      refine wpList_plain rfl (fun K hK => ?_)
      refine e_litN Hz m219 105 (k := .i64) rfl rfl Tryz.underlying26 inf3rk rfl rfl rfl rfl ?_
      clear Hz Az m219; intro g223 Az w224 Hz m224
      refine hK _ _ ?_; clear hK K
      refine goCh Hz (.move rfl <| .build rfl zc29rk fl29rk rfl (by dsimp only [setL, List.set] <;> rfl) <| .nil) ?_
      clear Hz Az; intro Az Hz
      refine wpList_plain rfl (fun K hK => ?_)
      refine e_alloc Hz m224 106 zc29rk rfl ?_
      clear Hz Az m224; intro g227 Az w228 Hz m228 hB228 hg228
      clear hB228 hg228
      refine hK _ _ ?_; clear hK K
      refine wpList_plain rfl (fun K hK => ?_)
      refine e_storeW Hz m228 106 rfl rfl rfl rfl rfl sz29rk ?_
      clear m228; intro w229 m229 hB229
      clear hB229
      refine hK _ _ ?_; clear hK K
      refine wpList_nil ?_
      have m230 := m229.freezeN 105 rfl; clear m229
      show K6 _ _
      exact hC6 _ _ ⟨_, _, _, Hz.only [7, 8, 9, 10], m230.ren [(54, 106), (55, 105), (50, 50), (51, 51), (53, 53), (92, 92), (1, 1), (2, 2), (3, 3), (4, 4), (5, 5), (6, 6), (7, 7), (8, 8)] (by decide)⟩
    replace Hz : Has 140 [(0, _), (1, _), (2, _), (6, _)] Az := Hz.only [0, 1, 2, 6]
    refine wp_region_lit ?_
    refine goCh Hz (.build rfl zc25rk fl25rk rfl (by dsimp only [setL, List.set] <;> rfl) .nil) ?_
    clear Hz Az; intro Az Hz
    refine wpList_plain rfl (fun K hK => ?_)
    refine e_litN Hz m3 40 (k := .i64) rfl rfl Tryz.underlying26 inf3rk rfl rfl rfl rfl ?_
    clear Hz Az m3; intro g233 Az w234 Hz m234
    refine hK _ _ ?_; clear hK K
    refine goCh Hz (.build rfl zc29rk fl29rk rfl (by dsimp only [setL, List.set] <;> rfl) <| .move rfl <| .nil) ?_
    clear Hz Az; intro Az Hz
    refine wpList_plain rfl (fun K hK => ?_)
    refine e_call Hz Tryz.func25 rfl rfl rfl rfl (ents_any 1 l _ _ _ ((h0.now' m234 rfl).any) (by omega) (by omega) hlb) ?_
    rintro e w237 ⟨po, co, rfl, hd237, hb237⟩
    have m238 := m234.callF 41 rfl hb237 hd237
    clear m234
    clear hb237 hd237
    refine ⟨_, rfl, ?_⟩; clear Hz Az; intro Az Hz
    refine hK _ _ ?_; clear hK K
    rw [hes] at Hz m238
    refine goCh Hz (.buildG rfl zc32rk ps32rk rfl .nil) ?_
    clear Hz Az; intro Az Hz
    refine wpList_plain rfl (fun K hK => ?_)
    refine e_alloc Hz m238 42 zc32rk rfl ?_
    clear Hz Az m238; intro g241 Az w242 Hz m242 hB242 hg242
    clear hB242 hg242
    refine hK _ _ ?_; clear hK K
    refine wpList_plain rfl (fun K hK => ?_)
    refine e_storeW Hz m242 42 rfl rfl rfl rfl rfl sz32rk ?_
    clear m242; intro w243 m243 hB243
    clear hB243
    refine hK _ _ ?_; clear hK K
    refine wpList_nil ?_
    have m244 := m243.freezeN 40 rfl; clear m243
    show K4 _ _
    exact hC4 _ _ ⟨_, _, _, _, _, Hz.only [0, 1, 2, 7], m244.ren [(50, 42), (51, 40), (53, 41), (92, 92)] (by decide)⟩
end Go.Proofs.YtndnnlbdnjndiaaGreat.K
