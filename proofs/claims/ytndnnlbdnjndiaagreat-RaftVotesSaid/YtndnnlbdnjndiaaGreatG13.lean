/- General laws of walks. -/
import Derived.Test.YtndnnlbdnjndiaaGreatG12
import Derived.Test.YtndnnlbdnjndiaaGreatG9
namespace Go.Proofs.YtndnnlbdnjndiaaGreat.K
open Go.ChangeShapes Go.WideShapes Go.ChangeAt Go.RowKit
set_option linter.unusedVariables false
set_option linter.unusedSimpArgs false
section
def ackS (s : RS) (f ix : Int) : RS := withX s (setN (setM s.x f (max (mx s.x f) ix)) f ((max (mx s.x f) ix) + 1))
def appOkS (s : RS) (f ix : Int) : RS := if mx s.x f < ix then (if nx (countS (ackS s f ix)).x f ≤ lastS (countS (ackS s f ix)) then wordS (countS (ackS s f ix)) f else (countS (ackS s f ix))) else (ackS s f ix)
set_option maxRecDepth 100000
set_option maxHeartbeats 4000000
theorem rofTerm_s (X : Cx) (R F : Nat) (no : Int) (w0 : World) (m0 : MemOk X w0 [] w0) :
   Calls Tryz.prog 98 #[.pointer (some ⟨R, 0, none⟩), .func (.func F) #[.pointer (some ⟨R, 0, none⟩)] #[], .int .i64 no] w0 fun e w' => ∃ B1 B2 B3, e = .returned (.func (.func 142) #[] #[.pointer (some ⟨B1, 0, none⟩), .pointer (some ⟨B2, 0, none⟩), .pointer (some ⟨B3, 0, none⟩)]) ∧ MemOk X w0 [(61, .box B1 33 [.pointer (some ⟨R, 0, none⟩)]), (62, .box B2 106 [(.func (.func F) #[.pointer (some ⟨R, 0, none⟩)] #[])]), (63, .box B3 3 [.int .i64 no])] w' := by
 refine enter (fn := Tryz.f98) Tryz.func98 rfl Tryz.ntmps98 rfl (fun Az Hz => ?_)
 simp only [List.zipIdx_cons, List.zipIdx_nil, List.map_cons, List.map_nil, Nat.reduceAdd, Nat.zero_add] at Hz
 refine wp_seq_k (fun K0 hK0 => ?_)
 refine wp_region_lit ?_
 refine wpList_plain rfl (fun K hK => ?_)
 refine e_box Hz m0 50 rfl rfl rfl ?_
 clear Hz Az m0; intro g1 Az w2 Hz m2 hB2 hg2
 clear hB2 hg2
 refine hK _ _ ?_; clear hK K
 refine wpList_plain rfl (fun K hK => ?_)
 refine e_box Hz m2 51 rfl rfl rfl ?_
 clear Hz Az m2; intro g3 Az w4 Hz m4 hB4 hg4
 clear hB4 hg4
 refine hK _ _ ?_; clear hK K
 refine wpList_plain rfl (fun K hK => ?_)
 refine e_box Hz m4 52 rfl rfl rfl ?_
 clear Hz Az m4; intro g5 Az w6 Hz m6 hB6 hg6
 clear hB6 hg6
 refine hK _ _ ?_; clear hK K
 refine goCh Hz (.assign rfl .nil) ?_
 clear Hz Az; intro Az Hz
 refine wpList_nil ?_
 refine hK0 _ _ ?_; clear hK0; try clear K0
 refine regS Hz (.makeFunc rfl <| .assign rfl <| .nil) ?_
 clear Hz Az; intro Az Hz
 refine wp_ret ?_
 try dsimp only [Exit.then, Exit.inBlock]
 refine (ret1 (fn := Tryz.f98) Hz rfl rfl ?_)
 exact ⟨_, _, _, rfl, m6.ren [(61, 50), (62, 51), (63, 52)] (by decide)⟩
theorem rhandler4_s (X : Cx) (R : Nat) (w0 : World) (m0 : MemOk X w0 [] w0) :
   Calls Tryz.prog 60 #[.pointer (some ⟨R, 0, none⟩), .int .i64 4] w0 fun e w' => ∃ B1 B2 B3, e = .returned (.func (.func 142) #[] #[.pointer (some ⟨B1, 0, none⟩), .pointer (some ⟨B2, 0, none⟩), .pointer (some ⟨B3, 0, none⟩)]) ∧ MemOk X w0 [(61, .box B1 33 [.pointer (some ⟨R, 0, none⟩)]), (62, .box B2 106 [(.func (.func 100) #[.pointer (some ⟨R, 0, none⟩)] #[])]), (63, .box B3 3 [.int .i64 0])] w' := by
 refine enter (fn := Tryz.f60) Tryz.func60 rfl Tryz.ntmps60 rfl (fun Az Hz => ?_)
 simp only [List.zipIdx_cons, List.zipIdx_nil, List.map_cons, List.map_nil, Nat.reduceAdd, Nat.zero_add] at Hz
 refine regS Hz (.assign rfl <| .nil) ?_
 clear Hz Az; intro Az Hz
 refine wp_seq_k (fun K0 hK0 => ?_)
 refine regS Hz (.move rfl <| .nil) ?_
 clear Hz Az; intro Az Hz
 refine wp_block ?_
 refine regS Hz (.eql rfl rfl <| .assign rfl <| .nil) ?_
 clear Hz Az; intro Az Hz
 refine bool_cases Hz (t := 6) rfl ?_ ?_
 · intro hb _; exact absurd hb (by decide)
 clear Hz; intro _ Hz
 refine wp_cond_false (Hz.ev (x := .tmp 6) rfl) ?_
 refine regS Hz (.eql rfl rfl <| .assign rfl <| .nil) ?_
 clear Hz Az; intro Az Hz
 refine bool_cases Hz (t := 10) rfl ?_ ?_
 · intro hb _; exact absurd hb (by decide)
 clear Hz; intro _ Hz
 refine wp_cond_false (Hz.ev (x := .tmp 10) rfl) ?_
 refine regS Hz (.eql rfl rfl <| .assign rfl <| .nil) ?_
 clear Hz Az; intro Az Hz
 refine bool_cases Hz (t := 14) rfl ?_ ?_
 · intro hb _; exact absurd hb (by decide)
 clear Hz; intro _ Hz
 refine wp_cond_false (Hz.ev (x := .tmp 14) rfl) ?_
 replace Hz : Has 44 [(0, _), (4, _), (5, _)] Az := Hz.only [0, 4, 5]
 refine regS Hz (.eql rfl rfl <| .assign rfl <| .nil) ?_
 clear Hz Az; intro Az Hz
 refine bool_cases Hz (t := 20) rfl ?_ ?_
 rotate_left
 · intro hb _; exact absurd hb (by decide)
 clear Hz; intro _ Hz
 refine wp_cond_true (Hz.ev (x := .tmp 20) rfl) ?_
 refine wp_seq_k (fun K1 hK1 => ?_)
 refine wp_region_lit ?_
 refine goCh Hz (.move rfl <| .move rfl <| .c rfl (fun _ h_ => y_makeFuncB h_ rfl rfl) <| .nil) ?_
 clear Hz Az; intro Az Hz
 refine wpList_plain rfl (fun K hK => ?_)
 refine e_call Hz Tryz.func98 rfl rfl rfl rfl (rofTerm_s _ R 100 0 _ (m0.into [] (by decide) rfl)) ?_
 rintro e w22 ⟨B1, B2, B3, rfl, hm22⟩
 have mx22 := m0.back hm22 [(61, 61), (62, 62), (63, 63)] (by decide); clear hm22 m0
 have m22 : MemOk _ _ [(61, _), (62, _), (63, _)] _ := mx22.only [61, 62, 63]; clear mx22
 refine ⟨_, rfl, ?_⟩; clear Hz Az; intro Az Hz
 refine hK _ _ ?_; clear hK K
 refine goCh Hz (.assign rfl .nil) ?_
 clear Hz Az; intro Az Hz
 refine wpList_nil ?_
 refine hK1 _ _ ?_; clear hK1; try clear K1
 refine wp_ret ?_
 try dsimp only [Exit.then, Exit.inBlock]
 refine (ret1 (fn := Tryz.f60) Hz rfl rfl ?_)
 exact ⟨B1, B2, B3, rfl, m22.only [61, 62, 63]⟩
end
section
theorem ROk.down {s : RS} (h : ROk s) (te : Int) (hr : s.rs.length ≤ 700000) (ht : 0 ≤ te ∧ te ≤ 1000000000000000) : ROk (hardS (withX s { s.x with ro := 0, le := -1, te := te, vo := -1 })) := ⟨h.l, h.n, h.co, h.ld, h.ms, by show (s.rs ++ [_]).length ≤ 800000; rw [List.length_append]; simp; omega, ht, h.id, h.si, h.be, h.ys⟩
set_option maxRecDepth 100000
set_option maxHeartbeats 4000000
end
section
def rokB (s : RS) : Bool :=
 decide (-1000000000000000 ≤ s.bi ∧ s.bi ≤ 1000000000000000) && decide (s.cf.length ≤ 900) && decide (s.bd.length ≤ 100000) && decide (s.es.length < 90000) &&
 (s.es.all fun e => decide (e.2.2.2.length ≤ 100000) && e.2.2.2.all fun z => decide (0 ≤ z) && decide (z ≤ 255)) &&
 decide (-1000000000 ≤ s.x.co ∧ s.x.co ≤ 1000000000) && decide (lastS s - s.x.co ≤ 900) && decide (s.ms.length ≤ 800000) && decide (s.rs.length ≤ 800000) &&
 decide (0 ≤ s.x.te ∧ s.x.te ≤ 1000000000000000) && decide (0 ≤ s.x.id ∧ s.x.id ≤ 6) && decide (-1000000000000000 ≤ s.x.si ∧ s.x.si ≤ 1000000000000000) &&
 decide (-1000000000000000 ≤ s.x.be ∧ s.x.be ≤ 1000000000000000) && decide (s.ys.length ≤ 800)
theorem rokB_ok {s : RS} (h : rokB s = true) : ROk s := by
 simp only [rokB, Bool.and_eq_true, decide_eq_true_eq, List.all_eq_true] at h
 obtain ⟨⟨⟨⟨⟨⟨⟨⟨⟨⟨⟨⟨⟨h0, h1⟩, h2⟩, h3⟩, h4⟩, h5⟩, h6⟩, h7⟩, h8⟩, h9⟩, h10⟩, h11⟩, h12⟩, h13⟩ := h
 exact ⟨⟨h0, h1, h2, by omega, fun e he => ⟨(h4 e he).1, fun z hz => (h4 e he).2 z hz⟩⟩, h3, h5, h6, h7, h8, h9, h10, h11, h12, h13⟩
def nxB (s : RS) : Bool := (othS s).all fun n => decide (s.bi < nx s.x n) && decide (nx s.x n ≤ 1000000000000000000)
theorem nxB_ok {s : RS} (h : nxB s = true) : ∀ n ∈ othS s, s.bi < nx s.x n ∧ nx s.x n ≤ 1000000000000000000 := by
 simp only [nxB, List.all_eq_true, Bool.and_eq_true, decide_eq_true_eq] at h
 exact h
abbrev tkS (s : RS) : RS := clrS (tickS s)
def tickN (s : RS) : Nat → RS
 | 0 => s
 | j + 1 => tkS (tickN s j)
def tkB (s : RS) : Bool := rokB s && (decide (s.x.ro ≠ 3) || nxB s)
theorem tkB_ok {s : RS} (h : tkB s = true) : ROk s ∧ (s.x.ro = 3 → ∀ n ∈ othS s, s.bi < nx s.x n ∧ nx s.x n ≤ 1000000000000000000) := by
 simp only [tkB, Bool.and_eq_true, Bool.or_eq_true, decide_eq_true_eq] at h
 exact ⟨rokB_ok h.1, fun h3 => h.2.elim (fun h9 => absurd h3 h9) nxB_ok⟩
def K0 : RS := newS 0 1 0 (-1) 0 0 [0] [] []
theorem K0_ok : ∀ j, j < 10 → tkB (tickN K0 j) = true := by decide +kernel
def K10 : RS := ⟨⟨0, 1, 1, 0, 0, 1, 1, 1, 1, 1, 1, 1, 0, 0, 0, 0, 0, 0, 0, 3, 0, 1, 0, 0⟩, 0, 0, [0], [], [(1, 1, 0, [])], [0], [], [], false⟩
theorem K10_is : tickN K0 10 = K10 := by kernel_rfl
def K11 : RS := ⟨⟨0, 1, 1, 0, 0, 1, 1, 1, 1, 1, 1, 1, 0, 0, 0, 0, 0, 0, 0, 3, 0, 2, 0, 0⟩, 0, 0, [0], [], [(1, 1, 0, []), (2, 1, 1, [97])], [0], [], [], false⟩
theorem K11_is : clrS (tellS (addS K10 1 [97])) = K11 := by kernel_rfl
def K12 : RS := withX K11 { K11.x with ap := 2 }
theorem K12_is : withX K11 { K11.x with ap := K11.x.co } = K12 := by kernel_rfl
end
section
theorem fl25kn : flatS Tryz.prog 25 [.int .i64 0, .int .i64 0] = true := by kernel_rfl
theorem fl29kn : flatS Tryz.prog 29 [.int .i64 0, .int .i64 0, .slice none 0 0, .slice none 0 0] = true := by kernel_rfl
theorem inf3kn : (Tryz.prog.info? 3).map (fun i => (i.zero, i.size, i.bytes)) = some (some (.int .i64 0), 1, 8) := by kernel_rfl
theorem inf5kn : (Tryz.prog.info? 5).map (fun i => (i.zero, i.size, i.bytes)) = some (some (.int .u8 0), 1, 1) := by kernel_rfl
theorem ps32kn : placesS Tryz.prog 32 = some [(0, 2), (2, 4), (6, 1)] := by kernel_rfl
theorem sz29kn : (Tryz.prog.info? 29).map (·.size) = some 4 := by kernel_rfl
theorem sz46kn : (Tryz.prog.info? 46).map (·.size) = some 3 := by kernel_rfl
theorem zc25kn : ((Tryz.prog.info? 25).bind (·.zero)).map (·.cells.toList) = some [.int .i64 0, .int .i64 0] := by kernel_rfl
theorem zc29kn : ((Tryz.prog.info? 29).bind (·.zero)).map (·.cells.toList) = some [.int .i64 0, .int .i64 0, .slice none 0 0, .slice none 0 0] := by kernel_rfl
theorem zc32kn : ((Tryz.prog.info? 32).bind (·.zero)).map (·.cells.toList) = some [.int .i64 0, .int .i64 0, .int .i64 0, .int .i64 0, .slice none 0 0, .slice none 0 0, .slice none 0 0] := by kernel_rfl
theorem zc46kn : ((Tryz.prog.info? 46).bind (·.zero)).map (·.cells.toList) = some [.slice none 0 0, .slice none 0 0, .bool false] := by kernel_rfl

set_option maxRecDepth 100000
set_option maxHeartbeats 4000000
theorem rknown_any (w0 : World) : Calls Tryz.prog 10 #[] w0 fun e w' => e = .returned (.bool true) ∧ Below w0.heap.size w0 w' := by
 refine enter (fn := Tryz.f10) Tryz.func10 rfl Tryz.ntmps10 rfl (fun Az Hz => ?_)
 simp only [List.zipIdx_cons, List.zipIdx_nil, List.map_cons, List.map_nil, Nat.reduceAdd, Nat.zero_add] at Hz
 have m0 := MemOk.start (fun _ => False) w0
 refine regS Hz (.assign rfl <| .nil) ?_
 clear Hz Az; intro Az Hz
 refine wp_seq_k (fun K0 hK0 => ?_)
 refine wp_region_lit ?_
 refine goCh Hz (.build rfl zc25kn fl25kn rfl (by dsimp only [setL, List.set] <;> rfl) .nil) ?_
 clear Hz Az; intro Az Hz
 refine wpList_plain rfl (fun K hK => ?_)
 refine e_litN Hz m0 40 (k := .i64) rfl rfl Tryz.underlying26 inf3kn rfl rfl rfl rfl ?_
 clear Hz Az m0; intro g4 Az w5 Hz m5
 refine hK _ _ ?_; clear hK K
 refine goCh Hz (.build rfl zc29kn fl29kn rfl (by dsimp only [setL, List.set] <;> rfl) <| .buildG rfl zc32kn ps32kn rfl <| .nil) ?_
 clear Hz Az; intro Az Hz
 have m8 := m5.freezeN 40 rfl; clear m5
 have m9 := m8.dat 41 rfl (Rd.nilN _ _ .u8 none); clear m8
 have m10 := m9.dat 42 rfl (Rd.nil4 _ _); clear m9
 refine wpList_plain rfl (fun K hK => ?_)
 refine e_call Hz Tryz.func11 rfl rfl rfl rfl (rNew_s _ 0 1 0 (-1) 0 0 [0] [] [] _ _ _ _ _ _ _ _ (by decide) (by decide) (by decide) (by decide) (by intro e he; cases he) (m10.into [(5, 40), (6, 41), (7, 42)] (by decide) rfl)) ?_
 rintro e w11 ⟨R, p1, rfl, hm11⟩
 have mx11 := m10.back hm11 [(1, 1), (2, 2), (3, 3), (4, 4), (5, 5), (6, 6), (7, 7), (8, 8)] (by decide); clear hm11 m10
 have m11 : MemOk _ _ [(1, _), (2, _), (3, _), (4, _), (5, _), (6, _), (7, _), (8, _)] _ := mx11.only [1, 2, 3, 4, 5, 6, 7, 8]; clear mx11
 refine ⟨_, rfl, ?_⟩; clear Hz Az; intro Az Hz
 refine hK _ _ ?_; clear hK K
 refine goCh Hz (.assign rfl .nil) ?_
 clear Hz Az; intro Az Hz
 refine wpList_nil ?_
 refine hK0 _ _ ?_; clear hK0; try clear K0
 refine wp_seq_k (fun K1 hK1 => ?_)
 refine regS Hz (.move rfl <| .eqlP rfl rfl Tryz.underlying33 <| .nil) ?_
 clear Hz Az; intro Az Hz
 refine bool_cases Hz (t := 14) rfl ?_ ?_
 · intro hb _; exact absurd hb (by simp)
 clear Hz; intro _ Hz
 refine wp_cond_false (Hz.ev (x := .tmp 14) rfl) ?_
 refine wp_skip ?_
 refine hK1 _ _ ?_; clear hK1; try clear K1
 refine wp_seq_k (fun K2 hK2 => ?_)
 replace Hz : Has 93 [(0, _), (1, _)] Az := Hz.only [0, 1]
 refine regS Hz (.assign rfl <| .nil) ?_
 clear Hz Az; intro Az Hz
 refine wp_block ?_
 refine wp_loop_ghost (fun g a w => ∃ (k : Nat) (p9 : RP), k ≤ 10 ∧ g = 10 - k ∧ Has 93 [(1, .pointer (some ⟨R, 0, none⟩)), (2, .int .i64 (k : Nat))] a ∧ MemOk (cx (fun _ => False) w0) w0 (rfM R (tickN K0 k) (nilP p9)) w) (10) ?_ ?_
 · exact ⟨0, p1, Nat.zero_le _, rfl, Hz.only [1, 2], m11.only [1, 2, 3, 4, 5, 6, 7, 8]⟩
 ·
  clear Hz m11
  rintro g Az w19 ⟨k, p9, hkl, hg, Hz, m19⟩
  refine wp_seq_k (fun K3 hK3 => ?_)
  refine regS Hz (.move rfl <| .lss rfl rfl <| .nil) ?_
  clear Hz Az; intro Az Hz
  refine bool_cases Hz (t := 16) rfl ?_ ?_
  ·
   clear Hz; intro hb22 Hz
   try simp only [Q1x, Q2x, Q3x, Q4x, Q5x, Q6x, Q7x, Q8x, Q9x, Q0x, Qax, Qbx] at hb22
   have hk : k < 10 := by omega
   refine wp_cond_true (Hz.ev (x := .tmp 16) rfl) ?_
   refine wp_skip ?_
   refine hK3 _ _ ?_; clear hK3; try clear K3
   refine wp_seq_k (fun K4 hK4 => ?_)
   refine wp_block ?_
   refine wp_region_lit ?_
   refine goCh Hz (.move rfl .nil) ?_
   clear Hz Az; intro Az Hz
   refine wpList_plain rfl (fun K hK => ?_)
   refine e_call Hz Tryz.func18 rfl rfl rfl rfl (rtick_s _ R (tickN K0 k) (nilP p9) _ (tkB_ok (K0_ok k hk)).1 (tkB_ok (K0_ok k hk)).2 (m19.into [(1, 1), (2, 2), (3, 3), (4, 4), (5, 5), (6, 6), (7, 7), (8, 8)] (by decide) rfl)) ?_
   rintro e w24 ⟨p2, o2, rfl, hm24⟩
   have mx24 := m19.back hm24 [(1, 1), (2, 2), (3, 3), (4, 4), (5, 5), (6, 6), (7, 7), (8, 8), (11, 11), (12, 12)] (by decide); clear hm24 m19
   have m24 : MemOk _ _ [(1, _), (2, _), (3, _), (4, _), (5, _), (6, _), (7, _), (8, _), (11, _), (12, _)] _ := mx24.only [1, 2, 3, 4, 5, 6, 7, 8, 11, 12]; clear mx24
   refine ⟨_, rfl, ?_⟩; clear Hz Az; intro Az Hz
   refine hK _ _ ?_; clear hK K
   refine wpList_nil ?_
   refine hK4 _ _ ?_; clear hK4; try clear K4
   refine wp_region_lit ?_
   refine goCh Hz (.move rfl <| .add rfl rfl (r := ((k + 1 : Nat) : Int)) (by rw [IntWalk.i64_in _ (by omega)]; omega) <| .assign rfl <| .nil) ?_
   clear Hz Az; intro Az Hz
   refine wpList_nil ?_
   show ∃ n', n' < _ ∧ _
   exact ⟨10 - (k + 1), by omega, k + 1, p2, by omega, rfl, Hz.only [1, 2], m24.only [1, 2, 3, 4, 5, 6, 7, 8]⟩
  ·
   clear Hz; intro hb22 Hz
   try simp only [Q1x, Q2x, Q3x, Q4x, Q5x, Q6x, Q7x, Q8x, Q9x, Q0x, Qax, Qbx] at hb22
   obtain rfl : k = 10 := by omega
   rw [K10_is] at m19
   refine wp_cond_false (Hz.ev (x := .tmp 16) rfl) ?_
   refine wp_exit ?_
   refine hK2 _ _ ?_; clear hK2; try clear K2
   refine wp_seq_k (fun K5 hK5 => ?_)
   refine wp_region_lit ?_
   refine goCh Hz (.move rfl .nil) ?_
   clear Hz Az; intro Az Hz
   refine st_const Hz m19 100 rfl rfl Tryz.underlying27 Tryz.underlying5 inf5kn rfl rfl rfl rfl rfl ?_
   clear Hz Az m19; intro g31 a31 w31 ha31 m31
   refine wpList_plain rfl (fun K hK => ?_)
   refine e_call ha31 Tryz.func31 rfl rfl rfl rfl (rPropose_s _ R K10 (nilP p9) 1 [97] _ _ _ (rokB_ok (by decide)) rfl (by decide) (by decide) (by unfold ByteL; decide) (nxB_ok (s := addS K10 1 [97]) (by decide +kernel)) (m31.into [(9, 100), (1, 1), (2, 2), (3, 3), (4, 4), (5, 5), (6, 6), (7, 7), (8, 8)] (by decide) rfl)) ?_
   rintro e w32 ⟨p3, o3, rfl, hm32⟩
   have mx32 := m31.back hm32 [(1, 1), (2, 2), (3, 3), (4, 4), (5, 5), (6, 6), (7, 7), (8, 8), (11, 11), (12, 12)] (by decide); clear hm32 m31
   have m32 : MemOk _ _ [(1, _), (2, _), (3, _), (4, _), (5, _), (6, _), (7, _), (8, _), (11, _), (12, _)] _ := mx32.only [1, 2, 3, 4, 5, 6, 7, 8, 11, 12]; clear mx32
   refine ⟨_, rfl, ?_⟩; clear ha31 a31; intro Az Hz
   refine hK _ _ ?_; clear hK K
   refine goCh Hz (.move rfl <| .extract rfl rfl <| .extract rfl rfl <| .extract rfl rfl <| .nil) ?_
   clear Hz Az; intro Az Hz
   refine wpList_plain rfl (fun K hK => ?_)
   refine e_alloc Hz m32 101 zc46kn rfl ?_
   clear Hz Az m32; intro g38 Az w39 Hz m39 hB39 hg39
   clear hB39 hg39
   refine hK _ _ ?_; clear hK K
   refine wpList_plain rfl (fun K hK => ?_)
   refine e_storeW Hz m39 101 rfl rfl rfl rfl rfl sz46kn ?_
   clear m39; intro w40 m40 hB40
   clear hB40
   refine hK _ _ ?_; clear hK K
   refine goCh Hz (.assign rfl <| .assign rfl <| .nil) ?_
   clear Hz Az; intro Az Hz
   refine wpList_nil ?_
   refine hK5 _ _ ?_; clear hK5; try clear K5
   replace Hz : Has 93 [(1, _), (2, _), (3, _), (4, _), (5, _)] Az := Hz.only [1, 2, 3, 4, 5]
   refine wp_seq_k (fun K6 hK6 => ?_)
   refine wp_region_lit ?_
   refine goCh Hz (.move rfl .nil) ?_
   clear Hz Az; intro Az Hz
   rw [K11_is] at m40
   refine wpList_plain rfl (fun K hK => ?_)
   refine e_call Hz Tryz.func32 rfl rfl rfl rfl (rReady_s _ R K11 (nilP p3) _ (rokB_ok (s := K11) (by decide)).l (rokB_ok (by decide)) (by decide) (m40.into [(1, 1), (2, 2), (3, 3), (4, 4), (5, 5), (6, 6), (7, 7), (8, 8)] (by decide) rfl)) ?_
   rintro e w46 ⟨u4, c4, rfl, hm46⟩
   have mx46 := m40.back hm46 [(1, 1), (2, 2), (3, 3), (4, 4), (5, 5), (6, 6), (7, 7), (8, 8), (31, 11)] (by decide); clear hm46 m40
   have m46 : MemOk _ _ [(1, _), (2, _), (3, _), (4, _), (5, _), (6, _), (7, _), (8, _), (31, _), (11, _), (12, _), (101, _)] _ := mx46.only [1, 2, 3, 4, 5, 6, 7, 8, 31, 11, 12, 101]; clear mx46
   refine ⟨_, rfl, ?_⟩; clear Hz Az; intro Az Hz
   refine hK _ _ ?_; clear hK K
   refine goCh Hz (.assign rfl .nil) ?_
   clear Hz Az; intro Az Hz
   refine wpList_nil ?_
   refine hK6 _ _ ?_; clear hK6; try clear K6
   refine wp_seq_k (fun K7 hK7 => ?_)
   refine wp_region_lit ?_
   refine goCh Hz (.move rfl .nil) ?_
   clear Hz Az; intro Az Hz
   rw [K12_is] at m46
   refine wpList_plain rfl (fun K hK => ?_)
   refine e_call Hz Tryz.func14 rfl rfl rfl rfl (rClone_s _ R K12 p3 _ (rokB_ok (s := K12) (by decide)).l (by decide) rfl (m46.into [(1, 1), (2, 2), (3, 3), (4, 4), (5, 5), (6, 6), (7, 7), (8, 8)] (by decide) rfl)) ?_
   rintro e w51 ⟨C, p5, rfl, hm51⟩
   have mx51 := m46.back hm51 [(1, 1), (2, 2), (3, 3), (4, 4), (5, 5), (6, 6), (7, 7), (8, 8), (21, 21), (22, 22), (23, 23), (24, 24), (25, 25), (26, 26), (27, 27), (28, 28)] (by decide); clear hm51 m46
   have m51 : MemOk _ _ [(1, _), (2, _), (3, _), (4, _), (5, _), (6, _), (7, _), (8, _), (21, _), (22, _), (23, _), (24, _), (25, _), (26, _), (27, _), (28, _), (11, _), (12, _), (31, _), (101, _)] _ := mx51.only [1, 2, 3, 4, 5, 6, 7, 8, 21, 22, 23, 24, 25, 26, 27, 28, 11, 12, 31, 101]; clear mx51
   refine ⟨_, rfl, ?_⟩; clear Hz Az; intro Az Hz
   refine hK _ _ ?_; clear hK K
   refine goCh Hz (.assign rfl .nil) ?_
   clear Hz Az; intro Az Hz
   refine wpList_nil ?_
   refine hK7 _ _ ?_; clear hK7; try clear K7
   refine wp_seq_k (fun K8 hK8 => ?_)
   refine wp_region_lit ?_
   refine goCh Hz (.move rfl .nil) ?_
   clear Hz Az; intro Az Hz
   refine st_const Hz m51 102 rfl rfl Tryz.underlying27 Tryz.underlying5 inf5kn rfl rfl rfl rfl rfl ?_
   clear Hz Az m51; intro g56 a56 w56 ha56 m56
   refine wpList_plain rfl (fun K hK => ?_)
   refine e_call ha56 Tryz.func34 rfl rfl rfl rfl (rCompact_s _ C (clrS K12) (nilP p5) 1 [115] _ _ _ (rokB_ok (by decide)) (by decide) rfl rfl (rokB_ok (s := compS K12 1 1 [115]) (by decide +kernel)).l (m56.into [(9, 102), (1, 21), (2, 22), (3, 23), (4, 24), (5, 25), (6, 26), (7, 27), (8, 28)] (by decide) rfl)) ?_
   rintro e w57 ⟨p6, o6, rfl, hm57⟩
   have mx57 := m56.back hm57 [(21, 1), (22, 2), (23, 3), (24, 4), (25, 5), (26, 6), (27, 7), (28, 8), (41, 11), (42, 12)] (by decide); clear hm57 m56
   have m57 : MemOk _ _ [(21, _), (22, _), (23, _), (24, _), (25, _), (26, _), (27, _), (28, _), (41, _), (42, _), (1, _), (2, _), (3, _), (4, _), (5, _), (6, _), (7, _), (8, _), (11, _), (12, _), (31, _), (101, _)] _ := mx57.only [21, 22, 23, 24, 25, 26, 27, 28, 41, 42, 1, 2, 3, 4, 5, 6, 7, 8, 11, 12, 31, 101]; clear mx57
   refine ⟨_, rfl, ?_⟩; clear ha56 a56; intro Az Hz
   refine hK _ _ ?_; clear hK K
   refine wpList_nil ?_
   refine hK8 _ _ ?_; clear hK8; try clear K8
   replace Hz : Has 93 [(1, _), (2, _), (3, _), (4, _), (5, _), (6, _), (7, _)] Az := Hz.only [1, 2, 3, 4, 5, 6, 7]
   refine wp_seq_k (fun K9 hK9 => ?_)
   refine wp_region_lit ?_
   refine goCh Hz (.move rfl .nil) ?_
   clear Hz Az; intro Az Hz
   refine wpList_plain rfl (fun K hK => ?_)
   refine e_call Hz Tryz.func29 rfl rfl rfl rfl (rRole _ R (clrS K12) (nilP p3) _ (m57.into [(1, 1), (2, 2), (3, 3), (4, 4), (5, 5), (6, 6), (7, 7), (8, 8)] (by decide) rfl)) ?_
   rintro e w62 ⟨rfl, hm62⟩
   have mx62 := m57.back hm62 [(1, 1), (2, 2), (3, 3), (4, 4), (5, 5), (6, 6), (7, 7), (8, 8)] (by decide); clear hm62 m57
   have m62 : MemOk _ _ [(1, _), (2, _), (3, _), (4, _), (5, _), (6, _), (7, _), (8, _), (11, _), (12, _), (21, _), (22, _), (23, _), (24, _), (25, _), (26, _), (27, _), (28, _), (31, _), (41, _), (42, _), (101, _)] _ := mx62.only [1, 2, 3, 4, 5, 6, 7, 8, 11, 12, 21, 22, 23, 24, 25, 26, 27, 28, 31, 41, 42, 101]; clear mx62
   refine ⟨_, rfl, ?_⟩; clear Hz Az; intro Az Hz
   refine hK _ _ ?_; clear hK K
   refine goCh Hz (.eql rfl rfl <| .move rfl <| .nil) ?_
   clear Hz Az; intro Az Hz
   refine bool_cases Hz (t := 40) rfl ?_ ?_
   rotate_left
   · intro hb _; exact absurd hb (by first | decide | simp)
   clear Hz; intro _ Hz
   refine goCh Hz (.moveZ rfl .nil) ?_
   clear Hz Az; intro Az Hz
   refine st_ge Hz rfl rfl rfl rfl (fun K hK => ?_)
   refine e_call Hz Tryz.func30 rfl rfl rfl rfl (rTerm _ R (clrS K12) (nilP p3) _ (m62.into [(1, 1), (2, 2), (3, 3), (4, 4), (5, 5), (6, 6), (7, 7), (8, 8)] (by decide) rfl)) ?_
   rintro e w68 ⟨rfl, hm68⟩
   have mx68 := m62.back hm68 [(1, 1), (2, 2), (3, 3), (4, 4), (5, 5), (6, 6), (7, 7), (8, 8)] (by decide); clear hm68 m62
   have m68 : MemOk _ _ [(1, _), (2, _), (3, _), (4, _), (5, _), (6, _), (7, _), (8, _), (11, _), (12, _), (21, _), (22, _), (23, _), (24, _), (25, _), (26, _), (27, _), (28, _), (31, _), (41, _), (42, _), (101, _)] _ := mx68.only [1, 2, 3, 4, 5, 6, 7, 8, 11, 12, 21, 22, 23, 24, 25, 26, 27, 28, 31, 41, 42, 101]; clear mx68
   refine ⟨_, rfl, ?_⟩; clear Hz Az; intro Az Hz
   refine hK _ _ ?_; clear hK K
   refine goCh Hz (.eqlZ rfl rfl <| .pickT rfl rfl <| .move rfl <| .nil) ?_
   clear Hz Az; intro Az Hz
   refine bool_cases Hz (t := 45) rfl ?_ ?_
   rotate_left
   · intro hb _; exact absurd hb (by first | decide | simp)
   clear Hz; intro _ Hz
   refine goCh Hz (.moveZ rfl .nil) ?_
   clear Hz Az; intro Az Hz
   refine st_ge Hz rfl rfl rfl rfl (fun K hK => ?_)
   refine e_call Hz Tryz.func33 rfl rfl rfl rfl (rLead _ R (clrS K12) (nilP p3) _ (m68.into [(1, 1), (2, 2), (3, 3), (4, 4), (5, 5), (6, 6), (7, 7), (8, 8)] (by decide) rfl)) ?_
   rintro e w75 ⟨rfl, hm75⟩
   have mx75 := m68.back hm75 [(1, 1), (2, 2), (3, 3), (4, 4), (5, 5), (6, 6), (7, 7), (8, 8)] (by decide); clear hm75 m68
   have m75 : MemOk _ _ [(1, _), (2, _), (3, _), (4, _), (5, _), (6, _), (7, _), (8, _), (11, _), (12, _), (21, _), (22, _), (23, _), (24, _), (25, _), (26, _), (27, _), (28, _), (31, _), (41, _), (42, _), (101, _)] _ := mx75.only [1, 2, 3, 4, 5, 6, 7, 8, 11, 12, 21, 22, 23, 24, 25, 26, 27, 28, 31, 41, 42, 101]; clear mx75
   refine ⟨_, rfl, ?_⟩; clear Hz Az; intro Az Hz
   refine hK _ _ ?_; clear hK K
   refine goCh Hz (.eqlZ rfl rfl <| .pickT rfl rfl <| .move rfl <| .nil) ?_
   clear Hz Az; intro Az Hz
   refine bool_cases Hz (t := 50) rfl ?_ ?_
   rotate_left
   · intro hb _; exact absurd hb (by first | decide | simp)
   clear Hz; intro _ Hz
   refine goCh Hz (.moveZ rfl <| .pickT rfl rfl <| .move rfl <| .moveZ rfl <| .eqlZ rfl rfl <| .pickT rfl rfl <| .move rfl <| .nil) ?_
   clear Hz Az; intro Az Hz
   refine bool_cases Hz (t := 57) rfl ?_ ?_
   rotate_left
   · intro hb _; exact absurd hb (by first | decide | simp)
   clear Hz; intro _ Hz
   refine goCh Hz (.fieldAddrZ (off := 1) rfl Tryz.underlying46 rfl (s := 0) (by kernel_rfl) rfl <| .loadB1Z m75 (i := 101) rfl rfl rfl Tryz.underlying44 rfl <| .lenZ rfl Tryz.underlying44 <| .eqlZ rfl rfl <| .pickT rfl rfl <| .move rfl <| .nil) ?_
   clear Hz Az; intro Az Hz
   refine bool_cases Hz (t := 63) rfl ?_ ?_
   rotate_left
   · intro hb _; exact absurd hb (by first | decide | simp)
   clear Hz; intro _ Hz
   refine goCh Hz (.moveZ rfl <| .lenZ rfl Tryz.underlying30 <| .eqlZ rfl rfl <| .pickT rfl rfl <| .move rfl <| .nil) ?_
   clear Hz Az; intro Az Hz
   refine bool_cases Hz (t := 68) rfl ?_ ?_
   rotate_left
   · intro hb _; exact absurd hb (by first | decide | simp)
   clear Hz; intro _ Hz
   refine goCh Hz (.moveZ rfl .nil) ?_
   clear Hz Az; intro Az Hz
   refine st_ge Hz rfl rfl rfl rfl (fun K hK => ?_)
   refine e_call Hz Tryz.func26 rfl rfl rfl rfl (rCommit _ R (clrS K12) (nilP p3) _ (m75.into [(1, 1), (2, 2), (3, 3), (4, 4), (5, 5), (6, 6), (7, 7), (8, 8)] (by decide) rfl)) ?_
   rintro e w103 ⟨rfl, hm103⟩
   have mx103 := m75.back hm103 [(1, 1), (2, 2), (3, 3), (4, 4), (5, 5), (6, 6), (7, 7), (8, 8)] (by decide); clear hm103 m75
   have m103 : MemOk _ _ [(1, _), (2, _), (3, _), (4, _), (5, _), (6, _), (7, _), (8, _), (11, _), (12, _), (21, _), (22, _), (23, _), (24, _), (25, _), (26, _), (27, _), (28, _), (31, _), (41, _), (42, _), (101, _)] _ := mx103.only [1, 2, 3, 4, 5, 6, 7, 8, 11, 12, 21, 22, 23, 24, 25, 26, 27, 28, 31, 41, 42, 101]; clear mx103
   refine ⟨_, rfl, ?_⟩; clear Hz Az; intro Az Hz
   refine hK _ _ ?_; clear hK K
   refine goCh Hz (.eqlZ rfl rfl <| .pickT rfl rfl <| .move rfl <| .nil) ?_
   clear Hz Az; intro Az Hz
   refine bool_cases Hz (t := 73) rfl ?_ ?_
   rotate_left
   · intro hb _; exact absurd hb (by first | decide | simp)
   clear Hz; intro _ Hz
   refine goCh Hz (.moveZ rfl .nil) ?_
   clear Hz Az; intro Az Hz
   refine st_ge Hz rfl rfl rfl rfl (fun K hK => ?_)
   refine e_call Hz Tryz.func20 rfl rfl rfl rfl (rImage_s C (clrS (addR (compS K12 1 1 [115]) (baseR (compS K12 1 1 [115]).bi (compS K12 1 1 [115]).bt (compS K12 1 1 [115]).cf (compS K12 1 1 [115]).bd))) (nilP p6) _ (rfM_is _ _ (m103.into [(1, 21), (2, 22), (3, 23), (4, 24), (5, 25), (6, 26), (7, 27), (8, 28)] (by decide) rfl)) (rokB_ok (s := compS K12 1 1 [115]) (by decide +kernel)).l) ?_
   rintro e w110 ⟨q1, c1, q2, c2, q3, c3, rfl, hx1, hx2, hx3, hb110⟩
   clear hx1 hx2 hx3
   have m111 := m103.later hb110
   clear m103
   clear hb110
   refine ⟨_, rfl, ?_⟩; clear Hz Az; intro Az Hz
   refine hK _ _ ?_; clear hK K
   refine goCh Hz (.g rfl rfl rfl rfl (fun _ h_ => y_fieldS h_ rfl Tryz.underlying32 rfl (td := _) Tryz.underlying29 rfl sz29kn (by dsimp only [List.drop, List.take] <;> rfl)) <| .field1Z rfl Tryz.underlying29 rfl (td := _) Tryz.underlying3 rfl rfl <| .eqlZ rfl rfl <| .pickT rfl rfl <| .move rfl <| .nil) ?_
   clear Hz Az; intro Az Hz
   refine bool_cases Hz (t := 80) rfl ?_ ?_
   rotate_left
   · intro hb _; exact absurd hb (by first | decide | simp)
   clear Hz; intro _ Hz
   refine goCh Hz (.moveZ rfl .nil) ?_
   clear Hz Az; intro Az Hz
   refine st_ge Hz rfl rfl rfl rfl (fun K hK => ?_)
   refine e_call Hz Tryz.func20 rfl rfl rfl rfl (rImage_s R (clrS K12) (nilP p3) _ (rfM_is (clrS K12) (nilP p3) (m111.into [(1, 1), (2, 2), (3, 3), (4, 4), (5, 5), (6, 6), (7, 7), (8, 8)] (by decide) rfl)) (rokB_ok (s := K12) (by decide)).l) ?_
   rintro e w120 ⟨q1, c1, q2, c2, q3, c3, rfl, hx1, hx2, hx3, hb120⟩
   clear hx1 hx2 hx3
   have m121 := m111.later hb120
   clear m111
   clear hb120
   refine ⟨_, rfl, ?_⟩; clear Hz Az; intro Az Hz
   refine hK _ _ ?_; clear hK K
   refine goCh Hz (.g rfl rfl rfl rfl (fun _ h_ => y_fieldS h_ rfl Tryz.underlying32 rfl (td := _) Tryz.underlying29 rfl sz29kn (by dsimp only [List.drop, List.take] <;> rfl)) <| .field1Z rfl Tryz.underlying29 rfl (td := _) Tryz.underlying3 rfl rfl <| .eqlZ rfl rfl <| .pickT rfl rfl <| .move rfl <| .nil) ?_
   clear Hz Az; intro Az Hz
   refine bool_cases Hz (t := 87) rfl ?_ ?_
   rotate_left
   · intro hb _; exact absurd hb (by first | decide | simp)
   clear Hz; intro _ Hz
   refine goCh Hz (.moveZ rfl .nil) ?_
   clear Hz Az; intro Az Hz
   refine st_ge Hz rfl rfl rfl rfl (fun K hK => ?_)
   refine e_call Hz Tryz.func35 rfl rfl rfl rfl (rConf_s R (clrS K12) (nilP p3) _ (rfM_is (clrS K12) (nilP p3) (m121.into [(1, 1), (2, 2), (3, 3), (4, 4), (5, 5), (6, 6), (7, 7), (8, 8)] (by decide) rfl)) (rokB_ok (s := K12) (by decide)).l) ?_
   rintro e w130 ⟨q1, c1, rfl, hx1, hb130⟩
   clear hx1
   have m131 := m121.later hb130
   clear m121
   clear hb130
   refine ⟨_, rfl, ?_⟩; clear Hz Az; intro Az Hz
   refine hK _ _ ?_; clear hK K
   refine goCh Hz (.lenZ rfl Tryz.underlying26 <| .eqlZ rfl rfl <| .pickT rfl rfl <| .assign rfl <| .nil) ?_
   clear Hz Az; intro Az Hz
   refine wpList_nil ?_
   refine hK9 _ _ ?_; clear hK9; try clear K9
   refine wp_ret ?_
   try dsimp only [Exit.then, Exit.inBlock]
   refine (ret1 (fn := Tryz.f10) Hz rfl rfl ?_)
   exact ⟨by first | rfl | decide, m131.below⟩
end
section
def Seq (pv : Int) (es : List (Int × Int × Int × List Int)) : Prop := ∀ j, j < es.length → (es.getD j e0).1 = pv + 1 + j
theorem Seq.runN {pv : Int} {es : List (Int × Int × Int × List Int)} (h : Seq pv es) : K.runN pv es = es.length := (Run.eq (k := es.length) ⟨Nat.le_refl _, h, .inl rfl⟩).symm
theorem Seq.run {pv : Int} {es : List (Int × Int × Int × List Int)} (h : Seq pv es) : es.take (K.runN pv es) = es := by rw [h.runN]; exact List.take_length
theorem Seq.drop {pv : Int} {es : List (Int × Int × Int × List Int)} (h : Seq pv es) (n : Nat) : Seq (pv + n) (es.drop n) := fun j hj => by
 rw [List.length_drop] at hj
 have := h (n + j) (by omega)
 rw [List.getD, List.getElem?_drop]
 rw [List.getD] at this
 rw [this]; push_cast; omega
theorem Seq.take {pv : Int} {es : List (Int × Int × Int × List Int)} (h : Seq pv es) (n : Nat) : Seq pv (es.take n) := fun j hj => by
 rw [List.length_take] at hj
 have := h j (by omega)
 rw [List.getD, List.getElem?_take_of_lt (by omega)]
 rw [List.getD] at this
 exact this
set_option maxRecDepth 100000
set_option maxHeartbeats 4000000
end
end Go.Proofs.YtndnnlbdnjndiaaGreat.K
