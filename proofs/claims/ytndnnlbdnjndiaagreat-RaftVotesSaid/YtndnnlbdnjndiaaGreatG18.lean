/- General laws of walks. -/
import Derived.Test.YtndnnlbdnjndiaaGreatG17
namespace Go.Proofs.YtndnnlbdnjndiaaGreat.K
open Go.ChangeShapes Go.WideShapes Go.ChangeAt Go.RowKit
set_option linter.unusedVariables false
set_option linter.unusedSimpArgs false
section
theorem ps118wad : placesS Tryz.prog 118 = some [(0, 1), (1, 1), (2, 2), (4, 4), (8, 4)] := by kernel_rfl
theorem sz62wad : (Tryz.prog.info? 62).map (·.size) = some 4 := by kernel_rfl
theorem zc62wad : ((Tryz.prog.info? 62).bind (·.zero)).map (·.cells.toList) = some [.int .i64 0, .int .i64 0, .int .i64 0, .slice none 0 0] := by kernel_rfl
theorem zc118wad : ((Tryz.prog.info? 118).bind (·.zero)).map (·.cells.toList) = some [.int .i64 0, .int .i64 0, .int .i64 0, .int .i64 0, .int .i64 0, .int .i64 0, .int .i64 0, .slice none 0 0, .int .i64 0, .int .i64 0, .slice none 0 0, .slice none 0 0] := by kernel_rfl
theorem inf3wco : (Tryz.prog.info? 3).map (fun i => (i.zero, i.size, i.bytes)) = some (some (.int .i64 0), 1, 8) := by kernel_rfl
theorem sz3wco : (Tryz.prog.info? 3).map (·.size) = some 1 := by kernel_rfl
theorem sz3wle : (Tryz.prog.info? 3).map (·.size) = some 1 := by kernel_rfl

theorem WLB.snoc0 {bi : Int} {cf : List Int} {es : List En} (h : WLB bi cf es) (tm : Int) (d : List Int) : WLB bi cf (es ++ [(bi + (es.length : Int) + 1, tm, 0, d)]) := by
 refine ⟨fun e he => ?_, fun j hj => ?_, h.c⟩
 · rcases List.mem_append.1 he with he | he
   · exact h.r e he
   · rw [List.mem_singleton] at he; subst he; exact fun h9 => absurd h9 (show ¬ ((0 : Int) = 2) by decide)
 · rw [List.length_append, List.length_singleton] at hj
   by_cases hj2 : j < es.length
   · rw [List.getD, List.getElem?_append_left hj2]; exact h.q j hj2
   · obtain rfl : j = es.length := by omega
     rw [List.getD, List.getElem?_append_right (Nat.le_refl _)]; simp; omega
def begJ (x : RV) (v : Int) : Nat → RV
 | 0 => x
 | 1 => { x with n0 := v, m0 := 0 }
 | 2 => { x with n0 := v, n1 := v, m0 := 0, m1 := 0 }
 | 3 => { x with n0 := v, n1 := v, n2 := v, m0 := 0, m1 := 0, m2 := 0 }
 | 4 => { x with n0 := v, n1 := v, n2 := v, n3 := v, m0 := 0, m1 := 0, m2 := 0, m3 := 0 }
 | 5 => { x with n0 := v, n1 := v, n2 := v, n3 := v, n4 := v, m0 := 0, m1 := 0, m2 := 0, m3 := 0, m4 := 0 }
 | 6 => { x with n0 := v, n1 := v, n2 := v, n3 := v, n4 := v, n5 := v, m0 := 0, m1 := 0, m2 := 0, m3 := 0, m4 := 0, m5 := 0 }
 | _ => { x with n0 := v, n1 := v, n2 := v, n3 := v, n4 := v, n5 := v, n6 := v, m0 := 0, m1 := 0, m2 := 0, m3 := 0, m4 := 0, m5 := 0, m6 := 0 }
theorem confTo_canon {cf : List Int} (h : canon cf = cf) : ∀ l : List En, canon (confTo cf l) = confTo cf l := by
 intro l; induction l generalizing cf with
 | nil => exact h
 | cons e l ih =>
   show canon (confTo (confStep cf e) l) = confTo (confStep cf e) l
   refine ih ?_
   unfold confStep; split
   · unfold chgL; split
     · rw [ofL_canon, ofL_canon]; exact canon_canon _
     · rw [ofL_canon]
       refine strict_ext _ _ (canon_strict _) (List.Pairwise.filter _ (canon_strict _)) (fun x => ?_)
       rw [canon_mem, List.mem_filter]
       exact ⟨fun h9 => h9.1, fun h9 => ⟨h9, ((canon_mem _ _).1 h9.1).2⟩⟩
   · exact h
theorem memW_eq (s : RS) (hw : WLS s) : (confL s.cf s.es (lastS s)) = memS s := (confTo_canon hw.c _).symm
theorem wrmem_s (R : Nat) (s : RS) (p : RP) (w0 : World) (h : WIs w0 R s p) (hb : RLS s) (hw : WLS s) :
   Calls Tryz.prog 43 #[.pointer (some ⟨R, 0, none⟩)] w0 fun e w' => ∃ q c, e = .returned (.slice q (memS s).length c) ∧ Rd (New w0) w' (.slice q (memS s).length c) (.ns .i64 (memS s)) ∧ Below w0.heap.size w0 w' := by
 rw [← memW_eq s hw]; exact wrconf_s R s p w0 h hb hw
theorem wlastx_s (R : Nat) (s : RS) (x : RV) (p : RP) (w0 : World) (h : WIs w0 R (withX s x) p) (hb : RLS s) : Calls Tryz.prog 57 #[.pointer (some ⟨p.L, 0, none⟩)] w0 fun e w' => e = .returned (.int .i64 (lastS s)) ∧ Below w0.heap.size w0 w' := wlast_s R (withX s x) p w0 h hb
theorem wcommit_b (t c : Int) (m ts : List Int) (v2 v3 : Value) (w : World) (hm : IsNums .i64 w v2 m) (ht : IsNums .i64 w v3 ts) (hc0 : -2199023255552 ≤ c) (hc1 : c ≤ 2199023255552) (ml : m.length ≤ 1000) (tl : ts.length ≤ 1000) :
   Calls Tryz.prog 126 #[.int .i64 t, .int .i64 c, v2, v3] w fun e w' => e = .returned (.int .i64 (commitC t c m ts)) ∧ Below w.heap.size w w' := by
 refine (wcommitC_any t c m ts v2 v3 w hm ht hc0 hc1 ml tl).mono ?_
 rintro e w' ⟨rfl, rfl⟩; exact ⟨rfl, Below.refl _ _⟩
set_option maxRecDepth 100000
set_option maxHeartbeats 4000000
theorem wlogadd_s (X : Cx) (R : Nat) (s : RS) (p : RP) (tm kd : Int) (dd : List Int) (pa : Option Addr) (ca : Nat) (w0 : World) (hb : RLS s) (hn : s.es.length < 100000) (hdd : dd.length ≤ 100000) (m0 : MemOk X w0 ((9, .dat (.slice pa dd.length ca) (.ns .u8 dd)) :: rwM R s p) w0) :
   Calls Tryz.prog 125 #[.pointer (some ⟨p.L, 0, none⟩), .int .i64 tm, .int .i64 kd, .slice pa dd.length ca] w0 fun e w' => ∃ p' pr cr, e = .returned (.agg #[.int .i64 (lastS s + 1), .int .i64 tm, .int .i64 kd, .slice pr dd.length cr]) ∧ MemOk X w0 ((9, .dat (.slice pr dd.length cr) (.ns .u8 dd)) :: rwM R { s with es := s.es ++ [(lastS s + 1, tm, kd, dd)] } p') w' := by
 have h1 := hb.b; have h2 := hb.n
 refine (radd_fr _ p.L s.bi s.bt s.cf s.bd s.es p.pc p.pd p.pl p.cc p.cd p.cl tm kd dd pa ca w0 (by omega) (by omega) (by omega) (m0.into [(1, 2), (2, 3), (3, 4), (4, 5), (5, 9)] (by decide) rfl)).mono ?_
 rintro e w' ⟨pl', cl', pr, cr, rfl, hm⟩
 have mb := m0.back hm [(2, 1), (3, 2), (4, 3), (5, 4), (9, 5)] (by decide)
 exact ⟨{ p with pl := pl', cl := cl' }, pr, cr, rfl, mb.only [9, 1, 2, 3, 4, 5, 6, 7, 8]⟩
theorem wadd_s (X : Cx) (R : Nat) (s : RS) (p : RP) (kd : Int) (dd : List Int) (pa : Option Addr) (ca : Nat) (w0 : World) (hb : RLS s) (hn : s.es.length < 100000) (hdd : dd.length ≤ 100000) (hQ : s.rs.length ≤ 1000000) (m0 : MemOk X w0 ((9, .dat (.slice pa dd.length ca) (.ns .u8 dd)) :: rwM R s p) w0) :
   Calls Tryz.prog 79 #[.pointer (some ⟨R, 0, none⟩), .int .i64 kd, .slice pa dd.length ca] w0 fun e w' => ∃ p', e = .returned (.int .i64 (lastS s + 1)) ∧ MemOk X w0 (rwM R (addE s kd dd) p') w' := by
 refine enter (fn := Tryz.f79) Tryz.func79 rfl Tryz.ntmps79 rfl (fun Az Hz => ?_)
 simp only [List.zipIdx_cons, List.zipIdx_nil, List.map_cons, List.map_nil, Nat.reduceAdd, Nat.zero_add] at Hz
 refine regS Hz (.assign rfl <| .nil) ?_
 clear Hz Az; intro Az Hz
 refine wp_seq_k (fun K0 hK0 => ?_)
 have m2 : MemOk _ _ [(1, _), (2, _), (3, _), (4, _), (5, _), (6, _), (7, _), (8, _), (9, _)] _ := m0.only [1, 2, 3, 4, 5, 6, 7, 8, 9]; clear m0
 refine region_p 11 (B := [(1, _), (2, _), (3, _), (4, _), (5, _), (6, _), (7, _), (8, _), (9, _)]) (m2.to ⟨il, il, il, il, il, il, il, il, il, trivial⟩) m2 (by kernel_rfl) (fun w3 hP3 m3 => ?_); clear m2
 refine goR hP3 [0, 1, 2, 3, 4, 5, 6, 7, 8, 9, 10] [3, 8] 11 0 2047 Hz (m3.to ⟨il, il, il, il, il, il, il, il, il, trivial⟩) (.move rfl <| .nilCheck rfl <| .fieldAddr (off := 4) rfl Tryz.underlying91 rfl (s := 0) (by kernel_rfl) rfl <| .loadB1 hh (i := 1) rfl rfl rfl Tryz.underlying88 rfl <| .move rfl <| .nilCheck rfl <| .fieldAddr (off := 2) rfl Tryz.underlying91 rfl (s := 1) (by kernel_rfl) rfl <| .fieldAddr (off := 2) rfl Tryz.underlying25 rfl (s := 0) (by kernel_rfl) rfl <| .loadB1 hh (i := 1) rfl rfl rfl Tryz.underlying3 rfl <| .move rfl <| .move rfl <| .nil) ?_
 clear Hz Az; intro Az Hz
 refine d_two 11 12 rfl rfl (by kernel_rfl) rfl rfl (fun K hK => ?_) (fun K hK => ?_)
 ·
  refine e_call Hz Tryz.func125 rfl rfl rfl rfl (wlogadd_s _ R s p s.x.te kd dd _ _ _ hb hn hdd (m3.into [(9, 9), (1, 1), (2, 2), (3, 3), (4, 4), (5, 5), (6, 6), (7, 7), (8, 8)] (by decide) rfl)) ?_
  rintro e w15 ⟨p1, pr, cr, rfl, hm15⟩
  have mx15 := m3.back hm15 [(1, 1), (2, 2), (3, 3), (4, 4), (5, 5), (6, 6), (7, 7), (8, 8), (9, 9)] (by decide); clear hm15 m3
  have m15 : MemOk _ _ [(1, _), (2, _), (3, _), (4, _), (5, _), (6, _), (7, _), (8, _), (9, _)] _ := mx15.only [1, 2, 3, 4, 5, 6, 7, 8, 9]; clear mx15
  refine ⟨_, rfl, ?_⟩; clear Hz Az; intro Az Hz
  refine hK _ _ (fun h => (Bool.false_ne_true (h.symm.trans (by rfl))).elim) ?_; clear hK K
  refine stepE_end 12 rfl (by kernel_rfl) rfl (by rfl) (fun K hK => ?_)
  refine e_alloc Hz m15 20 zc62wad rfl ?_
  clear Hz Az m15; intro g17 Az w18 Hz m18 hB18 hg18
  clear hB18 hg18
  refine hK _ _ ?_; clear hK K
  refine stepE_end 13 rfl (by kernel_rfl) rfl (by rfl) (fun K hK => ?_)
  refine e_storeW Hz m18 20 rfl rfl rfl rfl rfl sz62wad ?_
  clear m18; intro w19 m19 hB19
  clear hB19
  refine hK _ _ ?_; clear hK K
  refine wpAnyE_done (by kernel_rfl) ?_ _
  refine hK0 _ _ ?_; clear hK0; try clear K0
  replace Hz : Has 26 [(0, _), (6, _), (7, _)] Az := Hz.only [0, 6, 7]
  refine wp_seq_k (fun K1 hK1 => ?_)
  refine wp_region_lit ?_
  refine goCh Hz (.move rfl <| .loadBR m19 (i := 20) rfl rfl Tryz.underlying62 rfl sz62wad (by simp) (by dsimp only [List.drop, List.take] <;> rfl) <| .buildG rfl zc118wad ps118wad rfl <| .nil) ?_
  clear Hz Az; intro Az Hz
  refine wpList_plain rfl (fun K hK => ?_)
  refine e_call Hz Tryz.func110 rfl rfl rfl rfl (wsaveE_s _ R { s with es := s.es ++ [newE s kd dd] } p1 (lastS s + 1) s.x.te kd dd _ _ _ hQ (m19.into [(9, 9), (1, 1), (2, 2), (3, 3), (4, 4), (5, 5), (6, 6), (7, 7), (8, 8)] (by decide) rfl)) ?_
  rintro e w27 ⟨p2, rfl, hm27⟩
  have mx27 := m19.back hm27 [(1, 1), (2, 2), (3, 3), (4, 4), (5, 5), (6, 6), (7, 7), (8, 8)] (by decide); clear hm27 m19
  have m27 : MemOk _ _ [(1, _), (2, _), (3, _), (4, _), (5, _), (6, _), (7, _), (8, _), (20, _)] _ := mx27.only [1, 2, 3, 4, 5, 6, 7, 8, 20]; clear mx27
  refine ⟨_, rfl, ?_⟩; clear Hz Az; intro Az Hz
  refine hK _ _ ?_; clear hK K
  refine wpList_nil ?_
  refine hK1 _ _ ?_; clear hK1; try clear K1
  refine regS Hz (.fieldAddr (off := 0) rfl Tryz.underlying62 rfl (s := 0) (by kernel_rfl) rfl <| .loadB1 m27 (i := 20) rfl rfl rfl Tryz.underlying3 rfl <| .assign rfl <| .nil) ?_
  clear Hz Az; intro Az Hz
  refine wp_ret ?_
  try dsimp only [Exit.then, Exit.inBlock]
  refine (ret1 (fn := Tryz.f79) Hz rfl rfl ?_)
  exact ⟨p2, rfl, m27.only [1, 2, 3, 4, 5, 6, 7, 8]⟩
 ·
  refine e_alloc Hz m3 20 zc62wad rfl ?_
  clear Hz Az m3; intro g32 Az w33 Hz m33 hB33 hg33
  clear hB33 hg33
  refine hK _ _ (fun _ => (m33.to ⟨il, il, il, il, il, il, il, il, il, trivial⟩)) ?_; clear hK K
  refine stepE_end 11 rfl (by kernel_rfl) rfl (by rfl) (fun K hK => ?_)
  refine e_call Hz Tryz.func125 rfl rfl rfl rfl (wlogadd_s _ R s p s.x.te kd dd _ _ _ hb hn hdd (m33.into [(9, 9), (1, 1), (2, 2), (3, 3), (4, 4), (5, 5), (6, 6), (7, 7), (8, 8)] (by decide) rfl)) ?_
  rintro e w34 ⟨p1, pr, cr, rfl, hm34⟩
  have mx34 := m33.back hm34 [(1, 1), (2, 2), (3, 3), (4, 4), (5, 5), (6, 6), (7, 7), (8, 8), (9, 9)] (by decide); clear hm34 m33
  have m34 : MemOk _ _ [(1, _), (2, _), (3, _), (4, _), (5, _), (6, _), (7, _), (8, _), (9, _), (20, _)] _ := mx34.only [1, 2, 3, 4, 5, 6, 7, 8, 9, 20]; clear mx34
  refine ⟨_, rfl, ?_⟩; clear Hz Az; intro Az Hz
  refine hK _ _ ?_; clear hK K
  refine stepE_end 13 rfl (by kernel_rfl) rfl (by rfl) (fun K hK => ?_)
  refine e_storeW Hz m34 20 rfl rfl rfl rfl rfl sz62wad ?_
  clear m34; intro w36 m36 hB36
  clear hB36
  refine hK _ _ ?_; clear hK K
  refine wpAnyE_done (by kernel_rfl) ?_ _
  refine hK0 _ _ ?_; clear hK0; try clear K0
  replace Hz : Has 26 [(0, _), (6, _), (7, _)] Az := Hz.only [0, 6, 7]
  refine wp_seq_k (fun K2 hK2 => ?_)
  refine wp_region_lit ?_
  refine goCh Hz (.move rfl <| .loadBR m36 (i := 20) rfl rfl Tryz.underlying62 rfl sz62wad (by simp) (by dsimp only [List.drop, List.take] <;> rfl) <| .buildG rfl zc118wad ps118wad rfl <| .nil) ?_
  clear Hz Az; intro Az Hz
  refine wpList_plain rfl (fun K hK => ?_)
  refine e_call Hz Tryz.func110 rfl rfl rfl rfl (wsaveE_s _ R { s with es := s.es ++ [newE s kd dd] } p1 (lastS s + 1) s.x.te kd dd _ _ _ hQ (m36.into [(9, 9), (1, 1), (2, 2), (3, 3), (4, 4), (5, 5), (6, 6), (7, 7), (8, 8)] (by decide) rfl)) ?_
  rintro e w44 ⟨p2, rfl, hm44⟩
  have mx44 := m36.back hm44 [(1, 1), (2, 2), (3, 3), (4, 4), (5, 5), (6, 6), (7, 7), (8, 8)] (by decide); clear hm44 m36
  have m44 : MemOk _ _ [(1, _), (2, _), (3, _), (4, _), (5, _), (6, _), (7, _), (8, _), (20, _)] _ := mx44.only [1, 2, 3, 4, 5, 6, 7, 8, 20]; clear mx44
  refine ⟨_, rfl, ?_⟩; clear Hz Az; intro Az Hz
  refine hK _ _ ?_; clear hK K
  refine wpList_nil ?_
  refine hK2 _ _ ?_; clear hK2; try clear K2
  refine regS Hz (.fieldAddr (off := 0) rfl Tryz.underlying62 rfl (s := 0) (by kernel_rfl) rfl <| .loadB1 m44 (i := 20) rfl rfl rfl Tryz.underlying3 rfl <| .assign rfl <| .nil) ?_
  clear Hz Az; intro Az Hz
  refine wp_ret ?_
  try dsimp only [Exit.then, Exit.inBlock]
  refine (ret1 (fn := Tryz.f79) Hz rfl rfl ?_)
  exact ⟨p2, rfl, m44.only [1, 2, 3, 4, 5, 6, 7, 8]⟩
theorem wadd0_s (X : Cx) (R : Nat) (s : RS) (p : RP) (kd : Int) (w0 : World) (hb : RLS s) (hn : s.es.length < 100000) (hQ : s.rs.length ≤ 1000000) (m0 : MemOk X w0 (rwM R s p) w0) :
   Calls Tryz.prog 79 #[.pointer (some ⟨R, 0, none⟩), .int .i64 kd, .slice none 0 0] w0 fun e w' => ∃ p', e = .returned (.int .i64 (lastS s + 1)) ∧ MemOk X w0 (rwM R (addE s kd []) p') w' := by
 have m1 := m0.dat 9 rfl (Rd.nilN _ _ .u8 none)
 exact wadd_s X R s p kd [] none 0 w0 hb hn (by decide) hQ m1
theorem wcount_s (X : Cx) (R : Nat) (s : RS) (p : RP) (w0 : World) (hb : RLS s) (hw : WLS s) (hc : -1000000000 ≤ s.x.co ∧ s.x.co ≤ 1000000000) (hd : lastS s - s.x.co ≤ 1000) (m0 : MemOk X w0 (rwM R s p) w0) :
   Calls Tryz.prog 80 #[.pointer (some ⟨R, 0, none⟩)] w0 fun e w' => ∃ p', e = .returned (.tuple #[]) ∧ MemOk X w0 (rwM R (countS s) p') w' := by
 refine enter (fn := Tryz.f80) Tryz.func80 rfl Tryz.ntmps80 rfl (fun Az Hz => ?_)
 simp only [List.zipIdx_cons, List.zipIdx_nil, List.map_cons, List.map_nil, Nat.reduceAdd, Nat.zero_add] at Hz
 have hml := matchL_len s
 have hm7 := memS_len7 s
 have htl := termsL_len s
 have hlb := lastS_bd s hb
 refine wp_seq_k (fun K0 hK0 => ?_)
 refine wp_region_lit ?_
 have m2 := m0.nilN 20 3 .i64
 clear m0
 refine goCh Hz (.assign rfl .nil) ?_
 clear Hz Az; intro Az Hz
 have m4 := m2.nilN 21 3 .i64
 clear m2
 refine goCh Hz (.assign rfl .nil) ?_
 clear Hz Az; intro Az Hz
 refine wpList_nil ?_
 refine hK0 _ _ ?_; clear hK0; try clear K0
 refine wp_seq_k (fun K1 hK1 => ?_)
 refine wp_region_lit ?_
 refine goCh Hz (.move rfl .nil) ?_
 clear Hz Az; intro Az Hz
 refine wpList_plain rfl (fun K hK => ?_)
 refine e_call Hz Tryz.func43 rfl rfl rfl rfl (wrmem_s R s p _ (rwM_is s p (m4.into [(1, 1), (2, 2), (3, 3), (4, 4), (5, 5), (6, 6), (7, 7), (8, 8)] (by decide) rfl)) hb hw) ?_
 rintro e w8 ⟨qo, co9, rfl, hd8, hb8⟩
 have m9 := m4.callF 22 rfl hb8 hd8
 clear m4
 clear hb8 hd8
 refine ⟨_, rfl, ?_⟩; clear Hz Az; intro Az Hz
 refine hK _ _ ?_; clear hK K
 refine goCh Hz (.assign rfl .nil) ?_
 clear Hz Az; intro Az Hz
 refine wpList_nil ?_
 refine hK1 _ _ ?_; clear hK1; try clear K1
 refine wp_seq_k (fun K2 hK2 => ?_)
 refine regS Hz (.assign rfl <| .nil) ?_
 clear Hz Az; intro Az Hz
 refine wp_block ?_
 refine wp_loop_ghost (fun g a w => ∃ (k : Nat) (pa : Option Addr) (ca : Nat), k ≤ (memS s).length ∧ g = (memS s).length - k ∧ Has 82 [(0, .pointer (some ⟨R, 0, none⟩)), (2, .slice pa ((matchL s).take k).length ca), (3, .slice none 0 0), (4, .slice qo (memS s).length co9), (5, .int .i64 (k : Nat))] a ∧ MemOk X w0 ((20, .dat (.slice qo (memS s).length co9) (.ns .i64 (memS s))) :: (30, .num (.slice pa ((matchL s).take k).length ca) 3 .i64 ((matchL s).take k)) :: (31, .num (.slice none 0 0) 3 .i64 []) :: rwM R s p) w) ((memS s).length) ?_ ?_
 · exact ⟨0, none, 0, Nat.zero_le _, rfl, Hz.only [0, 2, 3, 4, 5], m9.ren [(20, 22), (30, 20), (31, 21), (1, 1), (2, 2), (3, 3), (4, 4), (5, 5), (6, 6), (7, 7), (8, 8)] (by decide)⟩
 ·
  clear Hz m9
  rintro g Az w13 ⟨k, pa, ca, hkl, hg, Hz, m13⟩
  refine wp_seq_k (fun K3 hK3 => ?_)
  refine regS Hz (.move rfl <| .move rfl <| .len rfl Tryz.underlying26 <| .lss rfl rfl <| .nil) ?_
  clear Hz Az; intro Az Hz
  refine bool_cases Hz (t := 12) rfl ?_ ?_
  ·
   clear Hz; intro hb18 Hz
   try simp only [Q1x, Q2x, Q3x, Q4x, Q5x, Q6x, Q7x, Q8x, Q9x, Q0x, Qax, Qbx] at hb18
   have hk : k < (memS s).length := by omega
   have hnn := memS_in s (getD_mem hk)
   refine wp_cond_true (Hz.ev (x := .tmp 12) rfl) ?_
   refine wp_skip ?_
   refine hK3 _ _ ?_; clear hK3; try clear K3
   refine wp_seq_k (fun K4 hK4 => ?_)
   have hC4 : ∀ (a : Act) (w : World), (∃ (pa : Option Addr) (ca : Nat), Has 82 [(0, .pointer (some ⟨R, 0, none⟩)), (2, .slice pa ((matchL s).take (k + 1)).length ca), (3, .slice none 0 0), (4, .slice qo (memS s).length co9), (5, .int .i64 (k : Nat))] a ∧ MemOk X w0 ((20, .dat (.slice qo (memS s).length co9) (.ns .i64 (memS s))) :: (30, .num (.slice pa ((matchL s).take (k + 1)).length ca) 3 .i64 ((matchL s).take (k + 1))) :: (31, .num (.slice none 0 0) 3 .i64 []) :: rwM R s p) w) → K4 a w := by
     clear Hz m13
     rintro Az w19 ⟨pa, ca, Hz, m19⟩
     refine hK4 _ _ ?_; clear hK4; try clear K4
     refine wp_region_lit ?_
     refine goCh Hz (.move rfl <| .add rfl rfl (r := ((k + 1 : Nat) : Int)) (by rw [IntWalk.i64_in _ (by omega)]; omega) <| .assign rfl <| .nil) ?_
     clear Hz Az; intro Az Hz
     refine wpList_nil ?_
     show ∃ n', n' < _ ∧ _
     exact ⟨(memS s).length - (k + 1), by omega, k + 1, _, _, by omega, rfl, Hz.only [0, 2, 3, 4, 5], m19.only [20, 30, 31, 1, 2, 3, 4, 5, 6, 7, 8]⟩
   refine wp_block ?_
   refine wp_seq_k (fun K5 hK5 => ?_)
   obtain ⟨b23, o23, hp23, m23⟩ := m13.openN (i := 20) rfl (k) hk 100 rfl
   cases hp23; clear m13
   have m24 : MemOk _ _ [(1, _), (2, _), (3, _), (4, _), (5, _), (6, _), (7, _), (8, _), (20, _), (30, _), (31, _), (100, _)] _ := m23.only [1, 2, 3, 4, 5, 6, 7, 8, 20, 30, 31, 100]; clear m23
   refine region_p 9 (B := [(1, _), (2, _), (3, _), (4, _), (5, _), (6, _), (7, _), (8, _), (20, _), (30, _), (31, _), (100, _)]) (m24.to ⟨il, il, il, il, il, il, il, il, il, il, il, il, trivial⟩) m24 (by kernel_rfl) (fun w25 hP25 m25 => ?_); clear m24
   refine goR hP25 [0, 1, 2, 3, 4, 5, 6, 7, 8] [3, 7] 9 0 511 Hz (m25.to ⟨il, il, il, il, il, il, il, il, il, il, il, il, trivial⟩) (.move rfl <| .move rfl <| .p (fun _ _ h_ => y_idx h_ rfl rfl Tryz.underlying26 sz3wco (k) rfl hk) <| .loadC0 hh (i := 100) rfl rfl Tryz.underlying3 rfl <| .move rfl <| .nilCheck rfl <| .fieldAddr (off := 0) rfl Tryz.underlying91 rfl (s := 0) (by kernel_rfl) rfl <| .loadB1 hh (i := 1) rfl rfl rfl Tryz.underlying3 rfl <| .eql rfl rfl <| .nil) ?_
   clear Hz Az; intro Az Hz
   refine wpAnyE_done (by kernel_rfl) ?_ _
   refine hK5 _ _ ?_; clear hK5; try clear K5
   refine bool_cases Hz (t := 23) rfl ?_ ?_
   ·
    clear Hz; intro hb35 Hz
    try simp only [Q1x, Q2x, Q3x, Q4x, Q5x, Q6x, Q7x, Q8x, Q9x, Q0x, Qax, Qbx] at hb35
    have hst := match_self s hk hb35
    refine wp_cond_true (Hz.ev (x := .tmp 23) rfl) ?_
    skip
    ·
     replace Hz : Has 82 [(0, _), (2, _), (3, _), (4, _), (5, _)] Az := Hz.only [0, 2, 3, 4, 5]
     refine wp_region_lit ?_
     refine goCh Hz (.move rfl <| .move rfl <| .nilCheck rfl <| .fieldAddr (off := 4) rfl Tryz.underlying91 rfl (s := 0) (by kernel_rfl) rfl <| .loadB1 m25 (i := 1) rfl rfl rfl Tryz.underlying88 rfl <| .nil) ?_
     clear Hz Az; intro Az Hz
     refine wpList_plain rfl (fun K hK => ?_)
     refine e_call Hz Tryz.func57 rfl rfl rfl rfl (wlast_s R s p _ (rwM_is s p (m25.into [(1, 1), (2, 2), (3, 3), (4, 4), (5, 5), (6, 6), (7, 7), (8, 8)] (by decide) rfl)) hb) ?_
     rintro e w42 ⟨rfl, hb42⟩
     have m43 := m25.later hb42
     clear m25
     clear hb42
     refine ⟨_, rfl, ?_⟩; clear Hz Az; intro Az Hz
     refine hK _ _ ?_; clear hK K
     refine wpList_plain rfl (fun K hK => ?_)
     refine e_litN Hz m43 101 (k := .i64) rfl rfl Tryz.underlying26 inf3wco rfl rfl rfl rfl ?_
     clear Hz Az m43; intro g45 Az w46 Hz m46
     refine hK _ _ ?_; clear hK K
     refine wpList_plain rfl (fun K hK => ?_)
     refine e_appN Hz m46 30 rfl rfl rfl (m46.numsO (i := 101) rfl) Tryz.underlying26 inf3wco (by decide) (by simp; omega) rfl ?_
     clear Hz Az m46; intro p47 c47 Az w48 Hz m48
     refine hK _ _ ?_; clear hK K
     refine goCh Hz (.assign rfl .nil) ?_
     clear Hz Az; intro Az Hz
     refine wpList_nil ?_
     rw [hst] at Hz m48
     show K4 _ _
     exact hC4 _ _ ⟨_, _, Hz.only [0, 2, 3, 4, 5], m48.only [20, 30, 31, 1, 2, 3, 4, 5, 6, 7, 8]⟩
   ·
    clear Hz; intro hb35 Hz
    try simp only [Q1x, Q2x, Q3x, Q4x, Q5x, Q6x, Q7x, Q8x, Q9x, Q0x, Qax, Qbx] at hb35
    have hid := hb35
    refine wp_cond_false (Hz.ev (x := .tmp 23) rfl) ?_
    rcases (show (memS s).getD k 0 = 0 ∨ (memS s).getD k 0 = 1 ∨ (memS s).getD k 0 = 2 ∨ (memS s).getD k 0 = 3 ∨ (memS s).getD k 0 = 4 ∨ (memS s).getD k 0 = 5 ∨ (memS s).getD k 0 = 6 by omega) with hj | hj | hj | hj | hj | hj | hj
    ·
     have hst := match_other s hk hid (v := s.x.m0) (by rw [hj]; rfl)
     clear hst; have hst := match_other s hk hid (v := s.x.m0) (by rw [hj]; rfl)
     replace Hz : Has 82 [(0, _), (2, _), (3, _), (4, _), (5, _)] Az := Hz.only [0, 2, 3, 4, 5]
     obtain ⟨b51, o51, hp51, m51⟩ := m25.openN (i := 20) rfl (k) hk 101 rfl
     cases hp51; clear m25
     have m52 : MemOk _ _ [(1, _), (2, _), (3, _), (4, _), (5, _), (6, _), (7, _), (8, _), (20, _), (30, _), (31, _), (100, _), (101, _)] _ := m51.only [1, 2, 3, 4, 5, 6, 7, 8, 20, 30, 31, 100, 101]; clear m51
     refine region_p 10 (B := [(1, _), (2, _), (3, _), (4, _), (5, _), (6, _), (7, _), (8, _), (20, _), (30, _), (31, _), (100, _), (101, _)]) (m52.to ⟨il, il, il, il, il, il, il, il, il, il, il, il, il, trivial⟩) m52 (by kernel_rfl) (fun w53 hP53 m53 => ?_); clear m52
     refine goR hP53 [0, 1, 2, 3, 4, 5, 6, 7, 8, 9] [5, 9] 10 0 1023 Hz (m53.to ⟨il, il, il, il, il, il, il, il, il, il, il, il, il, trivial⟩) (.move rfl <| .move rfl <| .move rfl <| .move rfl <| .p (fun _ _ h_ => y_idx h_ rfl rfl Tryz.underlying26 sz3wco (k) rfl hk) <| .loadC0 hh (i := 101) rfl rfl Tryz.underlying3 rfl <| .nilCheck rfl <| .fieldAddr (off := 17) rfl Tryz.underlying91 rfl (s := 6) (by kernel_rfl) rfl <| .p (fun _ _ h_ => y_idxA h_ rfl rfl Tryz.underlying82 sz3wco 0 hj (by decide) (off := 17) rfl) <| .loadB1 hh (i := 1) rfl rfl rfl Tryz.underlying3 rfl <| .nil) ?_
     clear Hz Az; intro Az Hz
     refine stepE_end 10 rfl (by kernel_rfl) rfl (by rfl) (fun K hK => ?_)
     refine e_litN Hz m53 102 (k := .i64) rfl rfl Tryz.underlying26 inf3wco rfl rfl rfl rfl ?_
     clear Hz Az m53; intro g64 Az w65 Hz m65
     refine hK _ _ ?_; clear hK K
     refine stepE_end 11 rfl (by kernel_rfl) rfl (by rfl) (fun K hK => ?_)
     refine e_appN Hz m65 30 rfl rfl rfl (m65.numsO (i := 102) rfl) Tryz.underlying26 inf3wco (by decide) (by simp; omega) rfl ?_
     clear Hz Az m65; intro p66 c66 Az w67 Hz m67
     refine hK _ _ ?_; clear hK K
     refine goB hP53 [12] 1 4095 8191 Hz (.assign rfl <| .nil) ?_
     clear Hz Az; intro Az Hz
     refine wpAnyE_done (by kernel_rfl) ?_ _
     rw [hst] at Hz m67
     show K4 _ _
     exact hC4 _ _ ⟨_, _, Hz.only [0, 2, 3, 4, 5], m67.only [20, 30, 31, 1, 2, 3, 4, 5, 6, 7, 8]⟩
    ·
     have hst := match_other s hk hid (v := s.x.m1) (by rw [hj]; rfl)
     clear hst; have hst := match_other s hk hid (v := s.x.m1) (by rw [hj]; rfl)
     replace Hz : Has 82 [(0, _), (2, _), (3, _), (4, _), (5, _)] Az := Hz.only [0, 2, 3, 4, 5]
     obtain ⟨b70, o70, hp70, m70⟩ := m25.openN (i := 20) rfl (k) hk 101 rfl
     cases hp70; clear m25
     have m71 : MemOk _ _ [(1, _), (2, _), (3, _), (4, _), (5, _), (6, _), (7, _), (8, _), (20, _), (30, _), (31, _), (100, _), (101, _)] _ := m70.only [1, 2, 3, 4, 5, 6, 7, 8, 20, 30, 31, 100, 101]; clear m70
     refine region_p 10 (B := [(1, _), (2, _), (3, _), (4, _), (5, _), (6, _), (7, _), (8, _), (20, _), (30, _), (31, _), (100, _), (101, _)]) (m71.to ⟨il, il, il, il, il, il, il, il, il, il, il, il, il, trivial⟩) m71 (by kernel_rfl) (fun w72 hP72 m72 => ?_); clear m71
     refine goR hP72 [0, 1, 2, 3, 4, 5, 6, 7, 8, 9] [5, 9] 10 0 1023 Hz (m72.to ⟨il, il, il, il, il, il, il, il, il, il, il, il, il, trivial⟩) (.move rfl <| .move rfl <| .move rfl <| .move rfl <| .p (fun _ _ h_ => y_idx h_ rfl rfl Tryz.underlying26 sz3wco (k) rfl hk) <| .loadC0 hh (i := 101) rfl rfl Tryz.underlying3 rfl <| .nilCheck rfl <| .fieldAddr (off := 17) rfl Tryz.underlying91 rfl (s := 6) (by kernel_rfl) rfl <| .p (fun _ _ h_ => y_idxA h_ rfl rfl Tryz.underlying82 sz3wco 1 hj (by decide) (off := 18) rfl) <| .loadB1 hh (i := 1) rfl rfl rfl Tryz.underlying3 rfl <| .nil) ?_
     clear Hz Az; intro Az Hz
     refine stepE_end 10 rfl (by kernel_rfl) rfl (by rfl) (fun K hK => ?_)
     refine e_litN Hz m72 102 (k := .i64) rfl rfl Tryz.underlying26 inf3wco rfl rfl rfl rfl ?_
     clear Hz Az m72; intro g83 Az w84 Hz m84
     refine hK _ _ ?_; clear hK K
     refine stepE_end 11 rfl (by kernel_rfl) rfl (by rfl) (fun K hK => ?_)
     refine e_appN Hz m84 30 rfl rfl rfl (m84.numsO (i := 102) rfl) Tryz.underlying26 inf3wco (by decide) (by simp; omega) rfl ?_
     clear Hz Az m84; intro p85 c85 Az w86 Hz m86
     refine hK _ _ ?_; clear hK K
     refine goB hP72 [12] 1 4095 8191 Hz (.assign rfl <| .nil) ?_
     clear Hz Az; intro Az Hz
     refine wpAnyE_done (by kernel_rfl) ?_ _
     rw [hst] at Hz m86
     show K4 _ _
     exact hC4 _ _ ⟨_, _, Hz.only [0, 2, 3, 4, 5], m86.only [20, 30, 31, 1, 2, 3, 4, 5, 6, 7, 8]⟩
    ·
     have hst := match_other s hk hid (v := s.x.m2) (by rw [hj]; rfl)
     clear hst; have hst := match_other s hk hid (v := s.x.m2) (by rw [hj]; rfl)
     replace Hz : Has 82 [(0, _), (2, _), (3, _), (4, _), (5, _)] Az := Hz.only [0, 2, 3, 4, 5]
     obtain ⟨b89, o89, hp89, m89⟩ := m25.openN (i := 20) rfl (k) hk 101 rfl
     cases hp89; clear m25
     have m90 : MemOk _ _ [(1, _), (2, _), (3, _), (4, _), (5, _), (6, _), (7, _), (8, _), (20, _), (30, _), (31, _), (100, _), (101, _)] _ := m89.only [1, 2, 3, 4, 5, 6, 7, 8, 20, 30, 31, 100, 101]; clear m89
     refine region_p 10 (B := [(1, _), (2, _), (3, _), (4, _), (5, _), (6, _), (7, _), (8, _), (20, _), (30, _), (31, _), (100, _), (101, _)]) (m90.to ⟨il, il, il, il, il, il, il, il, il, il, il, il, il, trivial⟩) m90 (by kernel_rfl) (fun w91 hP91 m91 => ?_); clear m90
     refine goR hP91 [0, 1, 2, 3, 4, 5, 6, 7, 8, 9] [5, 9] 10 0 1023 Hz (m91.to ⟨il, il, il, il, il, il, il, il, il, il, il, il, il, trivial⟩) (.move rfl <| .move rfl <| .move rfl <| .move rfl <| .p (fun _ _ h_ => y_idx h_ rfl rfl Tryz.underlying26 sz3wco (k) rfl hk) <| .loadC0 hh (i := 101) rfl rfl Tryz.underlying3 rfl <| .nilCheck rfl <| .fieldAddr (off := 17) rfl Tryz.underlying91 rfl (s := 6) (by kernel_rfl) rfl <| .p (fun _ _ h_ => y_idxA h_ rfl rfl Tryz.underlying82 sz3wco 2 hj (by decide) (off := 19) rfl) <| .loadB1 hh (i := 1) rfl rfl rfl Tryz.underlying3 rfl <| .nil) ?_
     clear Hz Az; intro Az Hz
     refine stepE_end 10 rfl (by kernel_rfl) rfl (by rfl) (fun K hK => ?_)
     refine e_litN Hz m91 102 (k := .i64) rfl rfl Tryz.underlying26 inf3wco rfl rfl rfl rfl ?_
     clear Hz Az m91; intro g102 Az w103 Hz m103
     refine hK _ _ ?_; clear hK K
     refine stepE_end 11 rfl (by kernel_rfl) rfl (by rfl) (fun K hK => ?_)
     refine e_appN Hz m103 30 rfl rfl rfl (m103.numsO (i := 102) rfl) Tryz.underlying26 inf3wco (by decide) (by simp; omega) rfl ?_
     clear Hz Az m103; intro p104 c104 Az w105 Hz m105
     refine hK _ _ ?_; clear hK K
     refine goB hP91 [12] 1 4095 8191 Hz (.assign rfl <| .nil) ?_
     clear Hz Az; intro Az Hz
     refine wpAnyE_done (by kernel_rfl) ?_ _
     rw [hst] at Hz m105
     show K4 _ _
     exact hC4 _ _ ⟨_, _, Hz.only [0, 2, 3, 4, 5], m105.only [20, 30, 31, 1, 2, 3, 4, 5, 6, 7, 8]⟩
    ·
     have hst := match_other s hk hid (v := s.x.m3) (by rw [hj]; rfl)
     clear hst; have hst := match_other s hk hid (v := s.x.m3) (by rw [hj]; rfl)
     replace Hz : Has 82 [(0, _), (2, _), (3, _), (4, _), (5, _)] Az := Hz.only [0, 2, 3, 4, 5]
     obtain ⟨b108, o108, hp108, m108⟩ := m25.openN (i := 20) rfl (k) hk 101 rfl
     cases hp108; clear m25
     have m109 : MemOk _ _ [(1, _), (2, _), (3, _), (4, _), (5, _), (6, _), (7, _), (8, _), (20, _), (30, _), (31, _), (100, _), (101, _)] _ := m108.only [1, 2, 3, 4, 5, 6, 7, 8, 20, 30, 31, 100, 101]; clear m108
     refine region_p 10 (B := [(1, _), (2, _), (3, _), (4, _), (5, _), (6, _), (7, _), (8, _), (20, _), (30, _), (31, _), (100, _), (101, _)]) (m109.to ⟨il, il, il, il, il, il, il, il, il, il, il, il, il, trivial⟩) m109 (by kernel_rfl) (fun w110 hP110 m110 => ?_); clear m109
     refine goR hP110 [0, 1, 2, 3, 4, 5, 6, 7, 8, 9] [5, 9] 10 0 1023 Hz (m110.to ⟨il, il, il, il, il, il, il, il, il, il, il, il, il, trivial⟩) (.move rfl <| .move rfl <| .move rfl <| .move rfl <| .p (fun _ _ h_ => y_idx h_ rfl rfl Tryz.underlying26 sz3wco (k) rfl hk) <| .loadC0 hh (i := 101) rfl rfl Tryz.underlying3 rfl <| .nilCheck rfl <| .fieldAddr (off := 17) rfl Tryz.underlying91 rfl (s := 6) (by kernel_rfl) rfl <| .p (fun _ _ h_ => y_idxA h_ rfl rfl Tryz.underlying82 sz3wco 3 hj (by decide) (off := 20) rfl) <| .loadB1 hh (i := 1) rfl rfl rfl Tryz.underlying3 rfl <| .nil) ?_
     clear Hz Az; intro Az Hz
     refine stepE_end 10 rfl (by kernel_rfl) rfl (by rfl) (fun K hK => ?_)
     refine e_litN Hz m110 102 (k := .i64) rfl rfl Tryz.underlying26 inf3wco rfl rfl rfl rfl ?_
     clear Hz Az m110; intro g121 Az w122 Hz m122
     refine hK _ _ ?_; clear hK K
     refine stepE_end 11 rfl (by kernel_rfl) rfl (by rfl) (fun K hK => ?_)
     refine e_appN Hz m122 30 rfl rfl rfl (m122.numsO (i := 102) rfl) Tryz.underlying26 inf3wco (by decide) (by simp; omega) rfl ?_
     clear Hz Az m122; intro p123 c123 Az w124 Hz m124
     refine hK _ _ ?_; clear hK K
     refine goB hP110 [12] 1 4095 8191 Hz (.assign rfl <| .nil) ?_
     clear Hz Az; intro Az Hz
     refine wpAnyE_done (by kernel_rfl) ?_ _
     rw [hst] at Hz m124
     show K4 _ _
     exact hC4 _ _ ⟨_, _, Hz.only [0, 2, 3, 4, 5], m124.only [20, 30, 31, 1, 2, 3, 4, 5, 6, 7, 8]⟩
    ·
     have hst := match_other s hk hid (v := s.x.m4) (by rw [hj]; rfl)
     clear hst; have hst := match_other s hk hid (v := s.x.m4) (by rw [hj]; rfl)
     replace Hz : Has 82 [(0, _), (2, _), (3, _), (4, _), (5, _)] Az := Hz.only [0, 2, 3, 4, 5]
     obtain ⟨b127, o127, hp127, m127⟩ := m25.openN (i := 20) rfl (k) hk 101 rfl
     cases hp127; clear m25
     have m128 : MemOk _ _ [(1, _), (2, _), (3, _), (4, _), (5, _), (6, _), (7, _), (8, _), (20, _), (30, _), (31, _), (100, _), (101, _)] _ := m127.only [1, 2, 3, 4, 5, 6, 7, 8, 20, 30, 31, 100, 101]; clear m127
     refine region_p 10 (B := [(1, _), (2, _), (3, _), (4, _), (5, _), (6, _), (7, _), (8, _), (20, _), (30, _), (31, _), (100, _), (101, _)]) (m128.to ⟨il, il, il, il, il, il, il, il, il, il, il, il, il, trivial⟩) m128 (by kernel_rfl) (fun w129 hP129 m129 => ?_); clear m128
     refine goR hP129 [0, 1, 2, 3, 4, 5, 6, 7, 8, 9] [5, 9] 10 0 1023 Hz (m129.to ⟨il, il, il, il, il, il, il, il, il, il, il, il, il, trivial⟩) (.move rfl <| .move rfl <| .move rfl <| .move rfl <| .p (fun _ _ h_ => y_idx h_ rfl rfl Tryz.underlying26 sz3wco (k) rfl hk) <| .loadC0 hh (i := 101) rfl rfl Tryz.underlying3 rfl <| .nilCheck rfl <| .fieldAddr (off := 17) rfl Tryz.underlying91 rfl (s := 6) (by kernel_rfl) rfl <| .p (fun _ _ h_ => y_idxA h_ rfl rfl Tryz.underlying82 sz3wco 4 hj (by decide) (off := 21) rfl) <| .loadB1 hh (i := 1) rfl rfl rfl Tryz.underlying3 rfl <| .nil) ?_
     clear Hz Az; intro Az Hz
     refine stepE_end 10 rfl (by kernel_rfl) rfl (by rfl) (fun K hK => ?_)
     refine e_litN Hz m129 102 (k := .i64) rfl rfl Tryz.underlying26 inf3wco rfl rfl rfl rfl ?_
     clear Hz Az m129; intro g140 Az w141 Hz m141
     refine hK _ _ ?_; clear hK K
     refine stepE_end 11 rfl (by kernel_rfl) rfl (by rfl) (fun K hK => ?_)
     refine e_appN Hz m141 30 rfl rfl rfl (m141.numsO (i := 102) rfl) Tryz.underlying26 inf3wco (by decide) (by simp; omega) rfl ?_
     clear Hz Az m141; intro p142 c142 Az w143 Hz m143
     refine hK _ _ ?_; clear hK K
     refine goB hP129 [12] 1 4095 8191 Hz (.assign rfl <| .nil) ?_
     clear Hz Az; intro Az Hz
     refine wpAnyE_done (by kernel_rfl) ?_ _
     rw [hst] at Hz m143
     show K4 _ _
     exact hC4 _ _ ⟨_, _, Hz.only [0, 2, 3, 4, 5], m143.only [20, 30, 31, 1, 2, 3, 4, 5, 6, 7, 8]⟩
    ·
     have hst := match_other s hk hid (v := s.x.m5) (by rw [hj]; rfl)
     clear hst; have hst := match_other s hk hid (v := s.x.m5) (by rw [hj]; rfl)
     replace Hz : Has 82 [(0, _), (2, _), (3, _), (4, _), (5, _)] Az := Hz.only [0, 2, 3, 4, 5]
     obtain ⟨b146, o146, hp146, m146⟩ := m25.openN (i := 20) rfl (k) hk 101 rfl
     cases hp146; clear m25
     have m147 : MemOk _ _ [(1, _), (2, _), (3, _), (4, _), (5, _), (6, _), (7, _), (8, _), (20, _), (30, _), (31, _), (100, _), (101, _)] _ := m146.only [1, 2, 3, 4, 5, 6, 7, 8, 20, 30, 31, 100, 101]; clear m146
     refine region_p 10 (B := [(1, _), (2, _), (3, _), (4, _), (5, _), (6, _), (7, _), (8, _), (20, _), (30, _), (31, _), (100, _), (101, _)]) (m147.to ⟨il, il, il, il, il, il, il, il, il, il, il, il, il, trivial⟩) m147 (by kernel_rfl) (fun w148 hP148 m148 => ?_); clear m147
     refine goR hP148 [0, 1, 2, 3, 4, 5, 6, 7, 8, 9] [5, 9] 10 0 1023 Hz (m148.to ⟨il, il, il, il, il, il, il, il, il, il, il, il, il, trivial⟩) (.move rfl <| .move rfl <| .move rfl <| .move rfl <| .p (fun _ _ h_ => y_idx h_ rfl rfl Tryz.underlying26 sz3wco (k) rfl hk) <| .loadC0 hh (i := 101) rfl rfl Tryz.underlying3 rfl <| .nilCheck rfl <| .fieldAddr (off := 17) rfl Tryz.underlying91 rfl (s := 6) (by kernel_rfl) rfl <| .p (fun _ _ h_ => y_idxA h_ rfl rfl Tryz.underlying82 sz3wco 5 hj (by decide) (off := 22) rfl) <| .loadB1 hh (i := 1) rfl rfl rfl Tryz.underlying3 rfl <| .nil) ?_
     clear Hz Az; intro Az Hz
     refine stepE_end 10 rfl (by kernel_rfl) rfl (by rfl) (fun K hK => ?_)
     refine e_litN Hz m148 102 (k := .i64) rfl rfl Tryz.underlying26 inf3wco rfl rfl rfl rfl ?_
     clear Hz Az m148; intro g159 Az w160 Hz m160
     refine hK _ _ ?_; clear hK K
     refine stepE_end 11 rfl (by kernel_rfl) rfl (by rfl) (fun K hK => ?_)
     refine e_appN Hz m160 30 rfl rfl rfl (m160.numsO (i := 102) rfl) Tryz.underlying26 inf3wco (by decide) (by simp; omega) rfl ?_
     clear Hz Az m160; intro p161 c161 Az w162 Hz m162
     refine hK _ _ ?_; clear hK K
     refine goB hP148 [12] 1 4095 8191 Hz (.assign rfl <| .nil) ?_
     clear Hz Az; intro Az Hz
     refine wpAnyE_done (by kernel_rfl) ?_ _
     rw [hst] at Hz m162
     show K4 _ _
     exact hC4 _ _ ⟨_, _, Hz.only [0, 2, 3, 4, 5], m162.only [20, 30, 31, 1, 2, 3, 4, 5, 6, 7, 8]⟩
    ·
     have hst := match_other s hk hid (v := s.x.m6) (by rw [hj]; rfl)
     clear hst; have hst := match_other s hk hid (v := s.x.m6) (by rw [hj]; rfl)
     replace Hz : Has 82 [(0, _), (2, _), (3, _), (4, _), (5, _)] Az := Hz.only [0, 2, 3, 4, 5]
     obtain ⟨b165, o165, hp165, m165⟩ := m25.openN (i := 20) rfl (k) hk 101 rfl
     cases hp165; clear m25
     have m166 : MemOk _ _ [(1, _), (2, _), (3, _), (4, _), (5, _), (6, _), (7, _), (8, _), (20, _), (30, _), (31, _), (100, _), (101, _)] _ := m165.only [1, 2, 3, 4, 5, 6, 7, 8, 20, 30, 31, 100, 101]; clear m165
     refine region_p 10 (B := [(1, _), (2, _), (3, _), (4, _), (5, _), (6, _), (7, _), (8, _), (20, _), (30, _), (31, _), (100, _), (101, _)]) (m166.to ⟨il, il, il, il, il, il, il, il, il, il, il, il, il, trivial⟩) m166 (by kernel_rfl) (fun w167 hP167 m167 => ?_); clear m166
     refine goR hP167 [0, 1, 2, 3, 4, 5, 6, 7, 8, 9] [5, 9] 10 0 1023 Hz (m167.to ⟨il, il, il, il, il, il, il, il, il, il, il, il, il, trivial⟩) (.move rfl <| .move rfl <| .move rfl <| .move rfl <| .p (fun _ _ h_ => y_idx h_ rfl rfl Tryz.underlying26 sz3wco (k) rfl hk) <| .loadC0 hh (i := 101) rfl rfl Tryz.underlying3 rfl <| .nilCheck rfl <| .fieldAddr (off := 17) rfl Tryz.underlying91 rfl (s := 6) (by kernel_rfl) rfl <| .p (fun _ _ h_ => y_idxA h_ rfl rfl Tryz.underlying82 sz3wco 6 hj (by decide) (off := 23) rfl) <| .loadB1 hh (i := 1) rfl rfl rfl Tryz.underlying3 rfl <| .nil) ?_
     clear Hz Az; intro Az Hz
     refine stepE_end 10 rfl (by kernel_rfl) rfl (by rfl) (fun K hK => ?_)
     refine e_litN Hz m167 102 (k := .i64) rfl rfl Tryz.underlying26 inf3wco rfl rfl rfl rfl ?_
     clear Hz Az m167; intro g178 Az w179 Hz m179
     refine hK _ _ ?_; clear hK K
     refine stepE_end 11 rfl (by kernel_rfl) rfl (by rfl) (fun K hK => ?_)
     refine e_appN Hz m179 30 rfl rfl rfl (m179.numsO (i := 102) rfl) Tryz.underlying26 inf3wco (by decide) (by simp; omega) rfl ?_
     clear Hz Az m179; intro p180 c180 Az w181 Hz m181
     refine hK _ _ ?_; clear hK K
     refine goB hP167 [12] 1 4095 8191 Hz (.assign rfl <| .nil) ?_
     clear Hz Az; intro Az Hz
     refine wpAnyE_done (by kernel_rfl) ?_ _
     rw [hst] at Hz m181
     show K4 _ _
     exact hC4 _ _ ⟨_, _, Hz.only [0, 2, 3, 4, 5], m181.only [20, 30, 31, 1, 2, 3, 4, 5, 6, 7, 8]⟩
  ·
   clear Hz; intro hb18 Hz
   try simp only [Q1x, Q2x, Q3x, Q4x, Q5x, Q6x, Q7x, Q8x, Q9x, Q0x, Qax, Qbx] at hb18
   obtain rfl : k = (memS s).length := by omega
   rw [← matchL_len s, List.take_length] at m13 Hz
   refine wp_cond_false (Hz.ev (x := .tmp 12) rfl) ?_
   refine wp_exit ?_
   refine hK2 _ _ ?_; clear hK2; try clear K2
   refine wp_seq_k (fun K6 hK6 => ?_)
   refine regS Hz (.move rfl <| .nilCheck rfl <| .fieldAddr (off := 5) rfl Tryz.underlying91 rfl (s := 0) (by kernel_rfl) rfl <| .loadB1 m13 (i := 1) rfl rfl rfl Tryz.underlying3 rfl <| .add rfl rfl (r := s.x.co + 1) (IntWalk.i64_in _ (by omega)) <| .assign rfl <| .nil) ?_
   clear Hz Az; intro Az Hz
   refine wp_block ?_
   refine wp_loop_ghost (fun g a w => ∃ (k : Nat) (pb : Option Addr) (cb : Nat), k ≤ (termsL s).length ∧ g = (termsL s).length - k ∧ Has 82 [(0, .pointer (some ⟨R, 0, none⟩)), (2, .slice pa (matchL s).length ca), (3, .slice pb ((termsL s).take k).length cb), (6, .int .i64 (s.x.co + 1 + (k : Nat)))] a ∧ MemOk X w0 ((30, .num (.slice pa (matchL s).length ca) 3 .i64 (matchL s)) :: (31, .num (.slice pb ((termsL s).take k).length cb) 3 .i64 ((termsL s).take k)) :: rwM R s p) w) ((termsL s).length) ?_ ?_
   · exact ⟨0, none, 0, Nat.zero_le _, rfl, (co_zero s) ▸ Hz.only [0, 2, 3, 6], m13.ren [(30, 30), (31, 31), (1, 1), (2, 2), (3, 3), (4, 4), (5, 5), (6, 6), (7, 7), (8, 8)] (by decide)⟩
   ·
    clear Hz m13
    rintro g Az w189 ⟨k, pb, cb, hkl, hg, Hz, m189⟩
    refine wp_seq_k (fun K7 hK7 => ?_)
    refine wp_seq_k (fun K8 hK8 => ?_)
    refine wp_region_lit ?_
    refine goCh Hz (.move rfl <| .move rfl <| .nilCheck rfl <| .fieldAddr (off := 4) rfl Tryz.underlying91 rfl (s := 0) (by kernel_rfl) rfl <| .loadB1 m189 (i := 1) rfl rfl rfl Tryz.underlying88 rfl <| .nil) ?_
    clear Hz Az; intro Az Hz
    refine wpList_plain rfl (fun K hK => ?_)
    refine e_call Hz Tryz.func57 rfl rfl rfl rfl (wlast_s R s p _ (rwM_is s p (m189.into [(1, 1), (2, 2), (3, 3), (4, 4), (5, 5), (6, 6), (7, 7), (8, 8)] (by decide) rfl)) hb) ?_
    rintro e w200 ⟨rfl, hb200⟩
    have m201 := m189.later hb200
    clear m189
    clear hb200
    refine ⟨_, rfl, ?_⟩; clear Hz Az; intro Az Hz
    refine hK _ _ ?_; clear hK K
    refine goCh Hz (.leq rfl rfl .nil) ?_
    clear Hz Az; intro Az Hz
    refine wpList_nil ?_
    refine hK8 _ _ ?_; clear hK8; try clear K8
    refine bool_cases Hz (t := 55) rfl ?_ ?_
    ·
     clear Hz; intro hb204 Hz
     try simp only [Q1x, Q2x, Q3x, Q4x, Q5x, Q6x, Q7x, Q8x, Q9x, Q0x, Qax, Qbx] at hb204
     have hk : k < (termsL s).length := by rw [htl]; omega
     refine wp_cond_true (Hz.ev (x := .tmp 55) rfl) ?_
     refine wp_skip ?_
     refine hK7 _ _ ?_; clear hK7; try clear K7
     refine wp_seq_k (fun K9 hK9 => ?_)
     refine wp_block ?_
     replace Hz : Has 82 [(0, _), (2, _), (3, _), (6, _)] Az := Hz.only [0, 2, 3, 6]
     refine wp_region_lit ?_
     refine goCh Hz (.move rfl <| .move rfl <| .nilCheck rfl <| .fieldAddr (off := 4) rfl Tryz.underlying91 rfl (s := 0) (by kernel_rfl) rfl <| .loadB1 m201 (i := 1) rfl rfl rfl Tryz.underlying88 rfl <| .move rfl <| .nil) ?_
     clear Hz Az; intro Az Hz
     refine wpList_plain rfl (fun K hK => ?_)
     refine e_call Hz Tryz.func58 rfl rfl rfl rfl (wterm_s R s p _ (rwM_is s p (m201.into [(1, 1), (2, 2), (3, 3), (4, 4), (5, 5), (6, 6), (7, 7), (8, 8)] (by decide) rfl)) hb (s.x.co + 1 + (k : Int))) ?_
     rintro e w212 ⟨rfl, hb212⟩
     have m213 := m201.later hb212
     clear m201
     clear hb212
     refine ⟨_, rfl, ?_⟩; clear Hz Az; intro Az Hz
     refine hK _ _ ?_; clear hK K
     refine wpList_plain rfl (fun K hK => ?_)
     refine e_litN Hz m213 200 (k := .i64) rfl rfl Tryz.underlying26 inf3wco rfl rfl rfl rfl ?_
     clear Hz Az m213; intro g215 Az w216 Hz m216
     refine hK _ _ ?_; clear hK K
     refine wpList_plain rfl (fun K hK => ?_)
     refine e_appN Hz m216 31 rfl rfl rfl (m216.numsO (i := 200) rfl) Tryz.underlying26 inf3wco (by decide) (by simp; omega) rfl ?_
     clear Hz Az m216; intro p217 c217 Az w218 Hz m218
     refine hK _ _ ?_; clear hK K
     refine goCh Hz (.assign rfl .nil) ?_
     clear Hz Az; intro Az Hz
     refine wpList_nil ?_
     refine hK9 _ _ ?_; clear hK9; try clear K9
     replace Hz : Has 82 [(0, _), (2, _), (3, _), (6, _)] Az := Hz.only [0, 2, 3, 6]
     refine wp_region_lit ?_
     refine goCh Hz (.move rfl <| .add rfl rfl (r := s.x.co + 1 + ((k + 1 : Nat) : Int)) (by rw [IntWalk.i64_in _ (by omega)]; omega) <| .assign rfl <| .nil) ?_
     clear Hz Az; intro Az Hz
     refine wpList_nil ?_
     show ∃ n', n' < _ ∧ _
     rw [terms_step s hk] at Hz m218
     exact ⟨(termsL s).length - (k + 1), by omega, k + 1, _, _, by omega, rfl, Hz.only [0, 2, 3, 6], m218.only [30, 31, 1, 2, 3, 4, 5, 6, 7, 8]⟩
    ·
     clear Hz; intro hb204 Hz
     try simp only [Q1x, Q2x, Q3x, Q4x, Q5x, Q6x, Q7x, Q8x, Q9x, Q0x, Qax, Qbx] at hb204
     obtain rfl : k = (termsL s).length := by omega
     rw [List.take_length] at m201 Hz
     refine wp_cond_false (Hz.ev (x := .tmp 55) rfl) ?_
     refine wp_exit ?_
     refine hK6 _ _ ?_; clear hK6; try clear K6
     replace Hz : Has 82 [(0, _), (2, _), (3, _), (6, _)] Az := Hz.only [0, 2, 3, 6]
     have m225 : MemOk _ _ [(1, _), (2, _), (3, _), (4, _), (5, _), (6, _), (7, _), (8, _), (30, _), (31, _)] _ := m201.only [1, 2, 3, 4, 5, 6, 7, 8, 30, 31]; clear m201
     refine region_p 15 (B := [(1, _), (2, _), (3, _), (4, _), (5, _), (6, _), (7, _), (8, _), (30, _), (31, _)]) (m225.to ⟨il, il, il, il, il, il, il, il, il, il, trivial⟩) m225 (by kernel_rfl) (fun w226 hP226 m226 => ?_); clear m225
     refine goR hP226 [0, 1, 2, 3, 4, 5, 6, 7, 8, 9, 10, 11] [5, 9] 12 0 4095 Hz (m226.to ⟨il, il, il, il, il, il, il, il, il, il, trivial⟩) (.move rfl <| .move rfl <| .nilCheck rfl <| .fieldAddr (off := 2) rfl Tryz.underlying91 rfl (s := 1) (by kernel_rfl) rfl <| .fieldAddr (off := 2) rfl Tryz.underlying25 rfl (s := 0) (by kernel_rfl) rfl <| .loadB1 hh (i := 1) rfl rfl rfl Tryz.underlying3 rfl <| .move rfl <| .nilCheck rfl <| .fieldAddr (off := 5) rfl Tryz.underlying91 rfl (s := 0) (by kernel_rfl) rfl <| .loadB1 hh (i := 1) rfl rfl rfl Tryz.underlying3 rfl <| .move rfl <| .move rfl <| .nil) ?_
     clear Hz Az; intro Az Hz
     refine stepE_only 12 rfl (by kernel_rfl) rfl (fun K hK => ?_)
     refine e_call Hz Tryz.func126 rfl rfl rfl rfl (wcommit_b s.x.te s.x.co (matchL s) (termsL s) _ _ _ (m226.numsO (i := 30) rfl) (m226.numsO (i := 31) rfl) (by omega) (by omega) (by omega) (by omega)) ?_
     rintro e w239 ⟨rfl, hb239⟩
     have m240 := m226.later hb239
     clear m226
     clear hb239
     refine ⟨_, rfl, ?_⟩; clear Hz Az; intro Az Hz
     refine hK _ _ (m240.to ⟨il, il, il, il, il, il, il, il, il, il, trivial⟩) ?_; clear hK K
     refine goA hP226 [13, 14] 2 8191 32767 Hz (m240.to ⟨il, il, il, il, il, il, il, il, il, il, trivial⟩) (.nilCheck rfl <| .fieldAddr (off := 5) rfl Tryz.underlying91 rfl (s := 0) (by kernel_rfl) rfl <| .nil) ?_
     clear Hz Az; intro Az Hz
     refine stepE_end 15 rfl (by kernel_rfl) rfl (by rfl) (fun K hK => ?_)
     refine e_store1 Hz m240 1 rfl rfl rfl rfl rfl sz3wco (by dsimp only [List.set] <;> rfl) ?_
     clear m240; intro w244 m244 hB244
     clear hB244
     refine hK _ _ ?_; clear hK K
     refine wpAnyE_done (by kernel_rfl) ?_ _
     try dsimp only [Exit.then]
     try refine out_here ?_
     refine (ret0 (fn := Tryz.f80) Hz rfl ?_)
     exact ⟨_, rfl, m244.only [1, 2, 3, 4, 5, 6, 7, 8]⟩
theorem wlead_s (X : Cx) (R : Nat) (s : RS) (p : RP) (w0 : World) (hb : RLS s) (hw : WLS s) (hn : s.es.length < 100000) (hQ : s.rs.length ≤ 1000000) (hc : -1000000000 ≤ s.x.co ∧ s.x.co ≤ 1000000000) (hd : lastS s - s.x.co ≤ 900) (hM : s.ms.length ≤ 900000) (m0 : MemOk X w0 (rwM R s p) w0) :
   Calls Tryz.prog 107 #[.pointer (some ⟨R, 0, none⟩)] w0 fun e w' => ∃ p', e = .returned (.tuple #[]) ∧ MemOk X w0 (rwM R (winS s) p') w' := by
 refine enter (fn := Tryz.f107) Tryz.func107 rfl Tryz.ntmps107 rfl (fun Az Hz => ?_)
 simp only [List.zipIdx_cons, List.zipIdx_nil, List.map_cons, List.map_nil, Nat.reduceAdd, Nat.zero_add] at Hz
 have hlb := lastS_bd s hb
 have hbi := hb.b
 have hes := hb.n
 refine wp_seq_k (fun K0 hK0 => ?_)
 refine wp_region_lit ?_
 refine goCh Hz (.move rfl <| .move rfl <| .move rfl <| .move rfl <| .nilCheck rfl <| .fieldAddr (off := 0) rfl Tryz.underlying91 rfl (s := 0) (by kernel_rfl) rfl <| .loadB1 m0 (i := 1) rfl rfl rfl Tryz.underlying3 rfl <| .nilCheck rfl <| .fieldAddr (off := 7) rfl Tryz.underlying91 rfl (s := 0) (by kernel_rfl) rfl <| .nil) ?_
 clear Hz Az; intro Az Hz
 refine wpList_plain rfl (fun K hK => ?_)
 refine e_store1 Hz m0 1 rfl rfl rfl rfl rfl sz3wle (by dsimp only [List.set] <;> rfl) ?_
 clear m0; intro w19 m19 hB19
 clear hB19
 refine hK _ _ ?_; clear hK K
 refine goCh Hz (.nilCheck rfl <| .fieldAddr (off := 8) rfl Tryz.underlying91 rfl (s := 0) (by kernel_rfl) rfl <| .nil) ?_
 clear Hz Az; intro Az Hz
 refine wpList_plain rfl (fun K hK => ?_)
 refine e_store1 Hz m19 1 rfl rfl rfl rfl rfl sz3wle (by dsimp only [List.set] <;> rfl) ?_
 clear m19; intro w22 m22 hB22
 clear hB22
 refine hK _ _ ?_; clear hK K
 refine goCh Hz (.nilCheck rfl <| .fieldAddr (off := 25) rfl Tryz.underlying91 rfl (s := 0) (by kernel_rfl) rfl <| .nil) ?_
 clear Hz Az; intro Az Hz
 refine wpList_plain rfl (fun K hK => ?_)
 refine e_store1 Hz m22 1 rfl rfl rfl rfl rfl sz3wle (by dsimp only [List.set] <;> rfl) ?_
 clear m22; intro w25 m25 hB25
 clear hB25
 refine hK _ _ ?_; clear hK K
 refine wpList_nil ?_
 refine hK0 _ _ ?_; clear hK0; try clear K0
 refine wp_seq_k (fun K1 hK1 => ?_)
 have hC1 : ∀ (a : Act) (w : World), (Has 42 [(0, .pointer (some ⟨R, 0, none⟩))] a ∧ MemOk X w0 (rwM R (withX s (begX { s.x with ro := 3, le := s.x.id } (lastS s))) p) w) → K1 a w := by
   clear Hz m25
   rintro Az w26 ⟨Hz, m26⟩
   refine hK1 _ _ ?_; clear hK1; try clear K1
   refine wp_seq_k (fun K2 hK2 => ?_)
   refine wp_region_lit ?_
   refine goCh Hz (.move rfl .nil) ?_
   clear Hz Az; intro Az Hz
   refine wpList_plain rfl (fun K hK => ?_)
   refine e_call Hz Tryz.func79 rfl rfl rfl rfl (wadd0_s _ R (withX s (begX { s.x with ro := 3, le := s.x.id } (lastS s))) p 0 _ hb hn hQ (m26.into [(1, 1), (2, 2), (3, 3), (4, 4), (5, 5), (6, 6), (7, 7), (8, 8)] (by decide) rfl)) ?_
   rintro e w29 ⟨p2, rfl, hm29⟩
   have mx29 := m26.back hm29 [(1, 1), (2, 2), (3, 3), (4, 4), (5, 5), (6, 6), (7, 7), (8, 8)] (by decide); clear hm29 m26
   have m29 : MemOk _ _ [(1, _), (2, _), (3, _), (4, _), (5, _), (6, _), (7, _), (8, _)] _ := mx29.only [1, 2, 3, 4, 5, 6, 7, 8]; clear mx29
   refine ⟨_, rfl, ?_⟩; clear Hz Az; intro Az Hz
   refine hK _ _ ?_; clear hK K
   refine wpList_nil ?_
   refine hK2 _ _ ?_; clear hK2; try clear K2
   refine wp_seq_k (fun K3 hK3 => ?_)
   refine wp_region_lit ?_
   refine goCh Hz (.move rfl .nil) ?_
   clear Hz Az; intro Az Hz
   refine wpList_plain rfl (fun K hK => ?_)
   refine e_call Hz Tryz.func80 rfl rfl rfl rfl (wcount_s _ R (addE (withX s (begX { s.x with ro := 3, le := s.x.id } (lastS s))) 0 []) p2 _ (hb.snoc hn (by decide) (by intro z hz; cases hz)) (hw.snoc0 _ _) hc (by rw [add_last]; show lastS s + 1 - s.x.co ≤ 1000; omega) (m29.into [(1, 1), (2, 2), (3, 3), (4, 4), (5, 5), (6, 6), (7, 7), (8, 8)] (by decide) rfl)) ?_
   rintro e w33 ⟨p3, rfl, hm33⟩
   have mx33 := m29.back hm33 [(1, 1), (2, 2), (3, 3), (4, 4), (5, 5), (6, 6), (7, 7), (8, 8)] (by decide); clear hm33 m29
   have m33 : MemOk _ _ [(1, _), (2, _), (3, _), (4, _), (5, _), (6, _), (7, _), (8, _)] _ := mx33.only [1, 2, 3, 4, 5, 6, 7, 8]; clear mx33
   refine ⟨_, rfl, ?_⟩; clear Hz Az; intro Az Hz
   refine hK _ _ ?_; clear hK K
   refine wpList_nil ?_
   refine hK3 _ _ ?_; clear hK3; try clear K3
   refine wp_region_lit ?_
   refine goCh Hz (.move rfl .nil) ?_
   clear Hz Az; intro Az Hz
   refine wpList_plain rfl (fun K hK => ?_)
   refine e_call Hz Tryz.func52 rfl rfl rfl rfl (wwords_s _ R (addS (withX s (begX { s.x with ro := 3, le := s.x.id } (lastS s))) 0 []) p3 _ (hb.snoc hn (by decide) (by intro z hz; cases hz)) (hw.snoc0 _ _) hM (win_nx s hb) (m33.into [(1, 1), (2, 2), (3, 3), (4, 4), (5, 5), (6, 6), (7, 7), (8, 8)] (by decide) rfl)) ?_
   rintro e w36 ⟨p4, rfl, hm36⟩
   have mx36 := m33.back hm36 [(1, 1), (2, 2), (3, 3), (4, 4), (5, 5), (6, 6), (7, 7), (8, 8)] (by decide); clear hm36 m33
   have m36 : MemOk _ _ [(1, _), (2, _), (3, _), (4, _), (5, _), (6, _), (7, _), (8, _)] _ := mx36.only [1, 2, 3, 4, 5, 6, 7, 8]; clear mx36
   refine ⟨_, rfl, ?_⟩; clear Hz Az; intro Az Hz
   refine hK _ _ ?_; clear hK K
   refine wpList_nil ?_
   try dsimp only [Exit.then]
   try refine out_here ?_
   refine (ret0 (fn := Tryz.f107) Hz rfl ?_)
   exact ⟨p4, rfl, m36.only [1, 2, 3, 4, 5, 6, 7, 8]⟩
 replace Hz : Has 42 [(0, _)] Az := Hz.only [0]
 refine regS Hz (.assign rfl <| .nil) ?_
 clear Hz Az; intro Az Hz
 refine wp_block ?_
 refine wp_loop_ghost (fun g a w => ∃ (k : Nat), k ≤ 7 ∧ g = 7 - k ∧ Has 42 [(0, .pointer (some ⟨R, 0, none⟩)), (2, .int .i64 (k : Nat))] a ∧ MemOk X w0 (rwM R (withX s (begJ { s.x with ro := 3, le := s.x.id, be := 0 } (lastS s + 1) k)) p) w) (7) ?_ ?_
 · exact ⟨0, Nat.zero_le _, rfl, Hz.only [0, 2], m25.only [1, 2, 3, 4, 5, 6, 7, 8]⟩
 ·
  clear Hz m25
  rintro g Az w40 ⟨k, hkl, hg, Hz, m40⟩
  refine wp_seq_k (fun K4 hK4 => ?_)
  refine regS Hz (.move rfl <| .lss rfl rfl <| .nil) ?_
  clear Hz Az; intro Az Hz
  refine bool_cases Hz (t := 17) rfl ?_ ?_
  ·
   clear Hz; intro hb43 Hz
   try simp only [Q1x, Q2x, Q3x, Q4x, Q5x, Q6x, Q7x, Q8x, Q9x, Q0x, Qax, Qbx] at hb43
   have hk : k < 7 := by omega
   refine wp_cond_true (Hz.ev (x := .tmp 17) rfl) ?_
   refine wp_skip ?_
   refine hK4 _ _ ?_; clear hK4; try clear K4
   refine wp_seq_k (fun K5 hK5 => ?_)
   have hC5 : ∀ (a : Act) (w : World), (Has 42 [(0, .pointer (some ⟨R, 0, none⟩)), (2, .int .i64 (k : Nat))] a ∧ MemOk X w0 (rwM R (withX s (begJ { s.x with ro := 3, le := s.x.id, be := 0 } (lastS s + 1) (k + 1))) p) w) → K5 a w := by
     clear Hz m40
     rintro Az w44 ⟨Hz, m44⟩
     refine hK5 _ _ ?_; clear hK5; try clear K5
     refine wp_region_lit ?_
     refine goCh Hz (.move rfl <| .add rfl rfl (r := ((k + 1 : Nat) : Int)) (by rw [IntWalk.i64_in _ (by omega)]; omega) <| .assign rfl <| .nil) ?_
     clear Hz Az; intro Az Hz
     refine wpList_nil ?_
     show ∃ n', n' < _ ∧ _
     exact ⟨7 - (k + 1), by omega, k + 1, by omega, rfl, Hz.only [0, 2], m44.only [1, 2, 3, 4, 5, 6, 7, 8]⟩
   refine wp_block ?_
   rcases (show k = 0 ∨ k = 1 ∨ k = 2 ∨ k = 3 ∨ k = 4 ∨ k = 5 ∨ k = 6 by omega) with hj | hj | hj | hj | hj | hj | hj
   ·
    subst hj
    have m48 : MemOk _ _ [(1, _), (2, _), (3, _), (4, _), (5, _), (6, _), (7, _), (8, _)] _ := m40.only [1, 2, 3, 4, 5, 6, 7, 8]; clear m40
    refine region_p 13 (B := [(1, _), (2, _), (3, _), (4, _), (5, _), (6, _), (7, _), (8, _)]) (m48.to ⟨il, il, il, il, il, il, il, il, trivial⟩) m48 (by kernel_rfl) (fun w49 hP49 m49 => ?_); clear m48
    refine goR hP49 [0, 1, 2, 3, 4, 5, 6, 7, 10, 11, 14, 15] [7] 12 0 52479 Hz (m49.to ⟨il, il, il, il, il, il, il, il, trivial⟩) (.move rfl <| .move rfl <| .move rfl <| .move rfl <| .move rfl <| .nilCheck rfl <| .fieldAddr (off := 4) rfl Tryz.underlying91 rfl (s := 0) (by kernel_rfl) rfl <| .loadB1 hh (i := 1) rfl rfl rfl Tryz.underlying88 rfl <| .nilCheck rfl <| .fieldAddr (off := 10) rfl Tryz.underlying91 rfl (s := 6) (by kernel_rfl) rfl <| .nilCheck rfl <| .fieldAddr (off := 17) rfl Tryz.underlying91 rfl (s := 6) (by kernel_rfl) rfl <| .nil) ?_
    clear Hz Az; intro Az Hz
    refine stepE_only 8 rfl (by kernel_rfl) rfl (fun K hK => ?_)
    refine e_call Hz Tryz.func57 rfl rfl rfl rfl (wlastx_s R s _ p _ (rwM_is (withX s _) p (m49.into [(1, 1), (2, 2), (3, 3), (4, 4), (5, 5), (6, 6), (7, 7), (8, 8)] (by decide) rfl)) hb) ?_
    rintro e w62 ⟨rfl, hb62⟩
    have m63 := m49.later hb62
    clear m49
    clear hb62
    refine ⟨_, rfl, ?_⟩; clear Hz Az; intro Az Hz
    refine hK _ _ (m63.to ⟨il, il, il, il, il, il, il, il, trivial⟩) ?_; clear hK K
    refine goA hP49 [9, 12] 2 52735 57343 Hz (m63.to ⟨il, il, il, il, il, il, il, il, trivial⟩) (.add rfl rfl (r := lastS s + 1) (IntWalk.i64_in (lastS s + 1) (by omega)) <| .p (fun _ _ h_ => y_idxA h_ rfl rfl Tryz.underlying82 sz3wle 0 rfl (by decide) (off := 10) rfl) <| .nil) ?_
    clear Hz Az; intro Az Hz
    refine stepE_end 13 rfl (by kernel_rfl) rfl (by rfl) (fun K hK => ?_)
    refine e_store1 Hz m63 1 rfl rfl rfl rfl rfl sz3wle (by dsimp only [List.set] <;> rfl) ?_
    clear m63; intro w67 m67 hB67
    clear hB67
    refine hK _ _ ?_; clear hK K
    refine goB hP49 [16] 1 65535 131071 Hz (.p (fun _ _ h_ => y_idxA h_ rfl rfl Tryz.underlying82 sz3wle 0 rfl (by decide) (off := 17) rfl) <| .nil) ?_
    clear Hz Az; intro Az Hz
    refine stepE_end 17 rfl (by kernel_rfl) rfl (by rfl) (fun K hK => ?_)
    refine e_store1 Hz m67 1 rfl rfl rfl rfl rfl sz3wle (by dsimp only [List.set] <;> rfl) ?_
    clear m67; intro w69 m69 hB69
    clear hB69
    refine hK _ _ ?_; clear hK K
    refine wpAnyE_done (by kernel_rfl) ?_ _
    show K5 _ _
    exact hC5 _ _ ⟨Hz.only [0, 2], m69.only [1, 2, 3, 4, 5, 6, 7, 8]⟩
   ·
    subst hj
    have m70 : MemOk _ _ [(1, _), (2, _), (3, _), (4, _), (5, _), (6, _), (7, _), (8, _)] _ := m40.only [1, 2, 3, 4, 5, 6, 7, 8]; clear m40
    refine region_p 13 (B := [(1, _), (2, _), (3, _), (4, _), (5, _), (6, _), (7, _), (8, _)]) (m70.to ⟨il, il, il, il, il, il, il, il, trivial⟩) m70 (by kernel_rfl) (fun w71 hP71 m71 => ?_); clear m70
    refine goR hP71 [0, 1, 2, 3, 4, 5, 6, 7, 10, 11, 14, 15] [7] 12 0 52479 Hz (m71.to ⟨il, il, il, il, il, il, il, il, trivial⟩) (.move rfl <| .move rfl <| .move rfl <| .move rfl <| .move rfl <| .nilCheck rfl <| .fieldAddr (off := 4) rfl Tryz.underlying91 rfl (s := 0) (by kernel_rfl) rfl <| .loadB1 hh (i := 1) rfl rfl rfl Tryz.underlying88 rfl <| .nilCheck rfl <| .fieldAddr (off := 10) rfl Tryz.underlying91 rfl (s := 6) (by kernel_rfl) rfl <| .nilCheck rfl <| .fieldAddr (off := 17) rfl Tryz.underlying91 rfl (s := 6) (by kernel_rfl) rfl <| .nil) ?_
    clear Hz Az; intro Az Hz
    refine stepE_only 8 rfl (by kernel_rfl) rfl (fun K hK => ?_)
    refine e_call Hz Tryz.func57 rfl rfl rfl rfl (wlastx_s R s _ p _ (rwM_is (withX s _) p (m71.into [(1, 1), (2, 2), (3, 3), (4, 4), (5, 5), (6, 6), (7, 7), (8, 8)] (by decide) rfl)) hb) ?_
    rintro e w84 ⟨rfl, hb84⟩
    have m85 := m71.later hb84
    clear m71
    clear hb84
    refine ⟨_, rfl, ?_⟩; clear Hz Az; intro Az Hz
    refine hK _ _ (m85.to ⟨il, il, il, il, il, il, il, il, trivial⟩) ?_; clear hK K
    refine goA hP71 [9, 12] 2 52735 57343 Hz (m85.to ⟨il, il, il, il, il, il, il, il, trivial⟩) (.add rfl rfl (r := lastS s + 1) (IntWalk.i64_in (lastS s + 1) (by omega)) <| .p (fun _ _ h_ => y_idxA h_ rfl rfl Tryz.underlying82 sz3wle 1 rfl (by decide) (off := 11) rfl) <| .nil) ?_
    clear Hz Az; intro Az Hz
    refine stepE_end 13 rfl (by kernel_rfl) rfl (by rfl) (fun K hK => ?_)
    refine e_store1 Hz m85 1 rfl rfl rfl rfl rfl sz3wle (by dsimp only [List.set] <;> rfl) ?_
    clear m85; intro w89 m89 hB89
    clear hB89
    refine hK _ _ ?_; clear hK K
    refine goB hP71 [16] 1 65535 131071 Hz (.p (fun _ _ h_ => y_idxA h_ rfl rfl Tryz.underlying82 sz3wle 1 rfl (by decide) (off := 18) rfl) <| .nil) ?_
    clear Hz Az; intro Az Hz
    refine stepE_end 17 rfl (by kernel_rfl) rfl (by rfl) (fun K hK => ?_)
    refine e_store1 Hz m89 1 rfl rfl rfl rfl rfl sz3wle (by dsimp only [List.set] <;> rfl) ?_
    clear m89; intro w91 m91 hB91
    clear hB91
    refine hK _ _ ?_; clear hK K
    refine wpAnyE_done (by kernel_rfl) ?_ _
    show K5 _ _
    exact hC5 _ _ ⟨Hz.only [0, 2], m91.only [1, 2, 3, 4, 5, 6, 7, 8]⟩
   ·
    subst hj
    have m92 : MemOk _ _ [(1, _), (2, _), (3, _), (4, _), (5, _), (6, _), (7, _), (8, _)] _ := m40.only [1, 2, 3, 4, 5, 6, 7, 8]; clear m40
    refine region_p 13 (B := [(1, _), (2, _), (3, _), (4, _), (5, _), (6, _), (7, _), (8, _)]) (m92.to ⟨il, il, il, il, il, il, il, il, trivial⟩) m92 (by kernel_rfl) (fun w93 hP93 m93 => ?_); clear m92
    refine goR hP93 [0, 1, 2, 3, 4, 5, 6, 7, 10, 11, 14, 15] [7] 12 0 52479 Hz (m93.to ⟨il, il, il, il, il, il, il, il, trivial⟩) (.move rfl <| .move rfl <| .move rfl <| .move rfl <| .move rfl <| .nilCheck rfl <| .fieldAddr (off := 4) rfl Tryz.underlying91 rfl (s := 0) (by kernel_rfl) rfl <| .loadB1 hh (i := 1) rfl rfl rfl Tryz.underlying88 rfl <| .nilCheck rfl <| .fieldAddr (off := 10) rfl Tryz.underlying91 rfl (s := 6) (by kernel_rfl) rfl <| .nilCheck rfl <| .fieldAddr (off := 17) rfl Tryz.underlying91 rfl (s := 6) (by kernel_rfl) rfl <| .nil) ?_
    clear Hz Az; intro Az Hz
    refine stepE_only 8 rfl (by kernel_rfl) rfl (fun K hK => ?_)
    refine e_call Hz Tryz.func57 rfl rfl rfl rfl (wlastx_s R s _ p _ (rwM_is (withX s _) p (m93.into [(1, 1), (2, 2), (3, 3), (4, 4), (5, 5), (6, 6), (7, 7), (8, 8)] (by decide) rfl)) hb) ?_
    rintro e w106 ⟨rfl, hb106⟩
    have m107 := m93.later hb106
    clear m93
    clear hb106
    refine ⟨_, rfl, ?_⟩; clear Hz Az; intro Az Hz
    refine hK _ _ (m107.to ⟨il, il, il, il, il, il, il, il, trivial⟩) ?_; clear hK K
    refine goA hP93 [9, 12] 2 52735 57343 Hz (m107.to ⟨il, il, il, il, il, il, il, il, trivial⟩) (.add rfl rfl (r := lastS s + 1) (IntWalk.i64_in (lastS s + 1) (by omega)) <| .p (fun _ _ h_ => y_idxA h_ rfl rfl Tryz.underlying82 sz3wle 2 rfl (by decide) (off := 12) rfl) <| .nil) ?_
    clear Hz Az; intro Az Hz
    refine stepE_end 13 rfl (by kernel_rfl) rfl (by rfl) (fun K hK => ?_)
    refine e_store1 Hz m107 1 rfl rfl rfl rfl rfl sz3wle (by dsimp only [List.set] <;> rfl) ?_
    clear m107; intro w111 m111 hB111
    clear hB111
    refine hK _ _ ?_; clear hK K
    refine goB hP93 [16] 1 65535 131071 Hz (.p (fun _ _ h_ => y_idxA h_ rfl rfl Tryz.underlying82 sz3wle 2 rfl (by decide) (off := 19) rfl) <| .nil) ?_
    clear Hz Az; intro Az Hz
    refine stepE_end 17 rfl (by kernel_rfl) rfl (by rfl) (fun K hK => ?_)
    refine e_store1 Hz m111 1 rfl rfl rfl rfl rfl sz3wle (by dsimp only [List.set] <;> rfl) ?_
    clear m111; intro w113 m113 hB113
    clear hB113
    refine hK _ _ ?_; clear hK K
    refine wpAnyE_done (by kernel_rfl) ?_ _
    show K5 _ _
    exact hC5 _ _ ⟨Hz.only [0, 2], m113.only [1, 2, 3, 4, 5, 6, 7, 8]⟩
   ·
    subst hj
    have m114 : MemOk _ _ [(1, _), (2, _), (3, _), (4, _), (5, _), (6, _), (7, _), (8, _)] _ := m40.only [1, 2, 3, 4, 5, 6, 7, 8]; clear m40
    refine region_p 13 (B := [(1, _), (2, _), (3, _), (4, _), (5, _), (6, _), (7, _), (8, _)]) (m114.to ⟨il, il, il, il, il, il, il, il, trivial⟩) m114 (by kernel_rfl) (fun w115 hP115 m115 => ?_); clear m114
    refine goR hP115 [0, 1, 2, 3, 4, 5, 6, 7, 10, 11, 14, 15] [7] 12 0 52479 Hz (m115.to ⟨il, il, il, il, il, il, il, il, trivial⟩) (.move rfl <| .move rfl <| .move rfl <| .move rfl <| .move rfl <| .nilCheck rfl <| .fieldAddr (off := 4) rfl Tryz.underlying91 rfl (s := 0) (by kernel_rfl) rfl <| .loadB1 hh (i := 1) rfl rfl rfl Tryz.underlying88 rfl <| .nilCheck rfl <| .fieldAddr (off := 10) rfl Tryz.underlying91 rfl (s := 6) (by kernel_rfl) rfl <| .nilCheck rfl <| .fieldAddr (off := 17) rfl Tryz.underlying91 rfl (s := 6) (by kernel_rfl) rfl <| .nil) ?_
    clear Hz Az; intro Az Hz
    refine stepE_only 8 rfl (by kernel_rfl) rfl (fun K hK => ?_)
    refine e_call Hz Tryz.func57 rfl rfl rfl rfl (wlastx_s R s _ p _ (rwM_is (withX s _) p (m115.into [(1, 1), (2, 2), (3, 3), (4, 4), (5, 5), (6, 6), (7, 7), (8, 8)] (by decide) rfl)) hb) ?_
    rintro e w128 ⟨rfl, hb128⟩
    have m129 := m115.later hb128
    clear m115
    clear hb128
    refine ⟨_, rfl, ?_⟩; clear Hz Az; intro Az Hz
    refine hK _ _ (m129.to ⟨il, il, il, il, il, il, il, il, trivial⟩) ?_; clear hK K
    refine goA hP115 [9, 12] 2 52735 57343 Hz (m129.to ⟨il, il, il, il, il, il, il, il, trivial⟩) (.add rfl rfl (r := lastS s + 1) (IntWalk.i64_in (lastS s + 1) (by omega)) <| .p (fun _ _ h_ => y_idxA h_ rfl rfl Tryz.underlying82 sz3wle 3 rfl (by decide) (off := 13) rfl) <| .nil) ?_
    clear Hz Az; intro Az Hz
    refine stepE_end 13 rfl (by kernel_rfl) rfl (by rfl) (fun K hK => ?_)
    refine e_store1 Hz m129 1 rfl rfl rfl rfl rfl sz3wle (by dsimp only [List.set] <;> rfl) ?_
    clear m129; intro w133 m133 hB133
    clear hB133
    refine hK _ _ ?_; clear hK K
    refine goB hP115 [16] 1 65535 131071 Hz (.p (fun _ _ h_ => y_idxA h_ rfl rfl Tryz.underlying82 sz3wle 3 rfl (by decide) (off := 20) rfl) <| .nil) ?_
    clear Hz Az; intro Az Hz
    refine stepE_end 17 rfl (by kernel_rfl) rfl (by rfl) (fun K hK => ?_)
    refine e_store1 Hz m133 1 rfl rfl rfl rfl rfl sz3wle (by dsimp only [List.set] <;> rfl) ?_
    clear m133; intro w135 m135 hB135
    clear hB135
    refine hK _ _ ?_; clear hK K
    refine wpAnyE_done (by kernel_rfl) ?_ _
    show K5 _ _
    exact hC5 _ _ ⟨Hz.only [0, 2], m135.only [1, 2, 3, 4, 5, 6, 7, 8]⟩
   ·
    subst hj
    have m136 : MemOk _ _ [(1, _), (2, _), (3, _), (4, _), (5, _), (6, _), (7, _), (8, _)] _ := m40.only [1, 2, 3, 4, 5, 6, 7, 8]; clear m40
    refine region_p 13 (B := [(1, _), (2, _), (3, _), (4, _), (5, _), (6, _), (7, _), (8, _)]) (m136.to ⟨il, il, il, il, il, il, il, il, trivial⟩) m136 (by kernel_rfl) (fun w137 hP137 m137 => ?_); clear m136
    refine goR hP137 [0, 1, 2, 3, 4, 5, 6, 7, 10, 11, 14, 15] [7] 12 0 52479 Hz (m137.to ⟨il, il, il, il, il, il, il, il, trivial⟩) (.move rfl <| .move rfl <| .move rfl <| .move rfl <| .move rfl <| .nilCheck rfl <| .fieldAddr (off := 4) rfl Tryz.underlying91 rfl (s := 0) (by kernel_rfl) rfl <| .loadB1 hh (i := 1) rfl rfl rfl Tryz.underlying88 rfl <| .nilCheck rfl <| .fieldAddr (off := 10) rfl Tryz.underlying91 rfl (s := 6) (by kernel_rfl) rfl <| .nilCheck rfl <| .fieldAddr (off := 17) rfl Tryz.underlying91 rfl (s := 6) (by kernel_rfl) rfl <| .nil) ?_
    clear Hz Az; intro Az Hz
    refine stepE_only 8 rfl (by kernel_rfl) rfl (fun K hK => ?_)
    refine e_call Hz Tryz.func57 rfl rfl rfl rfl (wlastx_s R s _ p _ (rwM_is (withX s _) p (m137.into [(1, 1), (2, 2), (3, 3), (4, 4), (5, 5), (6, 6), (7, 7), (8, 8)] (by decide) rfl)) hb) ?_
    rintro e w150 ⟨rfl, hb150⟩
    have m151 := m137.later hb150
    clear m137
    clear hb150
    refine ⟨_, rfl, ?_⟩; clear Hz Az; intro Az Hz
    refine hK _ _ (m151.to ⟨il, il, il, il, il, il, il, il, trivial⟩) ?_; clear hK K
    refine goA hP137 [9, 12] 2 52735 57343 Hz (m151.to ⟨il, il, il, il, il, il, il, il, trivial⟩) (.add rfl rfl (r := lastS s + 1) (IntWalk.i64_in (lastS s + 1) (by omega)) <| .p (fun _ _ h_ => y_idxA h_ rfl rfl Tryz.underlying82 sz3wle 4 rfl (by decide) (off := 14) rfl) <| .nil) ?_
    clear Hz Az; intro Az Hz
    refine stepE_end 13 rfl (by kernel_rfl) rfl (by rfl) (fun K hK => ?_)
    refine e_store1 Hz m151 1 rfl rfl rfl rfl rfl sz3wle (by dsimp only [List.set] <;> rfl) ?_
    clear m151; intro w155 m155 hB155
    clear hB155
    refine hK _ _ ?_; clear hK K
    refine goB hP137 [16] 1 65535 131071 Hz (.p (fun _ _ h_ => y_idxA h_ rfl rfl Tryz.underlying82 sz3wle 4 rfl (by decide) (off := 21) rfl) <| .nil) ?_
    clear Hz Az; intro Az Hz
    refine stepE_end 17 rfl (by kernel_rfl) rfl (by rfl) (fun K hK => ?_)
    refine e_store1 Hz m155 1 rfl rfl rfl rfl rfl sz3wle (by dsimp only [List.set] <;> rfl) ?_
    clear m155; intro w157 m157 hB157
    clear hB157
    refine hK _ _ ?_; clear hK K
    refine wpAnyE_done (by kernel_rfl) ?_ _
    show K5 _ _
    exact hC5 _ _ ⟨Hz.only [0, 2], m157.only [1, 2, 3, 4, 5, 6, 7, 8]⟩
   ·
    subst hj
    have m158 : MemOk _ _ [(1, _), (2, _), (3, _), (4, _), (5, _), (6, _), (7, _), (8, _)] _ := m40.only [1, 2, 3, 4, 5, 6, 7, 8]; clear m40
    refine region_p 13 (B := [(1, _), (2, _), (3, _), (4, _), (5, _), (6, _), (7, _), (8, _)]) (m158.to ⟨il, il, il, il, il, il, il, il, trivial⟩) m158 (by kernel_rfl) (fun w159 hP159 m159 => ?_); clear m158
    refine goR hP159 [0, 1, 2, 3, 4, 5, 6, 7, 10, 11, 14, 15] [7] 12 0 52479 Hz (m159.to ⟨il, il, il, il, il, il, il, il, trivial⟩) (.move rfl <| .move rfl <| .move rfl <| .move rfl <| .move rfl <| .nilCheck rfl <| .fieldAddr (off := 4) rfl Tryz.underlying91 rfl (s := 0) (by kernel_rfl) rfl <| .loadB1 hh (i := 1) rfl rfl rfl Tryz.underlying88 rfl <| .nilCheck rfl <| .fieldAddr (off := 10) rfl Tryz.underlying91 rfl (s := 6) (by kernel_rfl) rfl <| .nilCheck rfl <| .fieldAddr (off := 17) rfl Tryz.underlying91 rfl (s := 6) (by kernel_rfl) rfl <| .nil) ?_
    clear Hz Az; intro Az Hz
    refine stepE_only 8 rfl (by kernel_rfl) rfl (fun K hK => ?_)
    refine e_call Hz Tryz.func57 rfl rfl rfl rfl (wlastx_s R s _ p _ (rwM_is (withX s _) p (m159.into [(1, 1), (2, 2), (3, 3), (4, 4), (5, 5), (6, 6), (7, 7), (8, 8)] (by decide) rfl)) hb) ?_
    rintro e w172 ⟨rfl, hb172⟩
    have m173 := m159.later hb172
    clear m159
    clear hb172
    refine ⟨_, rfl, ?_⟩; clear Hz Az; intro Az Hz
    refine hK _ _ (m173.to ⟨il, il, il, il, il, il, il, il, trivial⟩) ?_; clear hK K
    refine goA hP159 [9, 12] 2 52735 57343 Hz (m173.to ⟨il, il, il, il, il, il, il, il, trivial⟩) (.add rfl rfl (r := lastS s + 1) (IntWalk.i64_in (lastS s + 1) (by omega)) <| .p (fun _ _ h_ => y_idxA h_ rfl rfl Tryz.underlying82 sz3wle 5 rfl (by decide) (off := 15) rfl) <| .nil) ?_
    clear Hz Az; intro Az Hz
    refine stepE_end 13 rfl (by kernel_rfl) rfl (by rfl) (fun K hK => ?_)
    refine e_store1 Hz m173 1 rfl rfl rfl rfl rfl sz3wle (by dsimp only [List.set] <;> rfl) ?_
    clear m173; intro w177 m177 hB177
    clear hB177
    refine hK _ _ ?_; clear hK K
    refine goB hP159 [16] 1 65535 131071 Hz (.p (fun _ _ h_ => y_idxA h_ rfl rfl Tryz.underlying82 sz3wle 5 rfl (by decide) (off := 22) rfl) <| .nil) ?_
    clear Hz Az; intro Az Hz
    refine stepE_end 17 rfl (by kernel_rfl) rfl (by rfl) (fun K hK => ?_)
    refine e_store1 Hz m177 1 rfl rfl rfl rfl rfl sz3wle (by dsimp only [List.set] <;> rfl) ?_
    clear m177; intro w179 m179 hB179
    clear hB179
    refine hK _ _ ?_; clear hK K
    refine wpAnyE_done (by kernel_rfl) ?_ _
    show K5 _ _
    exact hC5 _ _ ⟨Hz.only [0, 2], m179.only [1, 2, 3, 4, 5, 6, 7, 8]⟩
   ·
    subst hj
    have m180 : MemOk _ _ [(1, _), (2, _), (3, _), (4, _), (5, _), (6, _), (7, _), (8, _)] _ := m40.only [1, 2, 3, 4, 5, 6, 7, 8]; clear m40
    refine region_p 13 (B := [(1, _), (2, _), (3, _), (4, _), (5, _), (6, _), (7, _), (8, _)]) (m180.to ⟨il, il, il, il, il, il, il, il, trivial⟩) m180 (by kernel_rfl) (fun w181 hP181 m181 => ?_); clear m180
    refine goR hP181 [0, 1, 2, 3, 4, 5, 6, 7, 10, 11, 14, 15] [7] 12 0 52479 Hz (m181.to ⟨il, il, il, il, il, il, il, il, trivial⟩) (.move rfl <| .move rfl <| .move rfl <| .move rfl <| .move rfl <| .nilCheck rfl <| .fieldAddr (off := 4) rfl Tryz.underlying91 rfl (s := 0) (by kernel_rfl) rfl <| .loadB1 hh (i := 1) rfl rfl rfl Tryz.underlying88 rfl <| .nilCheck rfl <| .fieldAddr (off := 10) rfl Tryz.underlying91 rfl (s := 6) (by kernel_rfl) rfl <| .nilCheck rfl <| .fieldAddr (off := 17) rfl Tryz.underlying91 rfl (s := 6) (by kernel_rfl) rfl <| .nil) ?_
    clear Hz Az; intro Az Hz
    refine stepE_only 8 rfl (by kernel_rfl) rfl (fun K hK => ?_)
    refine e_call Hz Tryz.func57 rfl rfl rfl rfl (wlastx_s R s _ p _ (rwM_is (withX s _) p (m181.into [(1, 1), (2, 2), (3, 3), (4, 4), (5, 5), (6, 6), (7, 7), (8, 8)] (by decide) rfl)) hb) ?_
    rintro e w194 ⟨rfl, hb194⟩
    have m195 := m181.later hb194
    clear m181
    clear hb194
    refine ⟨_, rfl, ?_⟩; clear Hz Az; intro Az Hz
    refine hK _ _ (m195.to ⟨il, il, il, il, il, il, il, il, trivial⟩) ?_; clear hK K
    refine goA hP181 [9, 12] 2 52735 57343 Hz (m195.to ⟨il, il, il, il, il, il, il, il, trivial⟩) (.add rfl rfl (r := lastS s + 1) (IntWalk.i64_in (lastS s + 1) (by omega)) <| .p (fun _ _ h_ => y_idxA h_ rfl rfl Tryz.underlying82 sz3wle 6 rfl (by decide) (off := 16) rfl) <| .nil) ?_
    clear Hz Az; intro Az Hz
    refine stepE_end 13 rfl (by kernel_rfl) rfl (by rfl) (fun K hK => ?_)
    refine e_store1 Hz m195 1 rfl rfl rfl rfl rfl sz3wle (by dsimp only [List.set] <;> rfl) ?_
    clear m195; intro w199 m199 hB199
    clear hB199
    refine hK _ _ ?_; clear hK K
    refine goB hP181 [16] 1 65535 131071 Hz (.p (fun _ _ h_ => y_idxA h_ rfl rfl Tryz.underlying82 sz3wle 6 rfl (by decide) (off := 23) rfl) <| .nil) ?_
    clear Hz Az; intro Az Hz
    refine stepE_end 17 rfl (by kernel_rfl) rfl (by rfl) (fun K hK => ?_)
    refine e_store1 Hz m199 1 rfl rfl rfl rfl rfl sz3wle (by dsimp only [List.set] <;> rfl) ?_
    clear m199; intro w201 m201 hB201
    clear hB201
    refine hK _ _ ?_; clear hK K
    refine wpAnyE_done (by kernel_rfl) ?_ _
    show K5 _ _
    exact hC5 _ _ ⟨Hz.only [0, 2], m201.only [1, 2, 3, 4, 5, 6, 7, 8]⟩
  ·
   clear Hz; intro hb43 Hz
   try simp only [Q1x, Q2x, Q3x, Q4x, Q5x, Q6x, Q7x, Q8x, Q9x, Q0x, Qax, Qbx] at hb43
   obtain rfl : k = 7 := by omega
   refine wp_cond_false (Hz.ev (x := .tmp 17) rfl) ?_
   refine wp_exit ?_
   show K1 _ _
   exact hC1 _ _ ⟨Hz.only [0], m40.only [1, 2, 3, 4, 5, 6, 7, 8]⟩
end
end Go.Proofs.YtndnnlbdnjndiaaGreat.K
