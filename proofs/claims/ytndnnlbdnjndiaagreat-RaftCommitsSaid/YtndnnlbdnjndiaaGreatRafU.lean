/- raft: what only reads: members, others, favoured, and the log's Last, Term, From, Conf of a member. -/
import Derived.Test.YtndnnlbdnjndiaaGreatRafT
namespace Go.Proofs.YtndnnlbdnjndiaaGreat.K
open Go.ChangeShapes Go.WideShapes Go.ChangeAt Go.RowKit
set_option linter.unusedVariables false
set_option linter.unusedSimpArgs false





theorem RIs.now {w0 w : World} {S : Nat → Prop} {M : Mm} {R : Nat} {s : RS} {p : RP} (h : RIs w0 R s p) (m : MemOk (cx S w0) w0 M w) : RIs w R s p :=
 ⟨h.r.now m rfl, h.b.now m rfl, (h.l.now' m rfl).any, (h.c.now' m rfl).any, (h.d.now' m rfl).any, (h.y.now' m rfl).any⟩
theorem confTo_len (cf : List Int) : ∀ l : List En, cf.length ≤ 900 → (confTo cf l).length ≤ 900 := by
 intro l; induction l generalizing cf with
 | nil => exact fun h => h
 | cons e l ih =>
   intro h
   show (confTo (confStep cf e) l).length ≤ 900
   refine ih _ ?_
   unfold confStep; split
   · exact Nat.le_trans (chgL_len _ _) (by decide)
   · exact h
theorem confL_len (cf : List Int) (es : List En) (i : Int) (h : cf.length ≤ 900) : (confL cf es i).length ≤ 900 := confTo_len _ _ h
theorem memS_len (s : RS) : (memS s).length ≤ 900 := Nat.le_trans (canon_len _) (by decide)
theorem othS_len (s : RS) : (othS s).length ≤ 7 := Nat.le_trans (List.length_filter_le _ _) (canon_len _)
theorem RLB.ents {bi : Int} {cf bd : List Int} {es : List En} (hb : RLB bi cf bd es) : EntsOk es := fun e he => Nat.le_trans (hb.e e he).1 (by decide)
theorem RLB.bytes {bi : Int} {cf bd : List Int} {es : List En} (hb : RLB bi cf bd es) : EntsB es := fun e he => (hb.e e he).2
theorem rlast_s (R : Nat) (s : RS) (p : RP) (w0 : World) (h : RIs w0 R s p) (hb : RLS s) : Calls Tryz.prog 75 #[.pointer (some ⟨p.L, 0, none⟩)] w0 fun e w' => e = .returned (.int .i64 (lastS s)) ∧ Below w0.heap.size w0 w' := by
 have h1 := hb.b; have h2 := hb.n
 have := last_any p.L s.bi (s.es.map entD).length _ _ _ _ _ w0 h.b (by omega) (by rw [List.length_map]; omega)
 rw [List.length_map] at this; exact this
theorem rterm_s (R : Nat) (s : RS) (p : RP) (w0 : World) (h : RIs w0 R s p) (hb : RLS s) (i : Int) : Calls Tryz.prog 113 #[.pointer (some ⟨p.L, 0, none⟩), .int .i64 i] w0 fun e w' => e = .returned (.int .i64 (termS s i)) ∧ Below w0.heap.size w0 w' := by
 have h1 := hb.b; have h2 := hb.n
 exact term_any p.L s.bi s.bt s.cf s.bd s.es _ _ _ _ _ _ w0 i h.b h.l (by omega) (by omega)
theorem rconf_s (R : Nat) (s : RS) (p : RP) (w0 : World) (h : RIs w0 R s p) (hb : RLS s) (i : Int) : Calls Tryz.prog 74 #[.pointer (some ⟨p.L, 0, none⟩), .int .i64 i] w0 fun e w' => ∃ q c, e = .returned (.slice q (confL s.cf s.es i).length c) ∧ Rd (New w0) w' (.slice q (confL s.cf s.es i).length c) (.ns .i64 (confL s.cf s.es i)) ∧ Below w0.heap.size w0 w' := by
 have h1 := hb.b; have h2 := hb.n
 exact conf_any p.L s.bi s.bt s.cf s.bd s.es _ _ _ _ _ _ w0 i h.b h.l (by omega) h.c hb.c hb.bytes
theorem rfrom_s (R : Nat) (s : RS) (p : RP) (w0 : World) (h : RIs w0 R s p) (hb : RLS s) (i q : Int) : Calls Tryz.prog 71 #[.pointer (some ⟨p.L, 0, none⟩), .int .i64 i, .int .i64 q] w0 fun e w' => ∃ u c, e = .returned (.slice u ((fromL s.bi s.es i q).map entD).length c) ∧ Rd (New w0) w' (.slice u ((fromL s.bi s.es i q).map entD).length c) (.l 4 ((fromL s.bi s.es i q).map entD)) ∧ Below w0.heap.size w0 w' := by
 have h1 := hb.b; have h2 := hb.n
 exact from_is p.L s.bi s.bt s.cf s.bd s.es _ _ _ _ _ _ w0 i q h.b h.l (by omega) (by omega) hb.ents rfl
theorem rbase_s (R : Nat) (s : RS) (p : RP) (w0 : World) (h : RIs w0 R s p) (hb : RLS s) : Calls Tryz.prog 39 #[.pointer (some ⟨p.L, 0, none⟩)] w0 fun e w' => ∃ p1 c1 p2 c2, e = .returned (.agg #[.int .i64 s.bi, .int .i64 s.bt, .slice p1 s.cf.length c1, .slice p2 s.bd.length c2]) ∧ Rd (New w0) w' (.slice p1 s.cf.length c1) (.ns .i64 s.cf) ∧ Rd (New w0) w' (.slice p2 s.bd.length c2) (.ns .u8 s.bd) ∧ Below w0.heap.size w0 w' := by
 have h1 := hb.b; have h2 := hb.n; have h3 := hb.c; have h4 := hb.d
 exact lbase_any p.L s.bi s.bt s.cf s.bd s.es _ _ _ _ _ _ w0 h.b h.l (by omega) (by omega) h.c h.d (by omega) (by omega)
set_option maxRecDepth 100000
set_option maxHeartbeats 4000000
theorem rmembers_s (R : Nat) (s : RS) (p : RP) (w0 : World) (h : RIs w0 R s p) (hb : RLS s) :
   Calls Tryz.prog 49 #[.pointer (some ⟨R, 0, none⟩)] w0 fun e w' => ∃ q c, e = .returned (.slice q (memS s).length c) ∧ Rd (New w0) w' (.slice q (memS s).length c) (.ns .i64 (memS s)) ∧ Below w0.heap.size w0 w' := by
 refine enter (fn := Tryz.f49) Tryz.func49 rfl Tryz.ntmps49 rfl (fun Az Hz => ?_)
 simp only [List.zipIdx_cons, List.zipIdx_nil, List.map_cons, List.map_nil, Nat.reduceAdd, Nat.zero_add] at Hz
 have m0 := MemOk.start (fun _ => False) w0
 have hR := h.r
 have hY := h.y
 have hB := h.b
 refine regS Hz (.assign rfl <| .nil) ?_
 clear Hz Az; intro Az Hz
 refine wp_seq_k (fun K0 hK0 => ?_)
 have m2 : MemOk _ _ [] _ := m0.only []; clear m0
 refine region_p 14 (B := []) (m2.to trivial) m2 (by kernel_rfl) (fun w3 hP3 m3 => ?_); clear m2
 refine goR hP3 [0, 1, 2, 3, 4, 5, 6, 7, 8, 9] [3, 7] 10 0 1023 Hz (m3.to trivial) (.move rfl <| .nilCheck rfl <| .fieldAddr (off := 4) rfl Tryz.underlying81 rfl (s := 0) (by kernel_rfl) rfl <| .loadX1 (fun _ h_ => (hR.now h_ rfl)) rfl rfl Tryz.underlying79 rfl <| .move rfl <| .nilCheck rfl <| .fieldAddr (off := 4) rfl Tryz.underlying81 rfl (s := 0) (by kernel_rfl) rfl <| .loadX1 (fun _ h_ => (hR.now h_ rfl)) rfl rfl Tryz.underlying79 rfl <| .nilCheck rfl <| .fieldAddr (off := 0) rfl Tryz.underlying123 rfl (s := 4) (by kernel_rfl) rfl <| .nil) ?_
 clear Hz Az; intro Az Hz
 refine stepE_only 10 rfl (by kernel_rfl) rfl (fun K hK => ?_)
 refine e_call Hz Tryz.func75 rfl rfl rfl rfl (rlast_s R s p _ (h.now m3) hb) ?_
 rintro e w14 ⟨rfl, hb14⟩
 have m15 := m3.later hb14
 clear m3
 clear hb14
 refine ⟨_, rfl, ?_⟩; clear Hz Az; intro Az Hz
 refine hK _ _ (m15.to trivial) ?_; clear hK K
 refine stepE_only 11 rfl (by kernel_rfl) rfl (fun K hK => ?_)
 refine e_call Hz Tryz.func74 rfl rfl rfl rfl (rconf_s R s p _ (h.now m15) hb _) ?_
 rintro e w17 ⟨p17, c17, rfl, hd17, hb17⟩
 have m18 := m15.callF 20 rfl hb17 hd17
 clear m15
 clear hb17 hd17
 refine ⟨_, rfl, ?_⟩; clear Hz Az; intro Az Hz
 refine hK _ _ (m18.to trivial) ?_; clear hK K
 refine stepE_only 12 rfl (by kernel_rfl) rfl (fun K hK => ?_)
 refine e_call Hz Tryz.func88 rfl rfl rfl rfl (ofc_any _ (confL s.cf s.es (lastS s)) _ (m18.nums (i := 20) rfl) (Nat.le_trans (confL_len _ _ _ hb.c) (by decide))) ?_
 rintro e w20 ⟨u20, rfl, ho20, hb20⟩
 obtain ⟨p20, c20, hu20⟩ := ownsRow_shape ho20
 subst hu20
 have m21 := m18.newN 21 hb20 ho20
 clear m18
 clear hb20 ho20
 refine ⟨_, rfl, ?_⟩; clear Hz Az; intro Az Hz
 refine hK _ _ (m21.to trivial) ?_; clear hK K
 refine goA hP3 [13] 1 8191 16383 Hz (m21.to trivial) (.assign rfl <| .nil) ?_
 clear Hz Az; intro Az Hz
 refine wpAnyE_done (by kernel_rfl) ?_ _
 refine hK0 _ _ ?_; clear hK0; try clear K0
 refine wp_ret ?_
 try dsimp only [Exit.then, Exit.inBlock]
 refine (ret1 (fn := Tryz.f49) Hz rfl rfl ?_)
 have m24 := m21.freezeN 21 rfl; clear m21
 exact ⟨_, _, rfl, m24.outF (i := 21) rfl, m24.below⟩
theorem rothers_s (R : Nat) (s : RS) (p : RP) (w0 : World) (h : RIs w0 R s p) (hb : RLS s) :
   Calls Tryz.prog 85 #[.pointer (some ⟨R, 0, none⟩)] w0 fun e w' => ∃ q c, e = .returned (.slice q (othS s).length c) ∧ Rd (New w0) w' (.slice q (othS s).length c) (.ns .i64 (othS s)) ∧ Below w0.heap.size w0 w' := by
 refine enter (fn := Tryz.f85) Tryz.func85 rfl Tryz.ntmps85 rfl (fun Az Hz => ?_)
 simp only [List.zipIdx_cons, List.zipIdx_nil, List.map_cons, List.map_nil, Nat.reduceAdd, Nat.zero_add] at Hz
 have m0 := MemOk.start (fun _ => False) w0
 have hR := h.r
 have hY := h.y
 have hB := h.b
 refine regS Hz (.assign rfl <| .nil) ?_
 clear Hz Az; intro Az Hz
 refine wp_seq_k (fun K0 hK0 => ?_)
 have m2 : MemOk _ _ [] _ := m0.only []; clear m0
 refine region_p 8 (B := []) (m2.to trivial) m2 (by kernel_rfl) (fun w3 hP3 m3 => ?_); clear m2
 refine goR hP3 [0, 2, 3, 4, 5] [5] 5 0 61 Hz (m3.to trivial) (.move rfl <| .move rfl <| .nilCheck rfl <| .fieldAddr (off := 0) rfl Tryz.underlying81 rfl (s := 0) (by kernel_rfl) rfl <| .loadX1 (fun _ h_ => (hR.now h_ rfl)) rfl rfl Tryz.underlying3 rfl <| .nil) ?_
 clear Hz Az; intro Az Hz
 refine stepE_only 1 rfl (by kernel_rfl) rfl (fun K hK => ?_)
 refine e_call Hz Tryz.func49 rfl rfl rfl rfl (rmembers_s R s p _ (h.now m3) hb) ?_
 rintro e w9 ⟨p9, c9, rfl, hd9, hb9⟩
 have m10 := m3.callF 20 rfl hb9 hd9
 clear m3
 clear hb9 hd9
 refine ⟨_, rfl, ?_⟩; clear Hz Az; intro Az Hz
 refine hK _ _ (m10.to trivial) ?_; clear hK K
 refine stepE_only 6 rfl (by kernel_rfl) rfl (fun K hK => ?_)
 refine e_call Hz Tryz.func128 rfl rfl rfl rfl (woutc_any _ (memS s) s.x.id _ (m10.nums (i := 20) rfl) (memS_len s)) ?_
 rintro e w12 ⟨u12, rfl, ho12, hb12⟩
 obtain ⟨p12, c12, hu12⟩ := ownsRow_shape ho12
 subst hu12
 have m13 := m10.newN 21 hb12 ho12
 clear m10
 clear hb12 ho12
 refine ⟨_, rfl, ?_⟩; clear Hz Az; intro Az Hz
 refine hK _ _ (m13.to trivial) ?_; clear hK K
 refine goA hP3 [7] 1 127 255 Hz (m13.to trivial) (.assign rfl <| .nil) ?_
 clear Hz Az; intro Az Hz
 refine wpAnyE_done (by kernel_rfl) ?_ _
 refine hK0 _ _ ?_; clear hK0; try clear K0
 refine wp_ret ?_
 try dsimp only [Exit.then, Exit.inBlock]
 refine (ret1 (fn := Tryz.f85) Hz rfl rfl ?_)
 have m16 := m13.freezeN 21 rfl; clear m13
 exact ⟨_, _, rfl, m16.outF (i := 21) rfl, m16.below⟩
theorem rfav_s (R : Nat) (s : RS) (p : RP) (w0 : World) (h : RIs w0 R s p) (hb : RLS s) (hys : s.ys.length ≤ 900) :
   Calls Tryz.prog 90 #[.pointer (some ⟨R, 0, none⟩)] w0 fun e w' => e = .returned (.bool (favS s)) ∧ Below w0.heap.size w0 w' := by
 refine enter (fn := Tryz.f90) Tryz.func90 rfl Tryz.ntmps90 rfl (fun Az Hz => ?_)
 simp only [List.zipIdx_cons, List.zipIdx_nil, List.map_cons, List.map_nil, Nat.reduceAdd, Nat.zero_add] at Hz
 have m0 := MemOk.start (fun _ => False) w0
 have hR := h.r
 have hY := h.y
 have hB := h.b
 refine regS Hz (.assign rfl <| .nil) ?_
 clear Hz Az; intro Az Hz
 refine wp_seq_k (fun K0 hK0 => ?_)
 have m2 : MemOk _ _ [] _ := m0.only []; clear m0
 refine region_p 10 (B := []) (m2.to trivial) m2 (by kernel_rfl) (fun w3 hP3 m3 => ?_); clear m2
 refine goR hP3 [0, 1, 2, 4, 5, 6, 7] [7] 7 0 247 Hz (m3.to trivial) (.move rfl <| .nilCheck rfl <| .fieldAddr (off := 0) rfl Tryz.underlying86 rfl (s := 4) (by kernel_rfl) rfl <| .move rfl <| .nilCheck rfl <| .fieldAddr (off := 25) rfl Tryz.underlying86 rfl (s := 0) (by kernel_rfl) rfl <| .loadX1 (fun _ h_ => (hR.now h_ rfl)) rfl rfl Tryz.underlying26 rfl <| .nil) ?_
 clear Hz Az; intro Az Hz
 refine stepE_only 3 rfl (by kernel_rfl) rfl (fun K hK => ?_)
 refine e_call Hz Tryz.func49 rfl rfl rfl rfl (rmembers_s R s p _ (h.now m3) hb) ?_
 rintro e w11 ⟨p11, c11, rfl, hd11, hb11⟩
 have m12 := m3.callF 20 rfl hb11 hd11
 clear m3
 clear hb11 hd11
 refine ⟨_, rfl, ?_⟩; clear Hz Az; intro Az Hz
 refine hK _ _ (m12.to trivial) ?_; clear hK K
 refine stepE_only 8 rfl (by kernel_rfl) rfl (fun K hK => ?_)
 refine e_call Hz Tryz.func134 rfl rfl rfl rfl (cmostc_any _ _ (memS s) s.ys _ (m12.nums (i := 20) rfl) (hY.now' m12 rfl).ns_out.nums (memS_len s) hys) ?_
 rintro e w14 ⟨rfl, hb14⟩
 have m15 := m12.later hb14
 clear m12
 clear hb14
 refine ⟨_, rfl, ?_⟩; clear Hz Az; intro Az Hz
 refine hK _ _ (m15.to trivial) ?_; clear hK K
 refine goA hP3 [9] 1 511 1023 Hz (m15.to trivial) (.assign rfl <| .nil) ?_
 clear Hz Az; intro Az Hz
 refine wpAnyE_done (by kernel_rfl) ?_ _
 refine hK0 _ _ ?_; clear hK0; try clear K0
 refine wp_ret ?_
 try dsimp only [Exit.then, Exit.inBlock]
 refine (ret1 (fn := Tryz.f90) Hz rfl rfl ?_)
 exact ⟨rfl, m15.below⟩
end Go.Proofs.YtndnnlbdnjndiaaGreat.K
