/- General laws of walks. -/
import Derived.Test.YtndnnlbdnjndiaaGreatG13
import Derived.Test.YtndnnlbdnjndiaaGreatG8
import Derived.Test.YtndnnlbdnjndiaaGreatG1
namespace Go.Proofs.YtndnnlbdnjndiaaGreat.K
open Go.ChangeShapes Go.WideShapes Go.ChangeAt Go.RowKit
set_option linter.unusedVariables false
set_option linter.unusedSimpArgs false
section
theorem sz62rt : (Tryz.prog.info? 62).map (·.size) = some 4 := by kernel_rfl
theorem inf62rf : (Tryz.prog.info? 62).map (fun i => (i.zero, i.size, i.bytes)) = some (some (.agg #[.int .i64 0, .int .i64 0, .int .i64 0, .slice none 0 0]), 4, 48) := by kernel_rfl
theorem sz62rf : (Tryz.prog.info? 62).map (·.size) = some 4 := by kernel_rfl
theorem inf62rn : (Tryz.prog.info? 62).map (fun i => (i.zero, i.size, i.bytes)) = some (some (.agg #[.int .i64 0, .int .i64 0, .int .i64 0, .slice none 0 0]), 4, 48) := by kernel_rfl
theorem ps98rn : placesS Tryz.prog 98 = some [(0, 4), (4, 1)] := by kernel_rfl
theorem sz29rn : (Tryz.prog.info? 29).map (·.size) = some 4 := by kernel_rfl
theorem sz30rn : (Tryz.prog.info? 30).map (·.size) = some 1 := by kernel_rfl
theorem sz62rn : (Tryz.prog.info? 62).map (·.size) = some 4 := by kernel_rfl
theorem zc98rn : ((Tryz.prog.info? 98).bind (·.zero)).map (·.cells.toList) = some [.int .i64 0, .int .i64 0, .slice none 0 0, .slice none 0 0, .slice none 0 0] := by kernel_rfl

def rfr (es : List (Int × Int × Int × List Int)) (i q : Int) : Nat → List (Int × Int × Int × List Int)
 | 0 => []
 | k + 1 => if ((rfr es i q k).length : Int) < q ∧ k < es.length ∧ i ≤ (es.getD k e0).1 then rfr es i q k ++ [es.getD k e0] else rfr es i q k
theorem rfr_yes {es : List (Int × Int × Int × List Int)} {i q : Int} {k : Nat} {ei et ek : Int} {ed : List Int} (hes : es[k]? = some (ei, et, ek, ed)) (hq : ((rfr es i q k).length : Int) < q) (hi : i ≤ ei) : rfr es i q (k + 1) = rfr es i q k ++ [(ei, et, ek, ed)] := by
 have hk := (List.getElem?_eq_some_iff.1 hes).1
 have e : es.getD k e0 = (ei, et, ek, ed) := by rw [List.getD, hes]; rfl
 rw [rfr, e, if_pos ⟨hq, hk, hi⟩]
theorem rfr_no {es : List (Int × Int × Int × List Int)} {i q : Int} {k : Nat} {ei et ek : Int} {ed : List Int} (hes : es[k]? = some (ei, et, ek, ed)) (hq : ((rfr es i q k).length : Int) < q) (hi : ei < i) : rfr es i q (k + 1) = rfr es i q k := by
 have e : es.getD k e0 = (ei, et, ek, ed) := by rw [List.getD, hes]; rfl
 rw [rfr, e, if_neg (by rintro ⟨_, _, h⟩; have : i ≤ ei := h; omega)]
theorem rfr_len {es : List (Int × Int × Int × List Int)} {i q : Int} : ∀ k, (rfr es i q k).length ≤ k
 | 0 => Nat.le_refl _
 | k + 1 => by have := rfr_len (es := es) (i := i) (q := q) k; unfold rfr; split <;> simp <;> omega
theorem rfr_end1 {es : List (Int × Int × Int × List Int)} {i q : Int} {k : Nat} (h : k = es.length) : rfr es i q k = rfr es i q es.length := by rw [h]
theorem rfr_stay {es : List (Int × Int × Int × List Int)} {i q : Int} {k : Nat} (h : q ≤ (rfr es i q k).length) : ∀ j, rfr es i q (k + j) = rfr es i q k
 | 0 => rfl
 | j + 1 => by
   have ih := rfr_stay h j
   rw [← Nat.add_assoc, rfr, ih, if_neg (by rintro ⟨h1, _⟩; omega)]
theorem rfr_end2 {es : List (Int × Int × Int × List Int)} {i q : Int} {k : Nat} (hk : k ≤ es.length) (h : q ≤ (rfr es i q k).length) : rfr es i q k = rfr es i q es.length := by
 have := rfr_stay h (es.length - k)
 rw [show k + (es.length - k) = es.length from by omega] at this
 exact this.symm
theorem rfr_seq {bi : Int} {es : List (Int × Int × Int × List Int)} (hs : Seq bi es) {i q : Int} : ∀ k, k ≤ es.length → rfr es i q k = ((es.take k).drop (i - bi - 1).toNat).take q.toNat
 | 0, _ => by simp [rfr]
 | k + 1, hk => by
   have ih := rfr_seq hs (i := i) (q := q) k (by omega)
   obtain ⟨a, ha⟩ : ∃ a, (i - bi - 1).toNat = a := ⟨_, rfl⟩
   rw [ha] at ih ⊢
   have hx := hs k (by omega)
   have hes : es[k]? = some (es.getD k e0) := by rw [List.getD, List.getElem?_eq_getElem (by omega)]; rfl
   have hl : (es.take k).length = k := by rw [List.length_take]; omega
   rw [rfr, ih, take_snoc hes, List.drop_append, hl, List.take_append, List.length_drop, hl]
   have hlen : (((es.take k).drop a).take q.toNat).length = min q.toNat (k - a) := by rw [List.length_take, List.length_drop, hl]
   split
   · rename_i h
     rw [hlen, hx] at h
     rw [show a - k = 0 from by omega, List.drop_zero, show q.toNat - (k - a) = (q.toNat - (k - a) - 1) + 1 from by omega]
     simp
   · rename_i h
     rw [hlen, hx] at h
     by_cases h1 : k < a
     · rw [show a - k = (a - k - 1) + 1 from by omega]; simp
     · rw [show q.toNat - (k - a) = 0 from by omega]; simp
set_option maxRecDepth 100000
set_option maxHeartbeats 4000000
theorem rlast_any (B : Nat) (bi bt : Int) (cf d : List Int) (es : List (Int × Int × Int × List Int)) (pc pd pl : Option Addr) (cc cd cl : Nat) (w0 : World)  (hB : Blk w0 B 98 [.int .i64 bi, .int .i64 bt, .slice pc cf.length cc, .slice pd d.length cd, .slice pl (es.map entD).length cl]) (hl : Rd (fun _ => True) w0 (.slice pl (es.map entD).length cl) (.l 4 (es.map entD))) (hbi : -1000000000000000000 ≤ bi ∧ bi ≤ 1000000000000000000) (hn : es.length ≤ 1000000) :
   Calls Tryz.prog 57 #[.pointer (some ⟨B, 0, none⟩)] w0 fun e w' => e = .returned (.int .i64 (bi + es.length)) ∧ Below w0.heap.size w0 w' := by
 refine enter (fn := Tryz.f57) Tryz.func57 rfl Tryz.ntmps57 rfl (fun Az Hz => ?_)
 simp only [List.zipIdx_cons, List.zipIdx_nil, List.map_cons, List.map_nil, Nat.reduceAdd, Nat.zero_add] at Hz
 have m0 := MemOk.start (fun _ => False) w0
 refine regS Hz (.assign rfl <| .nil) ?_
 clear Hz Az; intro Az Hz
 refine wp_seq_k (fun K0 hK0 => ?_)
 have m2 : MemOk _ _ [] _ := m0.only []; clear m0
 refine region_p 12 (B := []) (m2.to trivial) m2 (by kernel_rfl) (fun w3 hP3 m3 => ?_); clear m2
 refine goR hP3 [0, 1, 2, 3, 4, 5, 6, 7, 8, 9, 10, 11] [4, 8] 12 0 4095 Hz (m3.to trivial) (.move rfl <| .nilCheck rfl <| .fieldAddr (off := 0) rfl Tryz.underlying98 rfl (s := 3) (by kernel_rfl) rfl <| .fieldAddr (off := 0) rfl Tryz.underlying29 rfl (s := 0) (by kernel_rfl) rfl <| .loadX1 (fun _ h_ => (hB.now h_ rfl)) rfl rfl Tryz.underlying3 rfl <| .move rfl <| .nilCheck rfl <| .fieldAddr (off := 4) rfl Tryz.underlying98 rfl (s := 0) (by kernel_rfl) rfl <| .loadX1 (fun _ h_ => (hB.now h_ rfl)) rfl rfl Tryz.underlying30 rfl <| .len rfl Tryz.underlying30 <| .add rfl rfl (r := bi + es.length) (by rw [List.length_map]; exact IntWalk.i64_in _ (by omega)) <| .assign rfl <| .nil) ?_
 clear Hz Az; intro Az Hz
 refine wpAnyE_done (by kernel_rfl) ?_ _
 refine hK0 _ _ ?_; clear hK0; try clear K0
 refine wp_ret ?_
 try dsimp only [Exit.then, Exit.inBlock]
 refine (ret1 (fn := Tryz.f57) Hz rfl rfl ?_)
 exact ⟨rfl, m3.below⟩
theorem rterm_at (B : Nat) (bi bt : Int) (cf d : List Int) (es : List (Int × Int × Int × List Int)) (pc pd pl : Option Addr) (cc cd cl : Nat) (w0 : World)  (hB : Blk w0 B 98 [.int .i64 bi, .int .i64 bt, .slice pc cf.length cc, .slice pd d.length cd, .slice pl (es.map entD).length cl]) (hl : Rd (fun _ => True) w0 (.slice pl (es.map entD).length cl) (.l 4 (es.map entD))) (hbi : -1000000000000000000 ≤ bi ∧ bi ≤ 1000000000000000000) (hn : es.length ≤ 1000000) :
   Calls Tryz.prog 58 #[.pointer (some ⟨B, 0, none⟩), .int .i64 bi] w0 fun e w' => e = .returned (.int .i64 bt) ∧ Below w0.heap.size w0 w' := by
 refine enter (fn := Tryz.f58) Tryz.func58 rfl Tryz.ntmps58 rfl (fun Az Hz => ?_)
 simp only [List.zipIdx_cons, List.zipIdx_nil, List.map_cons, List.map_nil, Nat.reduceAdd, Nat.zero_add] at Hz
 have m0 := MemOk.start (fun _ => False) w0
 refine regS Hz (.assign rfl <| .nil) ?_
 clear Hz Az; intro Az Hz
 refine wp_seq_k (fun K0 hK0 => ?_)
 refine regS Hz (.move rfl <| .move rfl <| .nilCheck rfl <| .fieldAddr (off := 0) rfl Tryz.underlying98 rfl (s := 3) (by kernel_rfl) rfl <| .fieldAddr (off := 0) rfl Tryz.underlying29 rfl (s := 0) (by kernel_rfl) rfl <| .loadX1 (hB.now m0 rfl) rfl rfl Tryz.underlying3 rfl <| .eql rfl rfl <| .nil) ?_
 clear Hz Az; intro Az Hz
 refine bool_cases Hz (t := 11) rfl ?_ ?_
 rotate_left
 · intro hb _; exact absurd hb (by simp)
 clear Hz; intro _ Hz
 refine wp_cond_true (Hz.ev (x := .tmp 11) rfl) ?_
 replace Hz : Has 45 [(0, _), (1, _), (4, _)] Az := Hz.only [0, 1, 4]
 refine regS Hz (.move rfl <| .nilCheck rfl <| .fieldAddr (off := 0) rfl Tryz.underlying98 rfl (s := 3) (by kernel_rfl) rfl <| .fieldAddr (off := 1) rfl Tryz.underlying29 rfl (s := 0) (by kernel_rfl) rfl <| .loadX1 (hB.now m0 rfl) rfl rfl Tryz.underlying3 rfl <| .assign rfl <| .nil) ?_
 clear Hz Az; intro Az Hz
 refine wp_ret ?_
 try dsimp only [Exit.then, Exit.inBlock]
 refine (ret1 (fn := Tryz.f58) Hz rfl rfl ?_)
 exact ⟨rfl, m0.below⟩
theorem rterm_in (B : Nat) (bi bt : Int) (cf d : List Int) (es : List (Int × Int × Int × List Int)) (pc pd pl : Option Addr) (cc cd cl : Nat) (w0 : World) (k : Nat) (i : Int) {ei et ek : Int} {ed : List Int} (hB : Blk w0 B 98 [.int .i64 bi, .int .i64 bt, .slice pc cf.length cc, .slice pd d.length cd, .slice pl (es.map entD).length cl]) (hl : Rd (fun _ => True) w0 (.slice pl (es.map entD).length cl) (.l 4 (es.map entD))) (hbi : -1000000000000000000 ≤ bi ∧ bi ≤ 1000000000000000000) (hn : es.length ≤ 1000000) (hes : es[k]? = some (ei, et, ek, ed)) (hi : i = bi + 1 + k) :
   Calls Tryz.prog 58 #[.pointer (some ⟨B, 0, none⟩), .int .i64 i] w0 fun e w' => e = .returned (.int .i64 et) ∧ Below w0.heap.size w0 w' := by
 have hk := (List.getElem?_eq_some_iff.1 hes).1
 refine enter (fn := Tryz.f58) Tryz.func58 rfl Tryz.ntmps58 rfl (fun Az Hz => ?_)
 simp only [List.zipIdx_cons, List.zipIdx_nil, List.map_cons, List.map_nil, Nat.reduceAdd, Nat.zero_add] at Hz
 have m0 := MemOk.start (fun _ => False) w0
 refine regS Hz (.assign rfl <| .nil) ?_
 clear Hz Az; intro Az Hz
 refine wp_seq_k (fun K0 hK0 => ?_)
 refine regS Hz (.move rfl <| .move rfl <| .nilCheck rfl <| .fieldAddr (off := 0) rfl Tryz.underlying98 rfl (s := 3) (by kernel_rfl) rfl <| .fieldAddr (off := 0) rfl Tryz.underlying29 rfl (s := 0) (by kernel_rfl) rfl <| .loadX1 (hB.now m0 rfl) rfl rfl Tryz.underlying3 rfl <| .eql rfl rfl <| .nil) ?_
 clear Hz Az; intro Az Hz
 refine bool_cases Hz (t := 11) rfl ?_ ?_
 · intro hb _; exact absurd hb (by simp; omega)
 clear Hz; intro _ Hz
 refine wp_cond_false (Hz.ev (x := .tmp 11) rfl) ?_
 refine wp_skip ?_
 refine hK0 _ _ ?_; clear hK0; try clear K0
 refine wp_seq_k (fun K1 hK1 => ?_)
 replace Hz : Has 45 [(0, _), (1, _), (4, _)] Az := Hz.only [0, 1, 4]
 refine wp_seq_k (fun K2 hK2 => ?_)
 refine wp_region_lit ?_
 refine goCh Hz (.move rfl <| .move rfl <| .nilCheck rfl <| .fieldAddr (off := 0) rfl Tryz.underlying98 rfl (s := 3) (by kernel_rfl) rfl <| .fieldAddr (off := 0) rfl Tryz.underlying29 rfl (s := 0) (by kernel_rfl) rfl <| .loadX1 (hB.now m0 rfl) rfl rfl Tryz.underlying3 rfl <| .gtr rfl rfl <| .move rfl <| .nil) ?_
 clear Hz Az; intro Az Hz
 refine bool_cases Hz (t := 24) rfl ?_ ?_
 rotate_left
 · intro hb _; exact absurd hb (by simp; omega)
 clear Hz; intro _ Hz
 refine goCh Hz (.moveZ rfl <| .moveZ rfl <| .nil) ?_
 clear Hz Az; intro Az Hz
 refine st_ge Hz rfl rfl rfl rfl (fun K hK => ?_)
 refine e_call Hz Tryz.func57 rfl rfl rfl rfl (rlast_any _ _ _ cf d es _ _ _ _ _ _ _ (hB.now m0 rfl) (hl.now' m0 rfl) hbi hn) ?_
 rintro e w30 ⟨rfl, hb30⟩
 have m31 := m0.later hb30
 clear m0
 clear hb30
 refine ⟨_, rfl, ?_⟩; clear Hz Az; intro Az Hz
 refine hK _ _ ?_; clear hK K
 refine goCh Hz (.leqZ rfl rfl <| .pickT rfl rfl <| .nil) ?_
 clear Hz Az; intro Az Hz
 refine wpList_nil ?_
 refine hK2 _ _ ?_; clear hK2; try clear K2
 refine bool_cases Hz (t := 29) rfl ?_ ?_
 rotate_left
 · intro hb _; exact absurd hb (by simp; omega)
 clear Hz; intro _ Hz
 refine wp_cond_true (Hz.ev (x := .tmp 29) rfl) ?_
 refine wp_seq_k (fun K3 hK3 => ?_)
 replace Hz : Has 45 [(0, _), (1, _), (4, _)] Az := Hz.only [0, 1, 4]
 obtain ⟨gx38, ox38, vx38, hp38, hl38, hR38, hrg38⟩ := hl.extA (k) (r := [.v (.int .i64 ei), .v (.int .i64 et), .v (.int .i64 ek), .ns .u8 ed]) (ent_get hes)
 cases hp38; clear hl38
 rcases hR38 with _ | ⟨hd38_0, _ | ⟨hd38_1, _ | ⟨hd38_2, _ | ⟨hd38_3, _ | _⟩⟩⟩⟩
 obtain rfl := hd38_0.v_out
 clear hd38_0
 obtain rfl := hd38_1.v_out
 clear hd38_1
 obtain rfl := hd38_2.v_out
 clear hd38_2
 obtain ⟨p39, c39, hv39, hw39⟩ := hd38_3.ns_shape; subst hv39
 have m40 : MemOk _ _ [] _ := m31.only []; clear m31
 refine region_p 16 (B := []) (m40.to trivial) m40 (by kernel_rfl) (fun w41 hP41 m41 => ?_); clear m40
 refine goR hP41 [0, 1, 2, 3, 4, 5, 6, 7, 8, 9, 10, 11, 12, 13, 14, 15] [3, 9, 14] 16 0 65535 Hz (m41.to trivial) (.move rfl <| .nilCheck rfl <| .fieldAddr (off := 4) rfl Tryz.underlying98 rfl (s := 0) (by kernel_rfl) rfl <| .loadX1 (fun _ h_ => (hB.now h_ rfl)) rfl rfl Tryz.underlying30 rfl <| .move rfl <| .move rfl <| .nilCheck rfl <| .fieldAddr (off := 0) rfl Tryz.underlying98 rfl (s := 3) (by kernel_rfl) rfl <| .fieldAddr (off := 0) rfl Tryz.underlying29 rfl (s := 0) (by kernel_rfl) rfl <| .loadX1 (fun _ h_ => (hB.now h_ rfl)) rfl rfl Tryz.underlying3 rfl <| .sub rfl rfl (r := (k : Int) + 1) (by rw [IntWalk.i64_in _ (by omega)]; omega) <| .sub rfl rfl (r := (k : Int)) (by rw [IntWalk.i64_in _ (by omega)]; omega) <| .p (fun _ _ h_ => y_idx h_ rfl rfl Tryz.underlying30 sz62rt (k) rfl (by rw [List.length_map]; exact hk)) <| .fieldAddrQ 1 rfl Tryz.underlying62 rfl (s := 0) (by kernel_rfl) rfl <| .loadAt1 (fun _ h_ => (hrg38 h_ rfl)) (q := 1) rfl rfl rfl Tryz.underlying3 rfl <| .assign rfl <| .nil) ?_
 clear Hz Az; intro Az Hz
 refine wpAnyE_done (by kernel_rfl) ?_ _
 refine hK3 _ _ ?_; clear hK3; try clear K3
 refine wp_ret ?_
 try dsimp only [Exit.then, Exit.inBlock]
 refine (ret1 (fn := Tryz.f58) Hz rfl rfl ?_)
 exact ⟨rfl, m41.below⟩
theorem rterm_out (B : Nat) (bi bt : Int) (cf d : List Int) (es : List (Int × Int × Int × List Int)) (pc pd pl : Option Addr) (cc cd cl : Nat) (w0 : World) (i : Int) (hB : Blk w0 B 98 [.int .i64 bi, .int .i64 bt, .slice pc cf.length cc, .slice pd d.length cd, .slice pl (es.map entD).length cl]) (hl : Rd (fun _ => True) w0 (.slice pl (es.map entD).length cl) (.l 4 (es.map entD))) (hbi : -1000000000000000000 ≤ bi ∧ bi ≤ 1000000000000000000) (hn : es.length ≤ 1000000) (hi : i < bi ∨ bi + es.length < i) :
   Calls Tryz.prog 58 #[.pointer (some ⟨B, 0, none⟩), .int .i64 i] w0 fun e w' => e = .returned (.int .i64 (-1)) ∧ Below w0.heap.size w0 w' := by
 refine enter (fn := Tryz.f58) Tryz.func58 rfl Tryz.ntmps58 rfl (fun Az Hz => ?_)
 simp only [List.zipIdx_cons, List.zipIdx_nil, List.map_cons, List.map_nil, Nat.reduceAdd, Nat.zero_add] at Hz
 have m0 := MemOk.start (fun _ => False) w0
 refine regS Hz (.assign rfl <| .nil) ?_
 clear Hz Az; intro Az Hz
 refine wp_seq_k (fun K0 hK0 => ?_)
 refine regS Hz (.move rfl <| .move rfl <| .nilCheck rfl <| .fieldAddr (off := 0) rfl Tryz.underlying98 rfl (s := 3) (by kernel_rfl) rfl <| .fieldAddr (off := 0) rfl Tryz.underlying29 rfl (s := 0) (by kernel_rfl) rfl <| .loadX1 (hB.now m0 rfl) rfl rfl Tryz.underlying3 rfl <| .eql rfl rfl <| .nil) ?_
 clear Hz Az; intro Az Hz
 refine bool_cases Hz (t := 11) rfl ?_ ?_
 · intro hb _; exact absurd hb (by simp; omega)
 clear Hz; intro _ Hz
 refine wp_cond_false (Hz.ev (x := .tmp 11) rfl) ?_
 refine wp_skip ?_
 refine hK0 _ _ ?_; clear hK0; try clear K0
 refine wp_seq_k (fun K1 hK1 => ?_)
 replace Hz : Has 45 [(0, _), (1, _), (4, _)] Az := Hz.only [0, 1, 4]
 refine wp_seq_k (fun K2 hK2 => ?_)
 refine wp_region_lit ?_
 refine goCh Hz (.move rfl <| .move rfl <| .nilCheck rfl <| .fieldAddr (off := 0) rfl Tryz.underlying98 rfl (s := 3) (by kernel_rfl) rfl <| .fieldAddr (off := 0) rfl Tryz.underlying29 rfl (s := 0) (by kernel_rfl) rfl <| .loadX1 (hB.now m0 rfl) rfl rfl Tryz.underlying3 rfl <| .gtr rfl rfl <| .move rfl <| .nil) ?_
 clear Hz Az; intro Az Hz
 refine bool_cases Hz (t := 24) rfl ?_ ?_
 ·
  clear Hz; intro hb27 Hz
  try simp only [Q1x, Q2x, Q3x, Q4x, Q5x, Q6x, Q7x, Q8x, Q9x, Q0x, Qax, Qbx] at hb27
  refine goCh Hz (.moveZ rfl <| .moveZ rfl <| .nil) ?_
  clear Hz Az; intro Az Hz
  refine st_ge Hz rfl rfl rfl rfl (fun K hK => ?_)
  refine e_call Hz Tryz.func57 rfl rfl rfl rfl (rlast_any _ _ _ cf d es _ _ _ _ _ _ _ (hB.now m0 rfl) (hl.now' m0 rfl) hbi hn) ?_
  rintro e w30 ⟨rfl, hb30⟩
  have m31 := m0.later hb30
  clear m0
  clear hb30
  refine ⟨_, rfl, ?_⟩; clear Hz Az; intro Az Hz
  refine hK _ _ ?_; clear hK K
  refine goCh Hz (.leqZ rfl rfl <| .pickT rfl rfl <| .nil) ?_
  clear Hz Az; intro Az Hz
  refine wpList_nil ?_
  refine hK2 _ _ ?_; clear hK2; try clear K2
  refine bool_cases Hz (t := 29) rfl ?_ ?_
  · intro hb _; exact absurd hb (by simp; omega)
  clear Hz; intro _ Hz
  refine wp_cond_false (Hz.ev (x := .tmp 29) rfl) ?_
  refine wp_skip ?_
  refine hK1 _ _ ?_; clear hK1; try clear K1
  replace Hz : Has 45 [(4, _)] Az := Hz.only [4]
  refine regS Hz (.assign rfl <| .nil) ?_
  clear Hz Az; intro Az Hz
  refine wp_ret ?_
  try dsimp only [Exit.then, Exit.inBlock]
  refine (ret1 (fn := Tryz.f58) Hz rfl rfl ?_)
  exact ⟨rfl, m31.below⟩
 ·
  clear Hz; intro hb27 Hz
  try simp only [Q1x, Q2x, Q3x, Q4x, Q5x, Q6x, Q7x, Q8x, Q9x, Q0x, Qax, Qbx] at hb27
  refine goCh Hz (.sk <| .sk <| .sk <| .sk <| .pickF rfl rfl <| .nil) ?_
  clear Hz Az; intro Az Hz
  refine wpList_nil ?_
  refine hK2 _ _ ?_; clear hK2; try clear K2
  refine wp_cond_false (Hz.ev (x := .tmp 29) rfl) ?_
  refine wp_skip ?_
  refine hK1 _ _ ?_; clear hK1; try clear K1
  replace Hz : Has 45 [(4, _)] Az := Hz.only [4]
  refine regS Hz (.assign rfl <| .nil) ?_
  clear Hz Az; intro Az Hz
  refine wp_ret ?_
  try dsimp only [Exit.then, Exit.inBlock]
  refine (ret1 (fn := Tryz.f58) Hz rfl rfl ?_)
  exact ⟨rfl, m0.below⟩
theorem rfrom_fr (X : Cx) (B : Nat) (bi bt : Int) (cf d : List Int) (es : List (Int × Int × Int × List Int)) (pc pd pl : Option Addr) (cc cd cl : Nat) (i q : Int) (w0 : World) (hn : es.length ≤ 1000000) (m0 : MemOk X w0 [(1, .box B 98 [.int .i64 bi, .int .i64 bt, .slice pc cf.length cc, .slice pd d.length cd, .slice pl (es.map entD).length cl]), (2, .seg (.slice pl (es.map entD).length cl) 62 4 (es.map entD)), (3, .dat (.slice pc cf.length cc) (.ns .i64 cf)), (4, .dat (.slice pd d.length cd) (.ns .u8 d))] w0) :
   Calls Tryz.prog 124 #[.pointer (some ⟨B, 0, none⟩), .int .i64 i, .int .i64 q] w0 fun e w' => ∃ (pl' : Option Addr) (cl' : Nat) (pr : Option Addr) (cr : Nat), e = .returned (.slice pr ((rfr es i q es.length).map entD).length cr) ∧ MemOk X w0 [(1, .box B 98 [.int .i64 bi, .int .i64 bt, .slice pc cf.length cc, .slice pd d.length cd, .slice pl' (es.map entD).length cl']), (2, .seg (.slice pl' (es.map entD).length cl') 62 4 (es.map entD)), (3, .dat (.slice pc cf.length cc) (.ns .i64 cf)), (4, .dat (.slice pd d.length cd) (.ns .u8 d)), (5, .dat (.slice pr ((rfr es i q es.length).map entD).length cr) (.l 4 ((rfr es i q es.length).map entD)))] w' := by
 refine enter (fn := Tryz.f124) Tryz.func124 rfl Tryz.ntmps124 rfl (fun Az Hz => ?_)
 simp only [List.zipIdx_cons, List.zipIdx_nil, List.map_cons, List.map_nil, Nat.reduceAdd, Nat.zero_add] at Hz
 refine regS Hz (.assign rfl <| .nil) ?_
 clear Hz Az; intro Az Hz
 refine wp_seq_k (fun K0 hK0 => ?_)
 refine wp_region_lit ?_
 have m3 := m0.nilR 6 62 4
 clear m0
 refine goCh Hz (.assign rfl .nil) ?_
 clear Hz Az; intro Az Hz
 refine wpList_nil ?_
 refine hK0 _ _ ?_; clear hK0; try clear K0
 refine wp_seq_k (fun K1 hK1 => ?_)
 refine regS Hz (.assign rfl <| .nil) ?_
 clear Hz Az; intro Az Hz
 refine wp_block ?_
 refine wp_loop_ghost (fun g a w => ∃ (k : Nat) (pl pr : Option Addr) (cl cr : Nat), k ≤ es.length ∧ g = es.length - k ∧ (rfr es i q k).length ≤ k ∧ Has 45 [(0, .pointer (some ⟨B, 0, none⟩)), (1, .int .i64 i), (2, .int .i64 q), (7, .slice pr ((rfr es i q k).map entD).length cr), (8, .int .i64 k)] a ∧ MemOk X w0 [(1, .box B 98 [.int .i64 bi, .int .i64 bt, .slice pc cf.length cc, .slice pd d.length cd, .slice pl (es.map entD).length cl]), (2, .seg (.slice pl (es.map entD).length cl) 62 4 (es.map entD)), (3, .dat (.slice pc cf.length cc) (.ns .i64 cf)), (4, .dat (.slice pd d.length cd) (.ns .u8 d)), (5, .row (.slice pr ((rfr es i q k).map entD).length cr) 62 4 ((rfr es i q k).map entD))] w) (es.length) ?_ ?_
 · exact ⟨0, _, _, _, _, Nat.zero_le _, rfl, Nat.le_refl _, Hz.only [0, 1, 2, 7, 8], m3.ren [(1, 1), (2, 2), (3, 3), (4, 4), (5, 6)] (by decide)⟩
 ·
  clear Hz m3
  rintro g Az w6 ⟨k, pl, pr, cl, cr, hkl, hg, hrl, Hz, m6⟩
  refine wp_seq_k (fun K2 hK2 => ?_)
  refine wp_seq_k (fun K3 hK3 => ?_)
  refine wp_region_lit ?_
  refine goCh Hz (.move rfl <| .move rfl <| .nilCheck rfl <| .fieldAddr (off := 4) rfl Tryz.underlying98 rfl (s := 0) (by kernel_rfl) rfl <| .loadB1 m6 (i := 1) rfl rfl rfl Tryz.underlying30 rfl <| .len rfl Tryz.underlying30 <| .lss rfl rfl <| .move rfl <| .nil) ?_
  clear Hz Az; intro Az Hz
  refine bool_cases Hz (t := 16) rfl ?_ ?_
  ·
   clear Hz; intro hb23 Hz
   try simp only [Q1x, Q2x, Q3x, Q4x, Q5x, Q6x, Q7x, Q8x, Q9x, Q0x, Qax, Qbx] at hb23
   have hk : k < es.length := by rw [List.length_map] at hb23; omega
   obtain ⟨⟨ei, et, ek, ed⟩, hes⟩ : ∃ e, es[k]? = some e := ⟨_, List.getElem?_eq_getElem hk⟩
   refine goCh Hz (.moveZ rfl <| .lenZ rfl Tryz.underlying30 <| .moveZ rfl <| .lssZ rfl rfl <| .pickT rfl rfl <| .nil) ?_
   clear Hz Az; intro Az Hz
   refine wpList_nil ?_
   refine hK3 _ _ ?_; clear hK3; try clear K3
   refine bool_cases Hz (t := 21) rfl ?_ ?_
   ·
    clear Hz; intro hb29 Hz
    try simp only [Q1x, Q2x, Q3x, Q4x, Q5x, Q6x, Q7x, Q8x, Q9x, Q0x, Qax, Qbx] at hb29
    have hqk := hb29
    refine wp_cond_true (Hz.ev (x := .tmp 21) rfl) ?_
    refine wp_skip ?_
    refine hK2 _ _ ?_; clear hK2; try clear K2
    refine wp_seq_k (fun K4 hK4 => ?_)
    refine wp_block ?_
    replace Hz : Has 45 [(0, _), (1, _), (2, _), (7, _), (8, _), (16, _), (21, _)] Az := Hz.only [0, 1, 2, 7, 8, 16, 21]
    refine wp_seq_k (fun K5 hK5 => ?_)
    refine wp_region_lit ?_
    refine goCh Hz (.move rfl <| .nilCheck rfl <| .fieldAddr (off := 4) rfl Tryz.underlying98 rfl (s := 0) (by kernel_rfl) rfl <| .loadB1 m6 (i := 1) rfl rfl rfl Tryz.underlying30 rfl <| .move rfl <| .nil) ?_
    clear Hz Az; intro Az Hz
    obtain ⟨gs42, os42, vs42, hp42, hl42, hR42, hsg42⟩ := m6.openS (i := 2) rfl (k) (r := [.v (.int .i64 ei), .v (.int .i64 et), .v (.int .i64 ek), .ns .u8 ed]) (ent_get hes)
    cases hp42; clear hl42
    rcases hR42 with _ | ⟨hd42_0, _ | ⟨hd42_1, _ | ⟨hd42_2, _ | ⟨hd42_3, _ | _⟩⟩⟩⟩
    obtain rfl := hd42_0.v_out
    clear hd42_0
    obtain rfl := hd42_1.v_out
    clear hd42_1
    obtain rfl := hd42_2.v_out
    clear hd42_2
    obtain ⟨p43, c43, hv43, hw43⟩ := hd42_3.ns_shape; subst hv43
    have m43 := m6.dat 100 rfl (hd42_3.cast (fun _ h => h)); clear m6 hd42_3
    refine goCh Hz (.c rfl (fun _ h_ => y_idx h_ rfl rfl Tryz.underlying30 sz62rf (k) rfl (by rw [List.length_map]; exact hk)) <| .fieldAddrQ 0 rfl Tryz.underlying62 rfl (s := 0) (by kernel_rfl) rfl <| .loadAt1 hsg42 (q := 0) rfl rfl rfl Tryz.underlying3 rfl <| .move rfl <| .geq rfl rfl <| .nil) ?_
    clear Hz Az; intro Az Hz
    refine wpList_nil ?_
    refine hK5 _ _ ?_; clear hK5; try clear K5
    refine bool_cases Hz (t := 33) rfl ?_ ?_
    ·
     clear Hz; intro hb49 Hz
     try simp only [Q1x, Q2x, Q3x, Q4x, Q5x, Q6x, Q7x, Q8x, Q9x, Q0x, Qax, Qbx] at hb49
     refine wp_cond_true (Hz.ev (x := .tmp 33) rfl) ?_
     replace Hz : Has 45 [(0, _), (1, _), (2, _), (7, _), (8, _), (16, _), (21, _), (33, _)] Az := Hz.only [0, 1, 2, 7, 8, 16, 21, 33]
     refine wp_region_lit ?_
     refine goCh Hz (.move rfl <| .move rfl <| .nilCheck rfl <| .fieldAddr (off := 4) rfl Tryz.underlying98 rfl (s := 0) (by kernel_rfl) rfl <| .loadB1 m43 (i := 1) rfl rfl rfl Tryz.underlying30 rfl <| .move rfl <| .nil) ?_
     clear Hz Az; intro Az Hz
     obtain ⟨gs57, os57, vs57, hp57, hl57, hR57, hsg57⟩ := m43.openS (i := 2) rfl (k) (r := [.v (.int .i64 ei), .v (.int .i64 et), .v (.int .i64 ek), .ns .u8 ed]) (ent_get hes)
     cases hp57; clear hl57
     rcases hR57 with _ | ⟨hd57_0, _ | ⟨hd57_1, _ | ⟨hd57_2, _ | ⟨hd57_3, _ | _⟩⟩⟩⟩
     obtain rfl := hd57_0.v_out
     clear hd57_0
     obtain rfl := hd57_1.v_out
     clear hd57_1
     obtain rfl := hd57_2.v_out
     clear hd57_2
     obtain ⟨p58, c58, hv58, hw58⟩ := hd57_3.ns_shape; subst hv58
     have m58 := m43.dat 101 rfl (hd57_3.cast (fun _ h => h)); clear m43 hd57_3
     refine goCh Hz (.c rfl (fun _ h_ => y_idx h_ rfl rfl Tryz.underlying30 sz62rf (k) rfl (by rw [List.length_map]; exact hk)) <| .loadAt hsg57 rfl Tryz.underlying62 rfl sz62rf <| .nil) ?_
     clear Hz Az; intro Az Hz
     refine wpList_plain rfl (fun K hK => ?_)
     refine e_litR Hz m58 102 (mm := 4) rfl (.cons rfl rfl (.cons (.v _) (.cons (.v _) (.cons (.v _) (.cons (m58.rd (i := 101) rfl) .nil)))) <| .nil) Tryz.underlying30 inf62rf rfl rfl rfl rfl rfl ?_
     clear Hz Az m58; intro g61 Az w62 Hz m62
     refine hK _ _ ?_; clear hK K
     have m64 := m62.freezeR 102 rfl; clear m62
     refine wpList_plain rfl (fun K hK => ?_)
     refine e_appR Hz m64 5 rfl rfl rfl (m64.rd (i := 102) rfl) Tryz.underlying30 inf62rf rfl rfl (by decide) (by simp; omega) rfl ?_
     clear Hz Az m64; intro p63 c63 Az w65 Hz m65
     refine hK _ _ ?_; clear hK K
     refine goCh Hz (.assign rfl .nil) ?_
     clear Hz Az; intro Az Hz
     refine wpList_nil ?_
     refine hK4 _ _ ?_; clear hK4; try clear K4
     replace Hz : Has 45 [(0, _), (1, _), (2, _), (7, _), (8, _), (16, _), (21, _), (33, _)] Az := Hz.only [0, 1, 2, 7, 8, 16, 21, 33]
     refine wp_region_lit ?_
     refine goCh Hz (.move rfl <| .add rfl rfl (r := ((k + 1 : Nat) : Int)) (by rw [IntWalk.i64_in _ (by omega)]; omega) <| .assign rfl <| .nil) ?_
     clear Hz Az; intro Az Hz
     refine wpList_nil ?_
     show ∃ n', n' < _ ∧ _
     have hqk2 : ((rfr es i q k).length : Int) < q := by rw [List.length_map] at hqk; exact hqk
     have hE : (rfr es i q k).map entD ++ [[D.v (.int .i64 ei), .v (.int .i64 et), .v (.int .i64 ek), .ns .u8 ed]] = (rfr es i q (k + 1)).map entD := by rw [rfr_yes hes hqk2 hb49, List.map_append]; rfl
     rw [hE] at m65 Hz
     exact ⟨es.length - (k + 1), by omega, k + 1, _, _, _, _, by omega, rfl, rfr_len _, Hz.only [0, 1, 2, 7, 8], m65.ren [(1, 1), (2, 2), (3, 3), (4, 4), (5, 5)] (by decide)⟩
    ·
     clear Hz; intro hb49 Hz
     try simp only [Q1x, Q2x, Q3x, Q4x, Q5x, Q6x, Q7x, Q8x, Q9x, Q0x, Qax, Qbx] at hb49
     refine wp_cond_false (Hz.ev (x := .tmp 33) rfl) ?_
     refine wp_skip ?_
     refine hK4 _ _ ?_; clear hK4; try clear K4
     replace Hz : Has 45 [(0, _), (1, _), (2, _), (7, _), (8, _), (16, _), (21, _), (33, _)] Az := Hz.only [0, 1, 2, 7, 8, 16, 21, 33]
     refine wp_region_lit ?_
     refine goCh Hz (.move rfl <| .add rfl rfl (r := ((k + 1 : Nat) : Int)) (by rw [IntWalk.i64_in _ (by omega)]; omega) <| .assign rfl <| .nil) ?_
     clear Hz Az; intro Az Hz
     refine wpList_nil ?_
     show ∃ n', n' < _ ∧ _
     have hqk2 : ((rfr es i q k).length : Int) < q := by rw [List.length_map] at hqk; exact hqk
     rw [← rfr_no hes hqk2 hb49] at m43 Hz
     exact ⟨es.length - (k + 1), by omega, k + 1, _, _, _, _, by omega, rfl, rfr_len _, Hz.only [0, 1, 2, 7, 8], m43.ren [(1, 1), (2, 2), (3, 3), (4, 4), (5, 5)] (by decide)⟩
   ·
    clear Hz; intro hb29 Hz
    try simp only [Q1x, Q2x, Q3x, Q4x, Q5x, Q6x, Q7x, Q8x, Q9x, Q0x, Qax, Qbx] at hb29
    refine wp_cond_false (Hz.ev (x := .tmp 21) rfl) ?_
    refine wp_exit ?_
    refine hK1 _ _ ?_; clear hK1; try clear K1
    replace Hz : Has 45 [(0, _), (1, _), (2, _), (7, _), (8, _), (16, _), (21, _)] Az := Hz.only [0, 1, 2, 7, 8, 16, 21]
    refine regS Hz (.move rfl <| .assign rfl <| .nil) ?_
    clear Hz Az; intro Az Hz
    refine wp_ret ?_
    try dsimp only [Exit.then, Exit.inBlock]
    refine (ret1 (fn := Tryz.f124) Hz rfl rfl ?_)
    have m78 := m6.freezeR 5 rfl; clear m6
    have hE9 := (rfr_end2 (es := es) (i := i) (q := q) hkl (by have := hb29; rw [List.length_map] at this; omega))
    rw [hE9] at m78
    rw [hE9]
    exact ⟨_, _, _, _, rfl, m78.ren [(1, 1), (2, 2), (3, 3), (4, 4), (5, 5)] (by decide)⟩
  ·
   clear Hz; intro hb23 Hz
   try simp only [Q1x, Q2x, Q3x, Q4x, Q5x, Q6x, Q7x, Q8x, Q9x, Q0x, Qax, Qbx] at hb23
   refine goCh Hz (.sk <| .sk <| .sk <| .sk <| .pickF rfl rfl <| .nil) ?_
   clear Hz Az; intro Az Hz
   refine wpList_nil ?_
   refine hK3 _ _ ?_; clear hK3; try clear K3
   refine wp_cond_false (Hz.ev (x := .tmp 21) rfl) ?_
   refine wp_exit ?_
   refine hK1 _ _ ?_; clear hK1; try clear K1
   replace Hz : Has 45 [(0, _), (1, _), (2, _), (7, _), (8, _), (16, _), (21, _)] Az := Hz.only [0, 1, 2, 7, 8, 16, 21]
   refine regS Hz (.move rfl <| .assign rfl <| .nil) ?_
   clear Hz Az; intro Az Hz
   refine wp_ret ?_
   try dsimp only [Exit.then, Exit.inBlock]
   refine (ret1 (fn := Tryz.f124) Hz rfl rfl ?_)
   have m87 := m6.freezeR 5 rfl; clear m6
   have hE9 := (rfr_end1 (es := es) (i := i) (q := q) (k := k) (by have h9 := hb23; have h8 : (es.map entD).length = es.length := List.length_map _; omega))
   rw [hE9] at m87
   rw [hE9]
   exact ⟨_, _, _, _, rfl, m87.ren [(1, 1), (2, 2), (3, 3), (4, 4), (5, 5)] (by decide)⟩
theorem rnew_fr (X : Cx) (bi bt : Int) (cf d : List Int) (ls : List (Int × Int × Int × List Int)) (pc pd pa : Option Addr) (cc cd ca nn : Nat) (w0 : World) (hbi : -1000000000000000000 ≤ bi ∧ bi ≤ 1000000000000000000) (hn : ls.length ≤ 1000000) (m0 : MemOk X w0 [(5, .dat (.slice pc cf.length cc) (.ns .i64 cf)), (6, .dat (.slice pd d.length cd) (.ns .u8 d)), (7, .dat (.slice pa nn ca) (.l 4 (ls.map entD)))] w0) :
   Calls Tryz.prog 37 #[.agg #[.int .i64 bi, .int .i64 bt, .slice pc cf.length cc, .slice pd d.length cd], .slice pa nn ca] w0 fun e w' => ∃ (B : Nat) (pl' : Option Addr) (cl' : Nat), e = .returned (.pointer (some ⟨B, 0, none⟩)) ∧ MemOk X w0 [(1, .box B 98 [.int .i64 bi, .int .i64 bt, .slice pc cf.length cc, .slice pd d.length cd, .slice pl' ((ls.take (runN bi ls)).map entD).length cl']), (2, .seg (.slice pl' ((ls.take (runN bi ls)).map entD).length cl') 62 4 ((ls.take (runN bi ls)).map entD)), (3, .dat (.slice pc cf.length cc) (.ns .i64 cf)), (4, .dat (.slice pd d.length cd) (.ns .u8 d))] w' := by
 obtain rfl : nn = ls.length := by obtain ⟨pq, cq, hv, _⟩ := (m0.rd (i := 7) rfl).l_shape; injection hv with _ e2 _; rw [List.length_map] at e2; exact e2
 refine enter (fn := Tryz.f37) Tryz.func37 rfl Tryz.ntmps37 rfl (fun Az Hz => ?_)
 simp only [List.zipIdx_cons, List.zipIdx_nil, List.map_cons, List.map_nil, Nat.reduceAdd, Nat.zero_add] at Hz
 refine wp_seq_k (fun K0 hK0 => ?_)
 refine wp_region_lit ?_
 refine wpList_plain rfl (fun K hK => ?_)
 refine e_box Hz m0 8 (cs := [_, _, _, _]) rfl rfl rfl ?_
 clear Hz Az m0; intro g1 Az w2 Hz m2 hB2 hg2
 clear hB2 hg2
 refine hK _ _ ?_; clear hK K
 refine goCh Hz (.assign rfl .nil) ?_
 clear Hz Az; intro Az Hz
 refine wpList_nil ?_
 refine hK0 _ _ ?_; clear hK0; try clear K0
 refine wp_seq_k (fun K1 hK1 => ?_)
 refine wp_region_lit ?_
 refine goCh Hz (.loadBR m2 (i := 8) rfl rfl Tryz.underlying29 rfl sz29rn (by simp) (by dsimp only [List.drop, List.take] <;> rfl) <| .buildG rfl zc98rn ps98rn rfl <| .nil) ?_
 clear Hz Az; intro Az Hz
 refine wpList_plain rfl (fun K hK => ?_)
 refine e_box Hz m2 9 (cs := [_, _, _, _, _]) rfl rfl rfl ?_
 clear Hz Az m2; intro g8 Az w9 Hz m9 hB9 hg9
 clear hB9 hg9
 refine hK _ _ ?_; clear hK K
 refine goCh Hz (.assign rfl .nil) ?_
 clear Hz Az; intro Az Hz
 refine wpList_nil ?_
 refine hK1 _ _ ?_; clear hK1; try clear K1
 refine wp_seq_k (fun K2 hK2 => ?_)
 refine regS Hz (.assign rfl <| .nil) ?_
 clear Hz Az; intro Az Hz
 refine wp_block ?_
 have m12 := m9.nilS 2 62 4; clear m9
 refine wp_loop_ghost (fun g a w => ∃ (k B C : Nat) (pl pa : Option Addr) (cl ca : Nat), k ≤ ls.length ∧ g = ls.length - k ∧ (∀ j, j < k → (ls.getD j e0).1 = bi + 1 + j) ∧ Has 43 [(1, .slice pa ls.length ca), (2, .pointer (some ⟨C, 0, none⟩)), (5, .pointer (some ⟨B, 0, none⟩)), (6, .int .i64 k)] a ∧ MemOk X w0 [(1, .box B 98 [.int .i64 bi, .int .i64 bt, .slice pc cf.length cc, .slice pd d.length cd, .slice pl ((ls.take k).map entD).length cl]), (2, .seg (.slice pl ((ls.take k).map entD).length cl) 62 4 ((ls.take k).map entD)), (3, .dat (.slice pc cf.length cc) (.ns .i64 cf)), (4, .dat (.slice pd d.length cd) (.ns .u8 d)), (7, .dat (.slice pa ls.length ca) (.l 4 (ls.map entD))), (8, .box C 29 [.int .i64 bi, .int .i64 bt, .slice pc cf.length cc, .slice pd d.length cd])] w) (ls.length) ?_ ?_
 · exact ⟨0, _, _, none, _, 0, _, Nat.zero_le _, rfl, (fun j hj => by omega), Hz.only [1, 2, 5, 6], m12.ren [(1, 9), (2, 2), (3, 5), (4, 6), (7, 7), (8, 8)] (by decide)⟩
 ·
  clear Hz m12
  rintro g Az w13 ⟨k, B, C, pl, pa, cl, ca, hkl, hg, hrun, Hz, m13⟩
  rcases Nat.lt_or_eq_of_le hkl with hlt | heq
  ·
   obtain ⟨⟨ei, et, ek, ed⟩, hes⟩ : ∃ e, ls[k]? = some e := ⟨_, List.getElem?_eq_getElem hlt⟩
   refine wp_seq_k (fun K3 hK3 => ?_)
   refine wp_seq_k (fun K4 hK4 => ?_)
   obtain ⟨b14, o14, vs14, hp14, hR14, ho14, m14⟩ := m13.openR (i := 7) rfl (k) (r := [.v (.int .i64 ei), .v (.int .i64 et), .v (.int .i64 ek), .ns .u8 ed]) (ent_get hes) 100 rfl
   cases hp14; clear m13 ho14
   rcases hR14 with _ | ⟨hd14_0, _ | ⟨hd14_1, _ | ⟨hd14_2, _ | ⟨hd14_3, _ | _⟩⟩⟩⟩
   obtain rfl := hd14_0.v_out
   clear hd14_0
   obtain rfl := hd14_1.v_out
   clear hd14_1
   obtain rfl := hd14_2.v_out
   clear hd14_2
   obtain ⟨p15, c15, hv15, hc15⟩ := hd14_3.ns_shape; subst hv15
   have m15 := m14.dat 101 rfl (hd14_3.cast (fun _ h => (free_add rfl h))); clear m14 hd14_3
   have m16 : MemOk _ _ [(1, _), (2, _), (3, _), (4, _), (7, _), (8, _), (100, _), (101, _)] _ := m15.only [1, 2, 3, 4, 7, 8, 100, 101]; clear m15
   refine region_p 17 (B := [(1, _), (2, _), (3, _), (4, _), (7, _), (8, _), (100, _), (101, _)]) (m16.to ⟨il, il, il, il, il, il, il, il, trivial⟩) m16 (by kernel_rfl) (fun w17 hP17 m17 => ?_); clear m16
   refine goA hP17 [0, 1, 2, 3, 4] 5 0 31 Hz (m17.to ⟨il, il, il, il, il, il, il, il, trivial⟩) (.move rfl <| .move rfl <| .len rfl Tryz.underlying30 <| .lss rfl rfl <| .move rfl <| .nil) ?_
   clear Hz Az; intro Az Hz
   refine bool_cases Hz (t := 14) rfl ?_ ?_
   rotate_left
   · intro hb _; exact absurd hb (by simp; omega)
   clear Hz; intro _ Hz
   refine goR hP17 [5, 6, 7, 8, 9, 10, 11, 12, 13, 14, 15, 16] [9, 11] 12 31 131071 Hz (m17.to ⟨il, il, il, il, il, il, il, il, trivial⟩) (.move rfl <| .move rfl <| .p (fun _ _ h_ => y_idx h_ rfl rfl Tryz.underlying30 sz62rn (k) rfl hlt) <| .fieldAddrQ 0 rfl Tryz.underlying62 rfl (s := 0) (by kernel_rfl) rfl <| .loadC0 hh (i := 100) rfl rfl Tryz.underlying3 rfl <| .fieldAddr (off := 0) rfl Tryz.underlying29 rfl (s := 0) (by kernel_rfl) rfl <| .loadB1 hh (i := 8) rfl rfl rfl Tryz.underlying3 rfl <| .add rfl rfl (r := bi + 1) (IntWalk.i64_in _ (by omega)) <| .move rfl <| .add rfl rfl (r := bi + 1 + k) (IntWalk.i64_in _ (by omega)) <| .eql rfl rfl <| .pickT rfl rfl <| .nil) ?_
   clear Hz Az; intro Az Hz
   refine wpAnyE_done (by kernel_rfl) ?_ _
   refine hK4 _ _ ?_; clear hK4; try clear K4
   refine bool_cases Hz (t := 26) rfl ?_ ?_
   ·
    clear Hz; intro hb36 Hz
    try simp only [Q1x, Q2x, Q3x, Q4x, Q5x, Q6x, Q7x, Q8x, Q9x, Q0x, Qax, Qbx] at hb36
    refine wp_cond_true (Hz.ev (x := .tmp 26) rfl) ?_
    refine wp_skip ?_
    refine hK3 _ _ ?_; clear hK3; try clear K3
    refine wp_seq_k (fun K5 hK5 => ?_)
    refine wp_block ?_
    replace Hz : Has 43 [(1, _), (2, _), (5, _), (6, _), (25, _), (26, _)] Az := Hz.only [1, 2, 5, 6, 25, 26]
    obtain ⟨b38, o38, vs38, hp38, hR38, ho38, m38⟩ := m17.openR (i := 7) rfl (k) (r := [.v (.int .i64 ei), .v (.int .i64 et), .v (.int .i64 ek), .ns .u8 ed]) (ent_get hes) 102 rfl
    cases hp38; clear m17 ho38
    rcases hR38 with _ | ⟨hd38_0, _ | ⟨hd38_1, _ | ⟨hd38_2, _ | ⟨hd38_3, _ | _⟩⟩⟩⟩
    obtain rfl := hd38_0.v_out
    clear hd38_0
    obtain rfl := hd38_1.v_out
    clear hd38_1
    obtain rfl := hd38_2.v_out
    clear hd38_2
    obtain ⟨p39, c39, hv39, hc39⟩ := hd38_3.ns_shape; subst hv39
    have m39 := m38.dat 103 rfl (hd38_3.cast (fun _ h => (free_add rfl h))); clear m38 hd38_3
    have m40 : MemOk _ _ [(1, _), (2, _), (3, _), (4, _), (7, _), (8, _), (100, _), (101, _), (102, _), (103, _)] _ := m39.only [1, 2, 3, 4, 7, 8, 100, 101, 102, 103]; clear m39
    refine region_p 10 (B := [(1, _), (2, _), (3, _), (4, _), (7, _), (8, _), (100, _), (101, _), (102, _), (103, _)]) (m40.to ⟨il, il, il, il, il, il, il, il, il, il, trivial⟩) m40 (by kernel_rfl) (fun w41 hP41 m41 => ?_); clear m40
    refine goR hP41 [0, 1, 2, 3, 4, 5, 6, 7, 8] [4, 8] 9 0 511 Hz (m41.to ⟨il, il, il, il, il, il, il, il, il, il, trivial⟩) (.move rfl <| .move rfl <| .nilCheck rfl <| .fieldAddr (off := 4) rfl Tryz.underlying98 rfl (s := 0) (by kernel_rfl) rfl <| .loadB1 hh (i := 1) rfl rfl rfl Tryz.underlying30 rfl <| .move rfl <| .move rfl <| .p (fun _ _ h_ => y_idx h_ rfl rfl Tryz.underlying30 sz62rn (k) rfl hlt) <| .loadCR hh (i := 102) rfl rfl Tryz.underlying62 rfl sz62rn <| .nil) ?_
    clear Hz Az; intro Az Hz
    refine stepE_only 9 rfl (by kernel_rfl) rfl (fun K hK => ?_)
    refine e_litR Hz m41 104 (mm := 4) rfl (.cons rfl rfl (.cons (.v _) (.cons (.v _) (.cons (.v _) (.cons (m41.rd (i := 103) rfl) .nil)))) <| .nil) Tryz.underlying30 inf62rn rfl rfl rfl rfl rfl ?_
    clear Hz Az m41; intro g51 Az w52 Hz m52
    refine hK _ _ (m52.to ⟨il, il, il, il, il, il, il, il, il, il, trivial⟩) ?_; clear hK K
    have m54 := m52.freezeR 104 rfl; clear m52
    refine stepE_end 10 rfl (by kernel_rfl) rfl (by rfl) (fun K hK => ?_)
    refine e_appSA Hz m54 2 rfl rfl rfl (m54.rd (i := 104) rfl).cells Tryz.underlying30 inf62rn rfl rfl (by decide) (by simp; omega) rfl ?_
    clear Hz Az m54; intro p53 c53 Az w55 Hz m55
    refine hK _ _ ?_; clear hK K
    refine goB hP41 [11, 12] 2 2047 8191 Hz (.nilCheck rfl <| .fieldAddr (off := 4) rfl Tryz.underlying98 rfl (s := 0) (by kernel_rfl) rfl <| .nil) ?_
    clear Hz Az; intro Az Hz
    refine stepE_end 13 rfl (by kernel_rfl) rfl (by rfl) (fun K hK => ?_)
    refine e_store1 Hz m55 1 rfl rfl rfl rfl rfl sz30rn (by dsimp only [List.set] <;> rfl) ?_
    clear m55; intro w58 m58 hB58
    clear hB58
    refine hK _ _ ?_; clear hK K
    refine wpAnyE_done (by kernel_rfl) ?_ _
    refine hK5 _ _ ?_; clear hK5; try clear K5
    replace Hz : Has 43 [(1, _), (2, _), (5, _), (6, _), (25, _), (26, _)] Az := Hz.only [1, 2, 5, 6, 25, 26]
    refine wp_region_lit ?_
    refine goCh Hz (.move rfl <| .add rfl rfl (r := ((k + 1 : Nat) : Int)) (by rw [IntWalk.i64_in _ (by omega)]; omega) <| .assign rfl <| .nil) ?_
    clear Hz Az; intro Az Hz
    refine wpList_nil ?_
    show ∃ n', n' < _ ∧ _
    have hE : (ls.take k).map entD ++ [[D.v (.int .i64 ei), .v (.int .i64 et), .v (.int .i64 ek), .ns .u8 ed]] = (ls.take (k + 1)).map entD := by rw [take_snoc hes, List.map_append]; rfl
    rw [hE] at m58
    exact ⟨ls.length - (k + 1), by omega, k + 1, _, _, _, _, _, _, by omega, rfl, run_snoc hrun hes hb36, Hz.only [1, 2, 5, 6], m58.only [1, 2, 3, 4, 7, 8]⟩
   ·
    clear Hz; intro hb36 Hz
    try simp only [Q1x, Q2x, Q3x, Q4x, Q5x, Q6x, Q7x, Q8x, Q9x, Q0x, Qax, Qbx] at hb36
    refine wp_cond_false (Hz.ev (x := .tmp 26) rfl) ?_
    refine wp_exit ?_
    refine hK2 _ _ ?_; clear hK2; try clear K2
    replace Hz : Has 43 [(1, _), (2, _), (5, _), (6, _), (25, _), (26, _)] Az := Hz.only [1, 2, 5, 6, 25, 26]
    refine regS Hz (.move rfl <| .assign rfl <| .nil) ?_
    clear Hz Az; intro Az Hz
    refine wp_ret ?_
    try dsimp only [Exit.then, Exit.inBlock]
    refine (ret1 (fn := Tryz.f37) Hz rfl rfl ?_)
    have hR : Run bi ls k := ⟨hkl, hrun, .inr ⟨hlt, run_stop hes hb36⟩⟩
    have hE9 := hR.eq
    rw [hE9] at m17
    exact ⟨_, _, _, rfl, m17.only [1, 2, 3, 4]⟩
  ·
   subst heq
   refine wp_seq_k (fun K6 hK6 => ?_)
   refine wp_seq_k (fun K7 hK7 => ?_)
   have m66 : MemOk _ _ [(1, _), (2, _), (3, _), (4, _), (7, _), (8, _)] _ := m13.only [1, 2, 3, 4, 7, 8]; clear m13
   refine region_p 17 (B := [(1, _), (2, _), (3, _), (4, _), (7, _), (8, _)]) (m66.to ⟨il, il, il, il, il, il, trivial⟩) m66 (by kernel_rfl) (fun w67 hP67 m67 => ?_); clear m66
   refine goA hP67 [0, 1, 2, 3, 4] 5 0 31 Hz (m67.to ⟨il, il, il, il, il, il, trivial⟩) (.move rfl <| .move rfl <| .len rfl Tryz.underlying30 <| .lss rfl rfl <| .move rfl <| .nil) ?_
   clear Hz Az; intro Az Hz
   refine bool_cases Hz (t := 14) rfl ?_ ?_
   · intro hb _; exact absurd hb (by simp)
   clear Hz; intro _ Hz
   refine goA hP67 [5, 6, 7, 8, 9, 10, 11, 12, 13, 14, 15, 16] 12 31 131071 Hz (m67.to ⟨il, il, il, il, il, il, trivial⟩) (.s <| .s <| .s <| .s <| .s <| .s <| .s <| .s <| .s <| .s <| .s <| .pickF rfl rfl <| .nil) ?_
   clear Hz Az; intro Az Hz
   refine wpAnyE_done (by kernel_rfl) ?_ _
   refine hK7 _ _ ?_; clear hK7; try clear K7
   refine wp_cond_false (Hz.ev (x := .tmp 26) rfl) ?_
   refine wp_exit ?_
   refine hK2 _ _ ?_; clear hK2; try clear K2
   replace Hz : Has 43 [(1, _), (2, _), (5, _), (6, _), (25, _), (26, _)] Az := Hz.only [1, 2, 5, 6, 25, 26]
   refine regS Hz (.move rfl <| .assign rfl <| .nil) ?_
   clear Hz Az; intro Az Hz
   refine wp_ret ?_
   try dsimp only [Exit.then, Exit.inBlock]
   refine (ret1 (fn := Tryz.f37) Hz rfl rfl ?_)
   have hR : Run bi ls ls.length := ⟨Nat.le_refl _, hrun, .inl rfl⟩
   have hE9 := hR.eq
   rw [hE9] at m67
   exact ⟨_, _, _, rfl, m67.only [1, 2, 3, 4]⟩
end
section
theorem rterm_any (B : Nat) (bi bt : Int) (cf d : List Int) (es : List (Int × Int × Int × List Int)) (pc pd pl : Option Addr) (cc cd cl : Nat) (w0 : World) (i : Int) (hB : Blk w0 B 98 [.int .i64 bi, .int .i64 bt, .slice pc cf.length cc, .slice pd d.length cd, .slice pl (es.map entD).length cl]) (hl : Rd (fun _ => True) w0 (.slice pl (es.map entD).length cl) (.l 4 (es.map entD))) (hbi : -1000000000000000000 ≤ bi ∧ bi ≤ 1000000000000000000) (hn : es.length ≤ 1000000) :
   Calls Tryz.prog 58 #[.pointer (some ⟨B, 0, none⟩), .int .i64 i] w0 fun e w' => e = .returned (.int .i64 (termL bi bt es i)) ∧ Below w0.heap.size w0 w' := by
 unfold termL
 by_cases h1 : i = bi
 · subst h1; rw [if_pos rfl]; exact rterm_at B i bt cf d es pc pd pl cc cd cl w0 hB hl hbi hn
 · rw [if_neg h1]
   by_cases h2 : inB bi es i
   · rw [if_pos h2]
     obtain ⟨k, a1, a2, a3, a4⟩ := inB_at h2
     rw [a3]
     obtain ⟨⟨ei, et, ek, ed⟩, he⟩ : ∃ e, es.getD k e0 = e := ⟨_, rfl⟩
     rw [he] at a4 ⊢
     exact rterm_in B bi bt cf d es pc pd pl cc cd cl w0 k i hB hl hbi hn a4 a1
   · rw [if_neg h2]
     exact rterm_out B bi bt cf d es pc pd pl cc cd cl w0 i hB hl hbi hn (by unfold inB at h2; omega)
set_option maxRecDepth 100000
set_option maxHeartbeats 4000000
end
end Go.Proofs.YtndnnlbdnjndiaaGreat.K
section
namespace Go.Proofs.YtndnnlbdnjndiaaGreat.K
open Go.ChangeShapes Go.WideShapes Go.ChangeAt Go.RowKit Go.Sort
set_option linter.unusedVariables false
set_option linter.unusedSimpArgs false

theorem contains_snoc (l : List Int) (n : Int) (k : Nat) (h : k < l.length) : (l.take (k + 1)).contains n = ((l.take k).contains n || (l.getD k 0 == n)) := by
 rw [List.take_succ_eq_append_getElem h, Bool.eq_iff_iff]
 simp only [List.contains_iff_mem, List.mem_append, List.mem_singleton, Bool.or_eq_true, beq_iff_eq, List.getD, List.getElem?_eq_getElem h, Option.getD_some]
 constructor
 · rintro (h | h)
   · exact .inl h
   · exact .inr h.symm
 · rintro (h | h)
   · exact .inl h
   · exact .inr h.symm
set_option maxRecDepth 100000 in
set_option maxHeartbeats 2000000 in
theorem rhas_any (v : Value) (l : List Int) (n : Int) (w : World) (hv : IsNums .i64 w v l) (hl : l.length ≤ 1000) :
   Calls Tryz.prog 54 #[v, .int .i64 n] w fun e w' => e = .returned (.bool (l.contains n)) ∧ w = w' := by
 obtain ⟨p, c, rfl, h⟩ := hv
 have H := Lib.hid h
 clear h
 go_enter Tryz.func54, Tryz.ntmps54
 go_wp2
 go_loop [5] (fun i => ∃ k : Nat, k ≤ l.length ∧ i = .int .i64 k ∧ (l.take k).contains n = false) (fun i => l.length - (intOf i).toNat)
 case atStart => exact ⟨0, Nat.zero_le _, rfl, rfl⟩
 case round =>
   obtain ⟨k, hk, rfl, hno⟩ := hrel
   by_cases hlt : k < l.length
   · obtain h0 | ⟨b, off, rfl, hblk, hcell⟩ := H.out
     · omega
     have hc := hcell k hlt
     have hsn := contains_snoc l n k hlt
     rw [hno] at hsn
     have hm : l.getD k 0 ∈ l := by simp [List.getD, hlt]
     obtain ⟨x, hx⟩ : ∃ x, l.getD k 0 = x := ⟨_, rfl⟩
     rw [hx] at hc hsn hm
     cases hq : x == n with
     | true =>
       have hyes : l.contains n = true := by
         have e : x = n := by simpa using hq
         subst e; simpa using hm
       have HY := Lib.hid hyes
       clear hcell hsn hx hno hyes hm
       go_wp2
       go_ret
       exact ⟨ret_bool (by have h := HY.out; simp at h; simp [h]), rfl⟩
     | false =>
       rw [hq] at hsn
       have HS := Lib.hid hsn
       clear hcell hsn hx hno hm
       go_wp2
       go_round
       case rel => exact ⟨k + 1, by omega, by go_num, by rw [HS.out]; rfl⟩
       case measure => simp [intOf]; omega
   · obtain rfl : k = l.length := by omega
     rw [List.take_length] at hno
     have HN := Lib.hid hno
     clear hno
     go_wp2
     go_ret
     exact ⟨ret_bool (by have h := HN.out; simp at h; simp [h]), rfl⟩
def canonTo (l : List Int) (k : Nat) : List Int := ((List.range k).map fun (n : Nat) => (n : Int)).filter fun n => l.contains n
theorem canonTo_snoc (l : List Int) (k : Nat) : canonTo l (k + 1) = canonTo l k ++ if l.contains (k : Int) = true then [(k : Int)] else [] := by
 unfold canonTo
 rw [List.range_succ, List.map_append, List.filter_append]
 congr 1
 simp only [List.map_cons, List.map_nil, List.filter_cons, List.filter_nil]
theorem canonTo_len (l : List Int) (k : Nat) : (canonTo l k).length ≤ k := by
 unfold canonTo
 refine Nat.le_trans (List.length_filter_le _ _) ?_
 simp
set_option maxRecDepth 100000 in
set_option maxHeartbeats 2000000 in
theorem rof_any (v : Value) (l : List Int) (w : World) (hv : IsNums .i64 w v l) (hl : l.length ≤ 1000) :
   Calls Tryz.prog 59 #[v] w (ListPost w (canon l)) := by
 have hdef : canonTo l 7 = canon l := rfl
 rw [← hdef]
 obtain ⟨p, c, rfl, -⟩ := id hv
 have H := Lib.hid hv
 clear hv hdef
 go_enter Tryz.func59, Tryz.ntmps59
 go_wp2
 go_loopw [3, 4] (fun u i wr => ∃ k : Nat, k ≤ 7 ∧ i = .int .i64 k ∧ wr.ownsRow w.heap.size 3 1 u (canonTo l k).length ((canonTo l k).map (Value.int .i64)) ∧ Below w.heap.size w wr) (fun _ i _ => 7 - (intOf i).toNat)
 case atStart => exact ⟨0, by omega, rfl, World.ownsRow_nil _ _ _ _, Below.refl _ _⟩
 case round =>
   obtain ⟨k, hk, rfl, hown, hbel⟩ := hrel
   have hsz := hbel.size
   have hcl := canonTo_len l k
   by_cases hlt : k < 7
   · have hsn := canonTo_snoc l k
     have HR := Lib.hid (H.out.below hbel (Nat.le_refl _))
     obtain ⟨N, hN⟩ : ∃ N, (canonTo l k).length = N := ⟨_, rfl⟩
     rw [hN] at hown hcl
     have HN := Lib.hid hN
     clear hN
     have hhas := rhas_any _ l (k : Int) wr HR.out (by omega)
     cases hq : l.contains (k : Int) with
     | true =>
       rw [hq] at hsn hhas
       rw [if_pos rfl] at hsn
       have HS := Lib.hid hsn
       clear hsn hq
       go_wp2_with (first | (go_at_call 54; ((with_reducible refine hhas.mono ?_); rintro e w' ⟨rfl, rfl⟩)) | (at_builtin; refine wpList_app1 rfl _ _ 26 rfl w.heap.size 3 .i64 8 Tryz.underlying26 info_int (by omega) _ _ _ rfl hown _ 1 rfl (by omega) hsz ?_; intro v' w' hown' hb'))
       go_roundw
       case rel => exact ⟨k + 1, by omega, by go_num, by rw [HS.out, List.length_append, List.map_append, HN.out]; exact hown', hbel.trans hb'⟩
       case measure => simp [intOf]; omega
     | false =>
       rw [hq] at hsn hhas
       rw [if_neg (by simp), List.append_nil] at hsn
       have HS := Lib.hid hsn
       clear hsn hq
       go_wp2_with (go_at_call 54; ((with_reducible refine hhas.mono ?_); rintro e w' ⟨rfl, rfl⟩))
       go_roundw
       case rel => exact ⟨k + 1, by omega, by go_num, by rw [HS.out, HN.out]; exact hown, hbel⟩
       case measure => simp [intOf]; omega
   · obtain rfl : k = 7 := by omega
     go_wp2
     go_ret
     exact ⟨_, rfl, hown, hbel⟩
theorem rof_is (v : Value) (l : List Int) (w : World) (hv : IsNums .i64 w v l) (hl : l.length ≤ 1000) (S : List Int) (n : Nat) (hS : canon l = S) (hn : S.length = n) :
   Calls Tryz.prog 59 #[v] w fun e w' => ∃ p c, e = .returned (.slice p n c) ∧ IsNums .i64 w' (.slice p n c) S ∧ Below w.heap.size w w' := by
 subst hS; subst hn
 refine (rof_any v l w hv hl).mono fun e w' h => ?_
 obtain ⟨u, rfl, hown, hbel⟩ := h
 have hN := IsNums.ofOwn hown
 obtain ⟨p, c, rfl, -⟩ := id hN
 exact ⟨p, c, rfl, hN, hbel⟩
theorem canon_out (l : List Int) (n : Int) : canon (l.filter fun x => decide (x ≠ n)) = (canon l).filter fun x => decide (x ≠ n) := by
 refine strict_ext _ _ (canon_strict _) (List.Pairwise.filter _ (canon_strict l)) (fun x => ?_)
 rw [canon_mem, List.mem_filter, List.mem_filter, canon_mem]
 constructor
 · rintro ⟨⟨h1, h2⟩, h3⟩; exact ⟨⟨h1, h3⟩, h2⟩
 · rintro ⟨⟨h1, h3⟩, h2⟩; exact ⟨⟨h1, h2⟩, h3⟩
theorem canon_with (l : List Int) (n : Int) : canon (canon l ++ [n]) = canon (l ++ [n]) := by
 refine strict_ext _ _ (canon_strict _) (canon_strict _) (fun x => ?_)
 rw [canon_mem, canon_mem, List.mem_append, List.mem_append, canon_mem]
 constructor
 · rintro ⟨h | h, h2⟩
   · exact ⟨.inl h.1, h2⟩
   · exact ⟨.inr h, h2⟩
 · rintro ⟨h | h, h2⟩
   · exact ⟨.inl ⟨h, h2⟩, h2⟩
   · exact ⟨.inr h, h2⟩
end Go.Proofs.YtndnnlbdnjndiaaGreat.K
end
