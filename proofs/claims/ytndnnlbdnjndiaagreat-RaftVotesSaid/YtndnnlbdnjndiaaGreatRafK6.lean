/- RaftVotes' walk. -/
import Derived.Test.YtndnnlbdnjndiaaGreatG22
namespace Go.Proofs.YtndnnlbdnjndiaaGreat.K
open Go.ChangeShapes Go.WideShapes Go.ChangeAt Go.RowKit
set_option linter.unusedVariables false
set_option linter.unusedSimpArgs false

theorem fl25rv : flatS Tryz.prog 25 [.int .i64 0, .int .i64 0] = true := by kernel_rfl
theorem fl29rv : flatS Tryz.prog 29 [.int .i64 0, .int .i64 0, .slice none 0 0, .slice none 0 0] = true := by kernel_rfl
theorem inf3rv : (Tryz.prog.info? 3).map (fun i => (i.zero, i.size, i.bytes)) = some (some (.int .i64 0), 1, 8) := by kernel_rfl
theorem inf25rv : (Tryz.prog.info? 25).map (fun i => (i.zero, i.size, i.bytes)) = some (some (.agg #[.int .i64 0, .int .i64 0]), 2, 16) := by kernel_rfl
theorem ps32rv : placesS Tryz.prog 32 = some [(0, 2), (2, 4), (6, 1)] := by kernel_rfl
theorem sz5rv : (Tryz.prog.info? 5).map (·.size) = some 1 := by kernel_rfl
theorem sz25rv : (Tryz.prog.info? 25).map (·.size) = some 2 := by kernel_rfl
theorem sz32rv : (Tryz.prog.info? 32).map (·.size) = some 7 := by kernel_rfl
theorem sz38rv : (Tryz.prog.info? 38).map (·.size) = some 5 := by kernel_rfl
theorem sz46rv : (Tryz.prog.info? 46).map (·.size) = some 3 := by kernel_rfl
theorem sz55rv : (Tryz.prog.info? 55).map (·.size) = some 19 := by kernel_rfl
theorem zc25rv : ((Tryz.prog.info? 25).bind (·.zero)).map (·.cells.toList) = some [.int .i64 0, .int .i64 0] := by kernel_rfl
theorem zc29rv : ((Tryz.prog.info? 29).bind (·.zero)).map (·.cells.toList) = some [.int .i64 0, .int .i64 0, .slice none 0 0, .slice none 0 0] := by kernel_rfl
theorem zc32rv : ((Tryz.prog.info? 32).bind (·.zero)).map (·.cells.toList) = some [.int .i64 0, .int .i64 0, .int .i64 0, .int .i64 0, .slice none 0 0, .slice none 0 0, .slice none 0 0] := by kernel_rfl
theorem zc38rv : ((Tryz.prog.info? 38).bind (·.zero)).map (·.cells.toList) = some [.int .u8 0, .int .u8 0, .int .u8 0, .int .u8 0, .int .u8 0] := by kernel_rfl
theorem zc46rv : ((Tryz.prog.info? 46).bind (·.zero)).map (·.cells.toList) = some [.slice none 0 0, .slice none 0 0, .bool false] := by kernel_rfl
theorem zc55rv : ((Tryz.prog.info? 55).bind (·.zero)).map (·.cells.toList) = some [.int .i64 0, .int .i64 0, .int .i64 0, .int .i64 0, .int .i64 0, .int .i64 0, .int .i64 0, .int .i64 0, .bool false, .slice none 0 0, .int .i64 0, .int .i64 0, .slice none 0 0, .slice none 0 0, .slice none 0 0, .int .i64 0, .int .i64 0, .int .i64 0, .int .i64 0] := by kernel_rfl
abbrev rwL (R : Nat) (s : RS) (p : RP) (M : Mm) : Mm :=
 (101, .box R 91 (raW s.x p.L (.slice p.py s.ys.length p.cy) (.slice p.pm (s.ms.map rmD).length p.cm) (.slice p.pq (s.rs.map rrD).length p.cq) s.re)) ::
 (102, .box p.L 98 [.int .i64 s.bi, .int .i64 s.bt, .slice p.pc s.cf.length p.cc, .slice p.pd s.bd.length p.cd, .slice p.pl (s.es.map entD).length p.cl]) ::
 (103, .seg (.slice p.pl (s.es.map entD).length p.cl) 62 4 (s.es.map entD)) :: (104, .dat (.slice p.pc s.cf.length p.cc) (.ns .i64 s.cf)) :: (105, .dat (.slice p.pd s.bd.length p.cd) (.ns .u8 s.bd)) ::
 (106, .dat (.slice p.py s.ys.length p.cy) (.ns .i64 s.ys)) :: (107, .seg (.slice p.pm (s.ms.map rmD).length p.cm) 55 19 (s.ms.map rmD)) :: (108, .seg (.slice p.pq (s.rs.map rrD).length p.cq) 118 12 (s.rs.map rrD)) :: M

theorem cutF {p q : Prop} (h : p → q) (hp : p) : q := h hp
set_option maxRecDepth 100000
set_option maxHeartbeats 4000000
theorem votes_walk (q u : Nat) (ls : List (Int × Int × Int × Int × Int)) (pl : Option Addr) (cl : Nat) (w0 : World) (hq : q ≤ 255) (hu : u ≤ 255) (hls : ∀ x ∈ ls, B5 x) (hL : Rd (fun _ => True) w0 (.slice pl (ls.map f5).length cl) (.l 5 (ls.map f5))) :
   Calls Tryz.prog 4 #[.int .u8 (q : Nat), .slice pl (ls.map f5).length cl, .int .u8 (u : Nat)] w0 fun e w' => e = .returned (.bool true) ∧ Below w0.heap.size w0 w' := by
 refine enter (fn := Tryz.f4) Tryz.func4 rfl Tryz.ntmps4 rfl (fun Az Hz => ?_)
 simp only [List.zipIdx_cons, List.zipIdx_nil, List.map_cons, List.map_nil, Nat.reduceAdd, Nat.zero_add] at Hz
 have m0 := MemOk.start (fun _ => False) w0
 have hme : 0 ≤ ((q % 3 : Nat) : Int) ∧ ((q % 3 : Nat) : Int) ≤ 2 := by omega
 refine regS Hz (.assign rfl <| .nil) ?_
 clear Hz Az; intro Az Hz
 refine wp_seq_k (fun K0 hK0 => ?_)
 refine wp_seq_k (fun K1 hK1 => ?_)
 refine wp_region_lit ?_
 refine wpList_plain rfl (fun K hK => ?_)
 refine e_call Hz Tryz.func10 rfl rfl rfl rfl (rknown_any _) ?_
 rintro e w2 ⟨rfl, hb2⟩
 have m3 := m0.later hb2
 clear m0
 clear hb2
 refine ⟨_, rfl, ?_⟩; clear Hz Az; intro Az Hz
 refine hK _ _ ?_; clear hK K
 refine goCh Hz (.not rfl .nil) ?_
 clear Hz Az; intro Az Hz
 refine wpList_nil ?_
 refine hK1 _ _ ?_; clear hK1; try clear K1
 refine wp_cond_false (Hz.ev (x := .tmp 23) rfl) ?_
 refine wp_skip ?_
 refine hK0 _ _ ?_; clear hK0; try clear K0
 refine wp_seq_k (fun K2 hK2 => ?_)
 refine regS Hz (.move rfl <| .len rfl Tryz.underlying22 <| .gtr rfl rfl <| .nil) ?_
 clear Hz Az; intro Az Hz
 refine bool_cases Hz (t := 26) rfl ?_ ?_
 ·
  clear Hz; intro hb9 Hz
  try simp only [Q1x, Q2x, Q3x, Q4x, Q5x, Q6x, Q7x, Q8x, Q9x, Q0x, Qax, Qbx] at hb9
  refine wp_cond_true (Hz.ev (x := .tmp 26) rfl) ?_
  refine regS Hz (.assign rfl <| .nil) ?_
  clear Hz Az; intro Az Hz
  refine wp_ret ?_
  try dsimp only [Exit.then, Exit.inBlock]
  refine (ret1 (fn := Tryz.f4) Hz rfl rfl ?_)
  exact ⟨rfl, m3.below⟩
 ·
  clear Hz; intro hb9 Hz
  try simp only [Q1x, Q2x, Q3x, Q4x, Q5x, Q6x, Q7x, Q8x, Q9x, Q0x, Qax, Qbx] at hb9
  have hlen : ls.length ≤ 40 := by rw [List.length_map] at hb9; omega
  refine wp_cond_false (Hz.ev (x := .tmp 26) rfl) ?_
  refine wp_skip ?_
  refine hK2 _ _ ?_; clear hK2; try clear K2
  refine wp_seq_k (fun K3 hK3 => ?_)
  refine cutF (fun (hC3 : ∀ (a : Act) (w : World), (∃ (Bi : Nat) (pc : Option Addr) (cc : Nat), Has 157 [(0, .int .u8 (q : Nat)), (1, .slice pl (ls.map f5).length cl), (2, .int .u8 (u : Nat)), (7, .pointer (some ⟨Bi, 0, none⟩))] a ∧ MemOk (cx (fun _ => False) w0) w0 [(50, .box Bi 32 [.int .i64 0, .int .i64 (-1), .int .i64 0, .int .i64 0, .slice pc ([0, 1, 2, 3] : List Int).length cc, .slice none 0 0, .slice none 0 0]), (51, .dat (.slice pc ([0, 1, 2, 3] : List Int).length cc) (.ns .i64 [0, 1, 2, 3]))] w) → K3 a w) => ?_) ?_
  ·
   refine wp_region_lit ?_
   refine goCh Hz (.build rfl zc25rv fl25rv rfl (by dsimp only [setL, List.set] <;> rfl) .nil) ?_
   clear Hz Az; intro Az Hz
   refine wpList_plain rfl (fun K hK => ?_)
   refine e_litN Hz m3 200 (k := .i64) rfl rfl Tryz.underlying26 inf3rv rfl rfl rfl rfl ?_
   clear Hz Az m3; intro g464 Az w465 Hz m465
   refine hK _ _ ?_; clear hK K
   refine goCh Hz (.build rfl zc29rv fl29rv rfl (by dsimp only [setL, List.set] <;> rfl) <| .buildG rfl zc32rv ps32rv rfl <| .nil) ?_
   clear Hz Az; intro Az Hz
   refine wpList_plain rfl (fun K hK => ?_)
   refine e_alloc Hz m465 201 zc32rv rfl ?_
   clear Hz Az m465; intro g468 Az w469 Hz m469 hB469 hg469
   clear hB469 hg469
   refine hK _ _ ?_; clear hK K
   refine wpList_plain rfl (fun K hK => ?_)
   refine e_storeW Hz m469 201 rfl rfl rfl rfl rfl sz32rv ?_
   clear m469; intro w470 m470 hB470
   clear hB470
   refine hK _ _ ?_; clear hK K
   refine wpList_nil ?_
   have m471 := m470.freezeN 200 rfl; clear m470
   show K3 _ _
   exact hC3 _ _ ⟨_, _, _, Hz.only [0, 1, 2, 7], m471.ren [(50, 201), (51, 200)] (by decide)⟩
  ·
    clear Hz m3
    rintro Az w11 ⟨Bi, pc, cc, Hz, m11⟩
    refine hK3 _ _ ?_; clear hK3; try clear K3
    refine regS Hz (.move rfl <| .rem rfl rfl (r := ((q % 3 : Nat) : Int)) (by omega) (by rw [Int.tmod_eq_emod_of_nonneg (by omega)]; omega) <| .conv rfl Tryz.underlying5 Tryz.underlying3 (r := ((q % 3 : Nat) : Int)) (IntWalk.i64_in _ (by omega)) <| .assign rfl <| .nil) ?_
    clear Hz Az; intro Az Hz
    refine wp_seq_k (fun K4 hK4 => ?_)
    refine cutF (fun (hC4 : ∀ (a : Act) (w : World), (∃ (R W : Nat) (p1 q1 : RP), Has 157 [(1, .slice pl (ls.map f5).length cl), (2, .int .u8 (u : Nat)), (8, .int .i64 ((q % 3 : Nat) : Int)), (9, .pointer (some ⟨R, 0, none⟩)), (10, .pointer (some ⟨W, 0, none⟩))] a ∧ MemOk (cx (fun _ => False) w0) w0 (rwL W (V0 ((q % 3 : Nat) : Int)) (nilP q1) (rfM R (V0 ((q % 3 : Nat) : Int)) (nilP p1))) w) → K4 a w) => ?_) ?_
    ·
     have m445 : MemOk _ _ [(50, _), (51, _)] _ := m11.only [50, 51]; clear m11
     refine region_p 5 (B := [(50, _)]) (m445.to ⟨il, trivial⟩) m445 (by kernel_rfl) (fun w446 hP446 m446 => ?_); clear m445
     refine goR hP446 [0, 1, 3, 4] [1, 4] 4 0 27 Hz (m446.to ⟨il, trivial⟩) (.move rfl <| .loadBR hh (i := 50) rfl rfl Tryz.underlying32 rfl sz32rv (by simp) (by dsimp only [List.drop, List.take] <;> rfl) <| .move rfl <| .loadBR hh (i := 50) rfl rfl Tryz.underlying32 rfl sz32rv (by simp) (by dsimp only [List.drop, List.take] <;> rfl) <| .nil) ?_
     clear Hz Az; intro Az Hz
     have m451 := m446.dat 300 rfl (m446.rd (i := 51) rfl); clear m446
     have m452 := m451.dat 301 rfl (Rd.nilN _ _ .u8 none); clear m451
     have m453 := m452.dat 302 rfl (Rd.nil4 _ _); clear m452
     refine stepE_only 2 rfl (by kernel_rfl) rfl (fun K hK => ?_)
     refine e_call Hz Tryz.func11 rfl rfl rfl rfl (rNew_s _ ((q % 3 : Nat) : Int) 1 0 (-1) 0 0 [0, 1, 2, 3] [] [] _ _ _ _ _ _ _ _ (by decide) (by decide) (by decide) (by decide) (by intro e he; cases he) (m453.into [(5, 300), (6, 301), (7, 302)] (by decide) rfl)) ?_
     rintro e w454 ⟨R, p1, rfl, hm454⟩
     have mx454 := m453.back hm454 [(1, 1), (2, 2), (3, 3), (4, 4), (5, 5), (6, 6), (7, 7), (8, 8)] (by decide); clear hm454 m453
     have m454 : MemOk _ _ [(1, _), (2, _), (3, _), (4, _), (5, _), (6, _), (7, _), (8, _), (50, _), (51, _)] _ := mx454.only [1, 2, 3, 4, 5, 6, 7, 8, 50, 51]; clear mx454
     refine ⟨_, rfl, ?_⟩; clear Hz Az; intro Az Hz
     refine hK _ _ (m454.to ⟨il, trivial⟩) ?_; clear hK K
     have m456 := m454.dat 303 rfl (m454.rd (i := 51) rfl); clear m454
     have m457 := m456.dat 304 rfl (Rd.nilN _ _ .u8 none); clear m456
     have m458 := m457.dat 305 rfl (Rd.nil4 _ _); clear m457
     refine stepE_end 5 rfl (by kernel_rfl) rfl (by rfl) (fun K hK => ?_)
     refine e_call Hz Tryz.func12 rfl rfl rfl rfl (wNew_s _ ((q % 3 : Nat) : Int) 1 0 (-1) 0 0 [0, 1, 2, 3] [] [] _ _ _ _ _ _ _ _ (by decide) (by decide) (m458.into [(5, 303), (6, 304), (7, 305)] (by decide) rfl)) ?_
     rintro e w459 ⟨W, q1, rfl, hm459⟩
     have mx459 := m458.back hm459 [(101, 1), (102, 2), (103, 3), (104, 4), (105, 5), (106, 6), (107, 7), (108, 8)] (by decide); clear hm459 m458
     have m459 : MemOk _ _ [(101, _), (102, _), (103, _), (104, _), (105, _), (106, _), (107, _), (108, _), (1, _), (2, _), (3, _), (4, _), (5, _), (6, _), (7, _), (8, _), (50, _), (51, _)] _ := mx459.only [101, 102, 103, 104, 105, 106, 107, 108, 1, 2, 3, 4, 5, 6, 7, 8, 50, 51]; clear mx459
     refine ⟨_, rfl, ?_⟩; clear Hz Az; intro Az Hz
     refine hK _ _ ?_; clear hK K
     refine goB hP446 [6, 7] 2 63 255 Hz (.assign rfl <| .assign rfl <| .nil) ?_
     clear Hz Az; intro Az Hz
     refine wpAnyE_done (by kernel_rfl) ?_ _
     show K4 _ _
     exact hC4 _ _ ⟨_, _, _, _, Hz.only [1, 2, 8, 9, 10], m459.only [101, 102, 103, 104, 105, 106, 107, 108, 1, 2, 3, 4, 5, 6, 7, 8]⟩
    ·
      clear Hz m11
      rintro Az w16 ⟨R, W, p1, q1, Hz, m16⟩
      refine hK4 _ _ ?_; clear hK4; try clear K4
      refine regS Hz (.assign rfl <| .nil) ?_
      clear Hz Az; intro Az Hz
      refine wp_seq_k (fun K5 hK5 => ?_)
      refine regS Hz (.assign rfl <| .nil) ?_
      clear Hz Az; intro Az Hz
      refine wp_block ?_
      refine wp_loop_ghost (fun g a w => ∃ (k : Nat) (R W : Nat) (s v : RS) (p9 q9 : RP) (vl : List (Int × Int)) (pv : Option Addr) (cv : Nat), k ≤ ls.length ∧ g = ls.length - k ∧ VS (12 * k) (12 * k) s ∧ VS (12 * k) (12 * k) v ∧ s.x.id = ((q % 3 : Nat) : Int) ∧ v.x.id = ((q % 3 : Nat) : Int) ∧ VI vl s ∧ vl.length ≤ 13 * k ∧ Has 157 [(1, .slice pl (ls.map f5).length cl), (2, .int .u8 (u : Nat)), (8, .int .i64 ((q % 3 : Nat) : Int)), (9, .pointer (some ⟨R, 0, none⟩)), (10, .pointer (some ⟨W, 0, none⟩)), (11, .slice pv (vl.map hdD).length cv), (12, .int .i64 (k : Nat))] a ∧ MemOk (cx (fun _ => False) w0) w0 ((60, .seg (.slice pv (vl.map hdD).length cv) 25 2 (vl.map hdD)) :: rwL W (clrS v) (nilP q9) (rfM R (clrS s) (nilP p9))) w) (ls.length) ?_ ?_
      · have mz := m16.nilS 60 25 2
        exact ⟨0, R, W, V0 ((q % 3 : Nat) : Int), V0 ((q % 3 : Nat) : Int), p1, q1, [], none, 0, Nat.zero_le _, rfl, V0_is hme, V0_is hme, V0_id hme, V0_id hme, VI.nil _, Nat.le_refl 0, Hz.only [1, 2, 8, 9, 10, 11, 12], mz.only [60, 101, 102, 103, 104, 105, 106, 107, 108, 1, 2, 3, 4, 5, 6, 7, 8]⟩
      ·
       clear Hz m16
       rintro g Az w19 ⟨k, R, W, s, v, p9, q9, vl, pv, cv, hkl, hg, hs, hv9, hid, hiv, hvi, hvn, Hz, m19⟩
       refine wp_seq_k (fun K6 hK6 => ?_)
       refine regS Hz (.move rfl <| .move rfl <| .len rfl Tryz.underlying22 <| .lss rfl rfl <| .nil) ?_
       clear Hz Az; intro Az Hz
       refine bool_cases Hz (t := 43) rfl ?_ ?_
       ·
        clear Hz; intro hb24 Hz
        try simp only [Q1x, Q2x, Q3x, Q4x, Q5x, Q6x, Q7x, Q8x, Q9x, Q0x, Qax, Qbx] at hb24
        have hk : k < ls.length := by rw [List.length_map] at hb24; omega
        obtain ⟨⟨x0, x1, x2, x3, x4⟩, hv⟩ : ∃ x, ls[k]? = some x := ⟨_, List.getElem?_eq_getElem hk⟩
        obtain ⟨hx0, hx1, hx2, hx3, hx4⟩ : (0 ≤ x0 ∧ x0 ≤ 255) ∧ (0 ≤ x1 ∧ x1 ≤ 255) ∧ (0 ≤ x2 ∧ x2 ≤ 255) ∧ (0 ≤ x3 ∧ x3 ≤ 255) ∧ 0 ≤ x4 ∧ x4 ≤ 255 := hls _ (List.mem_of_getElem? hv)
        refine wp_cond_true (Hz.ev (x := .tmp 43) rfl) ?_
        refine wp_skip ?_
        refine hK6 _ _ ?_; clear hK6; try clear K6
        refine wp_seq_k (fun K7 hK7 => ?_)
        refine wp_block ?_
        refine wp_seq_k (fun K8 hK8 => ?_)
        refine cutF (fun (hC8 : ∀ (a : Act) (w : World), (∃ (R W : Nat) (s v : RS) (p9 q9 : RP), VS (12 * k) (12 * k) s ∧ VS (12 * k) (12 * k) v ∧ s.x.id = ((q % 3 : Nat) : Int) ∧ v.x.id = ((q % 3 : Nat) : Int) ∧ VI vl s ∧ Has 157 [(1, .slice pl (ls.map f5).length cl), (2, .int .u8 (u : Nat)), (8, .int .i64 ((q % 3 : Nat) : Int)), (9, .pointer (some ⟨R, 0, none⟩)), (10, .pointer (some ⟨W, 0, none⟩)), (11, .slice pv (vl.map hdD).length cv), (12, .int .i64 (k : Nat))] a ∧ MemOk (cx (fun _ => False) w0) w0 ((60, .seg (.slice pv (vl.map hdD).length cv) 25 2 (vl.map hdD)) :: rwL W (clrS v) (nilP q9) (rfM R (clrS s) (nilP p9))) w) → K8 a w) => ?_) ?_
        ·
         refine regS Hz (.move rfl <| .move rfl <| .rem rfl rfl (r := ((u % 40 : Nat) : Int)) (by omega) (by rw [Int.tmod_eq_emod_of_nonneg (by omega)]; omega) <| .conv rfl Tryz.underlying5 Tryz.underlying3 (r := ((u % 40 : Nat) : Int)) (IntWalk.i64_in _ (by omega)) <| .eql rfl rfl <| .nil) ?_
         clear Hz Az; intro Az Hz
         refine bool_cases Hz (t := 50) rfl ?_ ?_
         ·
          clear Hz; intro hb416 Hz
          try simp only [Q1x, Q2x, Q3x, Q4x, Q5x, Q6x, Q7x, Q8x, Q9x, Q0x, Qax, Qbx] at hb416
          have hlb := hs.l (by omega)
          have hq1 := hlb.b
          have hq2 : s.cf.length ≤ 900 := hlb.c
          have hq3 : s.bd.length ≤ 100000 := hlb.d
          have hq4 : s.es.length ≤ 100000 := hlb.n
          have hq5 : EntsOk s.es := hlb.ents
          refine wp_cond_true (Hz.ev (x := .tmp 50) rfl) ?_
          replace Hz : Has 157 [(1, _), (2, _), (8, _), (9, _), (10, _), (11, _), (12, _), (50, _)] Az := Hz.only [1, 2, 8, 9, 10, 11, 12, 50]
          refine wp_seq_k (fun K34 hK34 => ?_)
          refine wp_region_lit ?_
          refine goCh Hz (.move rfl .nil) ?_
          clear Hz Az; intro Az Hz
          refine wpList_plain rfl (fun K hK => ?_)
          refine e_call Hz Tryz.func20 rfl rfl rfl rfl (rImage_s R (clrS s) (nilP p9) _ (rfM_is (clrS s) (nilP p9) (m19.into [(1, 1), (2, 2), (3, 3), (4, 4), (5, 5), (6, 6), (7, 7), (8, 8)] (by decide) rfl)) (hs.clr.l (by omega))) ?_
          rintro e w420 ⟨qa420, ca420, qb420, cb420, qc420, cc420, rfl, hx420, hy420, hz420, hb420⟩
          have m421 := m19.callF3 500 501 502 rfl rfl rfl hb420 hx420 hy420 hz420
          clear m19
          clear hb420 hx420 hy420 hz420
          refine ⟨_, rfl, ?_⟩; clear Hz Az; intro Az Hz
          refine hK _ _ ?_; clear hK K
          refine wpList_plain rfl (fun K hK => ?_)
          refine e_alloc Hz m421 503 zc32rv rfl ?_
          clear Hz Az m421; intro g423 Az w424 Hz m424 hB424 hg424
          clear hB424 hg424
          refine hK _ _ ?_; clear hK K
          refine wpList_plain rfl (fun K hK => ?_)
          refine e_storeW Hz m424 503 rfl rfl rfl rfl rfl sz32rv ?_
          clear m424; intro w425 m425 hB425
          clear hB425
          refine hK _ _ ?_; clear hK K
          refine wpList_nil ?_
          refine hK34 _ _ ?_; clear hK34; try clear K34
          have m426 : MemOk _ _ [(1, _), (2, _), (3, _), (4, _), (5, _), (6, _), (7, _), (8, _), (60, _), (101, _), (102, _), (103, _), (104, _), (105, _), (106, _), (107, _), (108, _), (500, _), (501, _), (502, _), (503, _)] _ := m425.only [1, 2, 3, 4, 5, 6, 7, 8, 60, 101, 102, 103, 104, 105, 106, 107, 108, 500, 501, 502, 503]; clear m425
          refine region_p 5 (B := [(503, _)]) (m426.to ⟨il, trivial⟩) m426 (by kernel_rfl) (fun w427 hP427 m427 => ?_); clear m426
          refine goR hP427 [0, 1, 3, 4] [1, 4] 4 0 27 Hz (m427.to ⟨il, trivial⟩) (.move rfl <| .loadBR hh (i := 503) rfl rfl Tryz.underlying32 rfl sz32rv (by simp) (by dsimp only [List.drop, List.take] <;> rfl) <| .move rfl <| .loadBR hh (i := 503) rfl rfl Tryz.underlying32 rfl sz32rv (by simp) (by dsimp only [List.drop, List.take] <;> rfl) <| .nil) ?_
          clear Hz Az; intro Az Hz
          have m432 := m427.dat 504 rfl (m427.rd (i := 500) rfl); clear m427
          have m433 := m432.dat 505 rfl (m432.rd (i := 501) rfl); clear m432
          have m434 := m433.dat 506 rfl (m433.rd (i := 502) rfl); clear m433
          refine stepE_only 2 rfl (by kernel_rfl) rfl (fun K hK => ?_)
          refine e_call Hz Tryz.func11 rfl rfl rfl rfl (rNew_s _ ((q % 3 : Nat) : Int) 1 s.x.te s.x.vo s.bi s.bt s.cf s.bd s.es _ _ _ _ _ _ _ _ hq1 hq2 hq3 hq4 hq5 (m434.into [(5, 504), (6, 505), (7, 506)] (by decide) rfl)) ?_
          rintro e w435 ⟨R2, p2, rfl, hm435⟩
          have mx435 := m434.back hm435 [(301, 1), (302, 2), (303, 3), (304, 4), (305, 5), (306, 6), (307, 7), (308, 8)] (by decide); clear hm435 m434
          have m435 : MemOk _ _ [(301, _), (302, _), (303, _), (304, _), (305, _), (306, _), (307, _), (308, _), (1, _), (2, _), (3, _), (4, _), (5, _), (6, _), (7, _), (8, _), (60, _), (101, _), (102, _), (103, _), (104, _), (105, _), (106, _), (107, _), (108, _), (500, _), (501, _), (502, _), (503, _)] _ := mx435.only [301, 302, 303, 304, 305, 306, 307, 308, 1, 2, 3, 4, 5, 6, 7, 8, 60, 101, 102, 103, 104, 105, 106, 107, 108, 500, 501, 502, 503]; clear mx435
          refine ⟨_, rfl, ?_⟩; clear Hz Az; intro Az Hz
          refine hK _ _ (m435.to ⟨il, trivial⟩) ?_; clear hK K
          have m437 := m435.dat 507 rfl (m435.rd (i := 500) rfl); clear m435
          have m438 := m437.dat 508 rfl (m437.rd (i := 501) rfl); clear m437
          have m439 := m438.dat 509 rfl (m438.rd (i := 502) rfl); clear m438
          refine stepE_end 5 rfl (by kernel_rfl) rfl (by rfl) (fun K hK => ?_)
          refine e_call Hz Tryz.func12 rfl rfl rfl rfl (wNew_s _ ((q % 3 : Nat) : Int) 1 s.x.te s.x.vo s.bi s.bt s.cf s.bd s.es _ _ _ _ _ _ _ _ hq1 hq4 (m439.into [(5, 507), (6, 508), (7, 509)] (by decide) rfl)) ?_
          rintro e w440 ⟨W2, q2, rfl, hm440⟩
          have mx440 := m439.back hm440 [(401, 1), (402, 2), (403, 3), (404, 4), (405, 5), (406, 6), (407, 7), (408, 8)] (by decide); clear hm440 m439
          have m440 : MemOk _ _ [(401, _), (402, _), (403, _), (404, _), (405, _), (406, _), (407, _), (408, _), (1, _), (2, _), (3, _), (4, _), (5, _), (6, _), (7, _), (8, _), (60, _), (101, _), (102, _), (103, _), (104, _), (105, _), (106, _), (107, _), (108, _), (301, _), (302, _), (303, _), (304, _), (305, _), (306, _), (307, _), (308, _), (500, _), (501, _), (502, _), (503, _)] _ := mx440.only [401, 402, 403, 404, 405, 406, 407, 408, 1, 2, 3, 4, 5, 6, 7, 8, 60, 101, 102, 103, 104, 105, 106, 107, 108, 301, 302, 303, 304, 305, 306, 307, 308, 500, 501, 502, 503]; clear mx440
          refine ⟨_, rfl, ?_⟩; clear Hz Az; intro Az Hz
          refine hK _ _ ?_; clear hK K
          refine goB hP427 [6, 7] 2 63 255 Hz (.assign rfl <| .assign rfl <| .nil) ?_
          clear Hz Az; intro Az Hz
          refine wpAnyE_done (by kernel_rfl) ?_ _
          show K8 _ _
          exact hC8 _ _ ⟨R2, W2, (newS ((q % 3 : Nat) : Int) 1 s.x.te s.x.vo s.bi s.bt s.cf s.bd s.es), (newS ((q % 3 : Nat) : Int) 1 s.x.te s.x.vo s.bi s.bt s.cf s.bd s.es), p2, q2, hs.anew hme, hs.anew hme, (by show min (max ((q % 3 : Nat) : Int) 0) 6 = ((q % 3 : Nat) : Int); omega), (by show min (max ((q % 3 : Nat) : Int) 0) 6 = ((q % 3 : Nat) : Int); omega), hvi.step (HS.same rfl rfl), Hz.only [1, 2, 8, 9, 10, 11, 12], m440.ren [(60, 60), (101, 401), (102, 402), (103, 403), (104, 404), (105, 405), (106, 406), (107, 407), (108, 408), (1, 301), (2, 302), (3, 303), (4, 304), (5, 305), (6, 306), (7, 307), (8, 308)] (by decide)⟩
         ·
          clear Hz; intro hb416 Hz
          try simp only [Q1x, Q2x, Q3x, Q4x, Q5x, Q6x, Q7x, Q8x, Q9x, Q0x, Qax, Qbx] at hb416
          refine wp_cond_false (Hz.ev (x := .tmp 50) rfl) ?_
          refine wp_skip ?_
          show K8 _ _
          exact hC8 _ _ ⟨R, W, s, v, p9, q9, hs, hv9, hid, hiv, hvi, Hz.only [1, 2, 8, 9, 10, 11, 12], m19.only [60, 101, 102, 103, 104, 105, 106, 107, 108, 1, 2, 3, 4, 5, 6, 7, 8]⟩
        ·
          clear Hz m19
          rintro Az w25 ⟨R, W, s, v, p9, q9, hs, hv9, hid, hiv, hvi, Hz, m25⟩
          refine hK8 _ _ ?_; clear hK8; try clear K8
          refine wp_seq_k (fun K9 hK9 => ?_)
          refine wp_region_lit ?_
          refine goCh Hz (.move rfl <| .move rfl <| .nil) ?_
          clear Hz Az; intro Az Hz
          obtain ⟨gx31, ox31, vx31, hp31, hl31, hR31, hrg31⟩ := hL.extA (k) (r := [.v (.int .u8 x0), .v (.int .u8 x1), .v (.int .u8 x2), .v (.int .u8 x3), .v (.int .u8 x4)]) (by rw [List.getElem?_map, hv]; rfl)
          cases hp31; clear hl31
          rcases hR31 with _ | ⟨hd31_0, _ | ⟨hd31_1, _ | ⟨hd31_2, _ | ⟨hd31_3, _ | ⟨hd31_4, _ | _⟩⟩⟩⟩⟩
          obtain rfl := hd31_0.v_out
          clear hd31_0
          obtain rfl := hd31_1.v_out
          clear hd31_1
          obtain rfl := hd31_2.v_out
          clear hd31_2
          obtain rfl := hd31_3.v_out
          clear hd31_3
          obtain rfl := hd31_4.v_out
          clear hd31_4
          refine goCh Hz (.c rfl (fun _ h_ => y_idx h_ rfl rfl Tryz.underlying22 sz38rv (k) rfl (by rw [List.length_map]; exact hk)) <| .loadAt (hrg31 m25 rfl) rfl Tryz.underlying38 rfl sz38rv <| .nil) ?_
          clear Hz Az; intro Az Hz
          refine wpList_plain rfl (fun K hK => ?_)
          refine e_alloc Hz m25 600 zc38rv rfl ?_
          clear Hz Az m25; intro g34 Az w35 Hz m35 hB35 hg35
          clear hB35 hg35
          refine hK _ _ ?_; clear hK K
          refine wpList_plain rfl (fun K hK => ?_)
          refine e_storeW Hz m35 600 rfl rfl rfl rfl rfl sz38rv ?_
          clear m35; intro w36 m36 hB36
          clear hB36
          refine hK _ _ ?_; clear hK K
          refine wpList_nil ?_
          refine hK9 _ _ ?_; clear hK9; try clear K9
          refine wp_seq_k (fun K10 hK10 => ?_)
          refine wp_region_lit ?_
          refine wpList_plain rfl (fun K hK => ?_)
          refine e_alloc Hz m36 601 zc46rv rfl ?_
          clear Hz Az m36; intro g37 Az w38 Hz m38 hB38 hg38
          clear hB38 hg38
          refine hK _ _ ?_; clear hK K
          refine wpList_nil ?_
          refine hK10 _ _ ?_; clear hK10; try clear K10
          refine wp_seq_k (fun K11 hK11 => ?_)
          refine cutF (fun (hC11 : ∀ (a : Act) (w : World), (∃ (s v : RS) (p9 q9 : RP) (vl : List (Int × Int)) (pv : Option Addr) (cv : Nat), VS (12 * (k + 1)) (12 * (k + 1)) s ∧ VS (12 * (k + 1)) (12 * (k + 1)) v ∧ s.x.id = ((q % 3 : Nat) : Int) ∧ v.x.id = ((q % 3 : Nat) : Int) ∧ VI vl s ∧ vl.length ≤ 13 * k + 12 ∧ Has 157 [(1, .slice (some ⟨gx31, ox31, none⟩) (ls.map f5).length cl), (2, .int .u8 (u : Nat)), (8, .int .i64 ((q % 3 : Nat) : Int)), (9, .pointer (some ⟨R, 0, none⟩)), (10, .pointer (some ⟨W, 0, none⟩)), (11, .slice pv (vl.map hdD).length cv), (12, .int .i64 (k : Nat))] a ∧ MemOk (cx (fun _ => False) w0) w0 ((60, .seg (.slice pv (vl.map hdD).length cv) 25 2 (vl.map hdD)) :: rwL W (clrS v) (nilP q9) (rfM R (clrS s) (nilP p9))) w) → K11 a w) => ?_) ?_
          ·
           refine regS Hz (.c rfl (fun _ h_ => y_idxA h_ rfl rfl Tryz.underlying38 sz5rv 0 rfl (by decide) (off := 0) rfl) <| .loadB1 m38 (i := 600) rfl rfl rfl Tryz.underlying5 rfl <| .rem rfl rfl (r := x0 % 4) (by omega) (Int.tmod_eq_emod_of_nonneg (by omega)) <| .eql rfl rfl <| .nil) ?_
           clear Hz Az; intro Az Hz
           refine bool_cases Hz (t := 66) rfl ?_ ?_
           ·
            clear Hz; intro hb72 Hz
            try simp only [Q1x, Q2x, Q3x, Q4x, Q5x, Q6x, Q7x, Q8x, Q9x, Q0x, Qax, Qbx] at hb72
            obtain ⟨n1, hn1⟩ : ∃ n : Nat, (n : Int) = x1 % 12 := ⟨(x1 % 12).toNat, by omega⟩
            refine wp_cond_true (Hz.ev (x := .tmp 66) rfl) ?_
            replace Hz : Has 157 [(1, _), (2, _), (8, _), (9, _), (10, _), (11, _), (12, _), (14, _), (15, _)] Az := Hz.only [1, 2, 8, 9, 10, 11, 12, 14, 15]
            refine regS Hz (.assign rfl <| .nil) ?_
            clear Hz Az; intro Az Hz
            refine wp_block ?_
            refine wp_loop_ghost (fun g a w => ∃ (j : Nat) (s v : RS) (p9 q9 : RP) (vl : List (Int × Int)) (pv : Option Addr) (cv Ba Bo : Nat) (a0 a1 : Value) (b0 : Bool), j ≤ n1 + 1 ∧ g = n1 + 1 - j ∧ VS (12 * k + j) (12 * k + j) s ∧ VS (12 * k + j) (12 * k + j) v ∧ s.x.id = ((q % 3 : Nat) : Int) ∧ v.x.id = ((q % 3 : Nat) : Int) ∧ VI vl s ∧ vl.length ≤ 13 * k + j ∧ Has 157 [(1, .slice (some ⟨gx31, ox31, none⟩) (ls.map f5).length cl), (2, .int .u8 (u : Nat)), (8, .int .i64 ((q % 3 : Nat) : Int)), (9, .pointer (some ⟨R, 0, none⟩)), (10, .pointer (some ⟨W, 0, none⟩)), (11, .slice pv (vl.map hdD).length cv), (12, .int .i64 (k : Nat)), (14, .pointer (some ⟨Ba, 0, none⟩)), (15, .pointer (some ⟨Bo, 0, none⟩)), (16, .int .i64 (j : Nat))] a ∧ MemOk (cx (fun _ => False) w0) w0 ((61, .box Ba 38 [.int .u8 x0, .int .u8 x1, .int .u8 x2, .int .u8 x3, .int .u8 x4]) :: (62, .box Bo 46 [a0, a1, .bool b0]) :: (60, .seg (.slice pv (vl.map hdD).length cv) 25 2 (vl.map hdD)) :: rwL W (clrS v) (nilP q9) (rfM R (clrS s) (nilP p9))) w) ((n1 + 1)) ?_ ?_
            · exact ⟨0, s, v, p9, q9, vl, pv, cv, _, _, _, _, _, Nat.zero_le _, rfl, hs, hv9, hid, hiv, hvi, hvn, Hz.only [1, 2, 8, 9, 10, 11, 12, 14, 15, 16], m38.ren [(61, 600), (62, 601), (60, 60), (101, 101), (102, 102), (103, 103), (104, 104), (105, 105), (106, 106), (107, 107), (108, 108), (1, 1), (2, 2), (3, 3), (4, 4), (5, 5), (6, 6), (7, 7), (8, 8)] (by decide)⟩
            ·
             clear Hz m38
             rintro g Az w75 ⟨j, s, v, p9, q9, vl, pv, cv, Ba, Bo, a0, a1, b0, hjl, hjg, hs, hv9, hid, hiv, hvi, hvn, Hz, m75⟩
             refine wp_seq_k (fun K15 hK15 => ?_)
             refine regS Hz (.move rfl <| .c rfl (fun _ h_ => y_idxA h_ rfl rfl Tryz.underlying38 sz5rv 1 rfl (by decide) (off := 1) rfl) <| .loadB1 m75 (i := 61) rfl rfl rfl Tryz.underlying5 rfl <| .rem rfl rfl (r := (n1 : Int)) (by omega) (by rw [hn1]; exact Int.tmod_eq_emod_of_nonneg (by omega)) <| .conv rfl Tryz.underlying5 Tryz.underlying3 (r := (n1 : Int)) (IntWalk.i64_in _ (by omega)) <| .leq rfl rfl <| .nil) ?_
             clear Hz Az; intro Az Hz
             refine bool_cases Hz (t := 72) rfl ?_ ?_
             ·
              clear Hz; intro hb82 Hz
              try simp only [Q1x, Q2x, Q3x, Q4x, Q5x, Q6x, Q7x, Q8x, Q9x, Q0x, Qax, Qbx] at hb82
              have hj : j < n1 + 1 := by omega
              refine wp_cond_true (Hz.ev (x := .tmp 72) rfl) ?_
              refine wp_skip ?_
              refine hK15 _ _ ?_; clear hK15; try clear K15
              refine wp_seq_k (fun K16 hK16 => ?_)
              refine wp_block ?_
              replace Hz : Has 157 [(1, _), (2, _), (8, _), (9, _), (10, _), (11, _), (12, _), (14, _), (15, _), (16, _)] Az := Hz.only [1, 2, 8, 9, 10, 11, 12, 14, 15, 16]
              refine wp_seq_k (fun K17 hK17 => ?_)
              refine wp_region_lit ?_
              refine goCh Hz (.move rfl .nil) ?_
              clear Hz Az; intro Az Hz
              refine wpList_plain rfl (fun K hK => ?_)
              refine e_call Hz Tryz.func18 rfl rfl rfl rfl (pTick_v _ R s p9 _ hs (by omega) (by omega) (m75.into [(1, 1), (2, 2), (3, 3), (4, 4), (5, 5), (6, 6), (7, 7), (8, 8)] (by decide) rfl)) ?_
              rintro e w86 ⟨s2, p2, o2, rfl, hs2, hh2, hi2, hm86⟩
              have mx86 := m75.back hm86 [(1, 1), (2, 2), (3, 3), (4, 4), (5, 5), (6, 6), (7, 7), (8, 8), (11, 11), (12, 12)] (by decide); clear hm86 m75
              have m86 : MemOk _ _ [(1, _), (2, _), (3, _), (4, _), (5, _), (6, _), (7, _), (8, _), (11, _), (12, _), (60, _), (61, _), (62, _), (101, _), (102, _), (103, _), (104, _), (105, _), (106, _), (107, _), (108, _)] _ := mx86.only [1, 2, 3, 4, 5, 6, 7, 8, 11, 12, 60, 61, 62, 101, 102, 103, 104, 105, 106, 107, 108]; clear mx86
              refine ⟨_, rfl, ?_⟩; clear Hz Az; intro Az Hz
              refine hK _ _ ?_; clear hK K
              refine wpList_plain rfl (fun K hK => ?_)
              refine e_storeW Hz m86 62 rfl rfl rfl rfl rfl sz46rv ?_
              clear m86; intro w88 m88 hB88
              clear hB88
              refine hK _ _ ?_; clear hK K
              refine wpList_nil ?_
              refine hK17 _ _ ?_; clear hK17; try clear K17
              refine wp_seq_k (fun K18 hK18 => ?_)
              refine wp_region_lit ?_
              refine goCh Hz (.move rfl .nil) ?_
              clear Hz Az; intro Az Hz
              refine wpList_plain rfl (fun K hK => ?_)
              refine e_call Hz Tryz.func19 rfl rfl rfl rfl (wTick_v _ W v q9 _ hv9 (by omega) (by omega) (m88.into [(1, 101), (2, 102), (3, 103), (4, 104), (5, 105), (6, 106), (7, 107), (8, 108)] (by decide) rfl)) ?_
              rintro e w91 ⟨v2, q2, r2, rfl, hvs2, hj2, hm91⟩
              have mx91 := m88.back hm91 [(101, 1), (102, 2), (103, 3), (104, 4), (105, 5), (106, 6), (107, 7), (108, 8), (111, 11), (112, 12)] (by decide); clear hm91 m88
              have m91 : MemOk _ _ [(101, _), (102, _), (103, _), (104, _), (105, _), (106, _), (107, _), (108, _), (111, _), (112, _), (1, _), (2, _), (3, _), (4, _), (5, _), (6, _), (7, _), (8, _), (11, _), (12, _), (60, _), (61, _), (62, _)] _ := mx91.only [101, 102, 103, 104, 105, 106, 107, 108, 111, 112, 1, 2, 3, 4, 5, 6, 7, 8, 11, 12, 60, 61, 62]; clear mx91
              refine ⟨_, rfl, ?_⟩; clear Hz Az; intro Az Hz
              refine hK _ _ ?_; clear hK K
              refine wpList_nil ?_
              refine hK18 _ _ ?_; clear hK18; try clear K18
              refine wp_seq_k (fun K19 hK19 => ?_)
              refine wp_region_lit ?_
              refine goCh Hz (.move rfl .nil) ?_
              clear Hz Az; intro Az Hz
              refine wpList_plain rfl (fun K hK => ?_)
              refine e_call Hz Tryz.func20 rfl rfl rfl rfl (rImage_s R (clrS s2) (nilP p2) _ (rfM_is (clrS s2) (nilP p2) (m91.into [(1, 1), (2, 2), (3, 3), (4, 4), (5, 5), (6, 6), (7, 7), (8, 8)] (by decide) rfl)) (hs2.clr.l (by omega))) ?_
              rintro e w95 ⟨qa95, ca95, qb95, cb95, qc95, cc95, rfl, hx95, hy95, hz95, hb95⟩
              have m96 := m91.callF3 700 701 702 rfl rfl rfl hb95 hx95 hy95 hz95
              clear m91
              clear hb95 hx95 hy95 hz95
              refine ⟨_, rfl, ?_⟩; clear Hz Az; intro Az Hz
              refine hK _ _ ?_; clear hK K
              refine goCh Hz (.c rfl (fun _ h_ => y_fieldS h_ rfl Tryz.underlying32 rfl (td := _) Tryz.underlying25 rfl sz25rv (by dsimp only [List.drop, List.take] <;> rfl)) .nil) ?_
              clear Hz Az; intro Az Hz
              refine wpList_plain rfl (fun K hK => ?_)
              refine e_alloc Hz m96 703 zc25rv rfl ?_
              clear Hz Az m96; intro g99 Az w100 Hz m100 hB100 hg100
              clear hB100 hg100
              refine hK _ _ ?_; clear hK K
              refine wpList_plain rfl (fun K hK => ?_)
              refine e_storeW Hz m100 703 rfl rfl rfl rfl rfl sz25rv ?_
              clear m100; intro w101 m101 hB101
              clear hB101
              refine hK _ _ ?_; clear hK K
              refine wpList_nil ?_
              refine hK19 _ _ ?_; clear hK19; try clear K19
              refine wp_seq_k (fun K20 hK20 => ?_)
              replace Hz : Has 157 [(1, _), (2, _), (8, _), (9, _), (10, _), (11, _), (12, _), (14, _), (15, _), (16, _), (17, _)] Az := Hz.only [1, 2, 8, 9, 10, 11, 12, 14, 15, 16, 17]
              refine wp_seq_k (fun K21 hK21 => ?_)
              refine wp_region_lit ?_
              refine goCh Hz (.move rfl <| .loadBR m101 (i := 703) rfl rfl Tryz.underlying25 rfl sz25rv (by simp) (by dsimp only [List.drop, List.take] <;> rfl) <| .nil) ?_
              clear Hz Az; intro Az Hz
              refine wpList_plain rfl (fun K hK => ?_)
              refine e_call Hz Tryz.func21 rfl rfl rfl rfl (twice_b vl s2.x.te s2.x.vo _ _ _ (by omega) (hvi.step hh2) ((m101.ok 60 _ rfl : Res.ok _ _ _ _ (.seg _ _ _ _)).1.rd (S' := fun _ => True) (fun _ _ _ => trivial) (fun _ _ => trivial))) ?_
              rintro e w107 ⟨rfl, hb107⟩
              have m108 := m101.later hb107
              clear m101
              clear hb107
              refine ⟨_, rfl, ?_⟩; clear Hz Az; intro Az Hz
              refine hK _ _ ?_; clear hK K
              refine wpList_nil ?_
              refine hK21 _ _ ?_; clear hK21; try clear K21
              refine wp_cond_false (Hz.ev (x := .tmp 84) rfl) ?_
              refine wp_skip ?_
              refine hK20 _ _ ?_; clear hK20; try clear K20
              refine wp_region_lit ?_
              refine goCh Hz (.move rfl <| .loadBR m108 (i := 703) rfl rfl Tryz.underlying25 rfl sz25rv (by simp) (by dsimp only [List.drop, List.take] <;> rfl) <| .nil) ?_
              clear Hz Az; intro Az Hz
              refine wpList_plain rfl (fun K hK => ?_)
              refine e_litR Hz m108 704 (mm := 2) rfl (.cons rfl rfl (.cons (.v _) (.cons (.v _) .nil)) <| .nil) Tryz.underlying51 inf25rv rfl rfl rfl rfl rfl ?_
              clear Hz Az m108; intro g112 Az w113 Hz m113
              refine hK _ _ ?_; clear hK K
              have m115 := m113.freezeR 704 rfl; clear m113
              refine wpList_plain rfl (fun K hK => ?_)
              refine e_appSA Hz m115 60 rfl rfl rfl (m115.rd (i := 704) rfl).cells Tryz.underlying51 inf25rv rfl rfl (by decide) (by simp; omega) rfl ?_
              clear Hz Az m115; intro p114 c114 Az w116 Hz m116
              refine hK _ _ ?_; clear hK K
              refine goCh Hz (.assign rfl .nil) ?_
              clear Hz Az; intro Az Hz
              refine wpList_nil ?_
              refine hK16 _ _ ?_; clear hK16; try clear K16
              replace Hz : Has 157 [(1, _), (2, _), (8, _), (9, _), (10, _), (11, _), (12, _), (14, _), (15, _), (16, _)] Az := Hz.only [1, 2, 8, 9, 10, 11, 12, 14, 15, 16]
              refine wp_region_lit ?_
              refine goCh Hz (.move rfl <| .add rfl rfl (r := ((j + 1 : Nat) : Int)) (by rw [IntWalk.i64_in _ (by omega)]; omega) <| .assign rfl <| .nil) ?_
              clear Hz Az; intro Az Hz
              refine wpList_nil ?_
              show ∃ n', n' < _ ∧ _
              have hE : vl.map hdD ++ [[.v (.int .i64 s2.x.te), .v (.int .i64 s2.x.vo)]] = (vl ++ [(s2.x.te, s2.x.vo)]).map hdD := by rw [List.map_append]; rfl
              rw [hE] at m116 Hz
              exact ⟨n1 + 1 - (j + 1), by omega, j + 1, s2, v2, p2, q2, vl ++ [(s2.x.te, s2.x.vo)], _, _, _, _, _, _, _, by omega, rfl, hs2, hvs2, hi2.trans hid, hj2.trans hiv, (hvi.step hh2).push, by rw [List.length_append, List.length_singleton]; omega, Hz.only [1, 2, 8, 9, 10, 11, 12, 14, 15, 16], m116.only [61, 62, 60, 101, 102, 103, 104, 105, 106, 107, 108, 1, 2, 3, 4, 5, 6, 7, 8]⟩
             ·
              clear Hz; intro hb82 Hz
              try simp only [Q1x, Q2x, Q3x, Q4x, Q5x, Q6x, Q7x, Q8x, Q9x, Q0x, Qax, Qbx] at hb82
              obtain rfl : j = n1 + 1 := by omega
              refine wp_cond_false (Hz.ev (x := .tmp 72) rfl) ?_
              refine wp_exit ?_
              show K11 _ _
              exact hC11 _ _ ⟨s, v, p9, q9, vl, pv, cv, hs.mono (by omega) (by omega), hv9.mono (by omega) (by omega), hid, hiv, hvi, by omega, Hz.only [1, 2, 8, 9, 10, 11, 12], m75.only [60, 101, 102, 103, 104, 105, 106, 107, 108, 1, 2, 3, 4, 5, 6, 7, 8]⟩
           ·
            clear Hz; intro hb72 Hz
            try simp only [Q1x, Q2x, Q3x, Q4x, Q5x, Q6x, Q7x, Q8x, Q9x, Q0x, Qax, Qbx] at hb72
            refine wp_cond_false (Hz.ev (x := .tmp 66) rfl) ?_
            refine wp_seq_k (fun K22 hK22 => ?_)
            refine cutF (fun (hC22 : ∀ (a : Act) (w : World), (∃ (Bm Bo : Nat) (kd gm f t te ix lt co : Int) (ok : Bool), (kd = 3 ∨ kd = 4) ∧ gm = 1 ∧ t = ((q % 3 : Nat) : Int) ∧ te ≤ ((12 * k + 2 : Nat) : Int) ∧ Has 157 [(1, .slice (some ⟨gx31, ox31, none⟩) (ls.map f5).length cl), (2, .int .u8 (u : Nat)), (8, .int .i64 ((q % 3 : Nat) : Int)), (9, .pointer (some ⟨R, 0, none⟩)), (10, .pointer (some ⟨W, 0, none⟩)), (11, .slice pv (vl.map hdD).length cv), (12, .int .i64 (k : Nat)), (15, .pointer (some ⟨Bo, 0, none⟩)), (18, .pointer (some ⟨Bm, 0, none⟩))] a ∧ MemOk (cx (fun _ => False) w0) w0 ((63, .box Bm 55 [.int .i64 kd, .int .i64 gm, .int .i64 f, .int .i64 t, .int .i64 te, .int .i64 ix, .int .i64 lt, .int .i64 co, .bool ok, .slice none 0 0, .int .i64 0, .int .i64 0, .slice none 0 0, .slice none 0 0, .slice none 0 0, .int .i64 0, .int .i64 0, .int .i64 0, .int .i64 0]) :: (62, .box Bo 46 [.slice none 0 0, .slice none 0 0, .bool false]) :: (60, .seg (.slice pv (vl.map hdD).length cv) 25 2 (vl.map hdD)) :: rwL W (clrS v) (nilP q9) (rfM R (clrS s) (nilP p9))) w) → K22 a w) => ?_) ?_
            ·
             rcases (show x0 / 4 % 2 = 0 ∨ x0 / 4 % 2 = 1 by omega) with hwh | hwh
             ·
              replace Hz : Has 157 [(1, _), (2, _), (8, _), (9, _), (10, _), (11, _), (12, _), (14, _), (15, _)] Az := Hz.only [1, 2, 8, 9, 10, 11, 12, 14, 15]
              refine wp_region_lit ?_
              refine goCh Hz (.move rfl <| .c rfl (fun _ h_ => y_idxA h_ rfl rfl Tryz.underlying38 sz5rv 0 rfl (by decide) (off := 0) rfl) <| .loadB1 m38 (i := 600) rfl rfl rfl Tryz.underlying5 rfl <| .quo rfl rfl (r := x0 / 4) (by omega) (by rw [Int.tdiv_eq_ediv_of_nonneg (by omega), IntWalk.u8_in _ (by omega)]) <| .rem rfl rfl (r := 0) (by omega) (by rw [Int.tmod_eq_emod_of_nonneg (by omega)]; exact hwh) <| .add rfl rfl (r := 2) (by decide) <| .c rfl (fun _ h_ => y_idxA h_ rfl rfl Tryz.underlying38 sz5rv 1 rfl (by decide) (off := 1) rfl) <| .loadB1 m38 (i := 600) rfl rfl rfl Tryz.underlying5 rfl <| .c rfl (fun _ h_ => y_idxA h_ rfl rfl Tryz.underlying38 sz5rv 2 rfl (by decide) (off := 2) rfl) <| .loadB1 m38 (i := 600) rfl rfl rfl Tryz.underlying5 rfl <| .c rfl (fun _ h_ => y_idxA h_ rfl rfl Tryz.underlying38 sz5rv 3 rfl (by decide) (off := 3) rfl) <| .loadB1 m38 (i := 600) rfl rfl rfl Tryz.underlying5 rfl <| .c rfl (fun _ h_ => y_idxA h_ rfl rfl Tryz.underlying38 sz5rv 4 rfl (by decide) (off := 4) rfl) <| .loadB1 m38 (i := 600) rfl rfl rfl Tryz.underlying5 rfl <| .nil) ?_
              clear Hz Az; intro Az Hz
              refine wpList_plain rfl (fun K hK => ?_)
              refine e_call Hz Tryz.func22 rfl rfl rfl rfl (wMsg2_s _ W (clrS v) (nilP q9) x1 x2 x3 x4 _ (hv9.clr.ok (by omega) (by omega) (show 0 ≤ 100 by decide) (show 0 ≤ 100 by decide)) (hv9.clr.l (by omega)) (by omega) (by omega) (by omega) (by omega) (hv9.clr.tm (by omega) _) (m38.into [(1, 101), (2, 102), (3, 103), (4, 104), (5, 105), (6, 106), (7, 107), (8, 108)] (by decide) rfl)) ?_
              rintro e w386 ⟨rfl, hm386⟩
              have mx386 := m38.back hm386 [(101, 1), (102, 2), (103, 3), (104, 4), (105, 5), (106, 6), (107, 7), (108, 8)] (by decide); clear hm386 m38
              have m386 : MemOk _ _ [(101, _), (102, _), (103, _), (104, _), (105, _), (106, _), (107, _), (108, _), (1, _), (2, _), (3, _), (4, _), (5, _), (6, _), (7, _), (8, _), (60, _), (600, _), (601, _)] _ := mx386.only [101, 102, 103, 104, 105, 106, 107, 108, 1, 2, 3, 4, 5, 6, 7, 8, 60, 600, 601]; clear mx386
              refine ⟨_, rfl, ?_⟩; clear Hz Az; intro Az Hz
              refine hK _ _ ?_; clear hK K
              refine wpList_plain rfl (fun K hK => ?_)
              refine e_alloc Hz m386 602 zc55rv rfl ?_
              clear Hz Az m386; intro g388 Az w389 Hz m389 hB389 hg389
              clear hB389 hg389
              refine hK _ _ ?_; clear hK K
              refine wpList_plain rfl (fun K hK => ?_)
              refine e_storeW Hz m389 602 rfl rfl rfl rfl rfl sz55rv ?_
              clear m389; intro w390 m390 hB390
              clear hB390
              refine hK _ _ ?_; clear hK K
              refine wpList_nil ?_
              show K22 _ _
              exact hC22 _ _ ⟨_, _, _, _, _, _, _, _, _, _, _, (.inl rfl), hv9.gr, hiv, (by have := hv9.te; show max (v.x.te + x2 % 4 - 1) 0 ≤ ((12 * k + 2 : Nat) : Int); omega), Hz.only [1, 2, 8, 9, 10, 11, 12, 15, 18], m390.ren [(63, 602), (62, 601), (60, 60), (101, 101), (102, 102), (103, 103), (104, 104), (105, 105), (106, 106), (107, 107), (108, 108), (1, 1), (2, 2), (3, 3), (4, 4), (5, 5), (6, 6), (7, 7), (8, 8)] (by decide)⟩
             ·
              replace Hz : Has 157 [(1, _), (2, _), (8, _), (9, _), (10, _), (11, _), (12, _), (14, _), (15, _)] Az := Hz.only [1, 2, 8, 9, 10, 11, 12, 14, 15]
              refine wp_region_lit ?_
              refine goCh Hz (.move rfl <| .c rfl (fun _ h_ => y_idxA h_ rfl rfl Tryz.underlying38 sz5rv 0 rfl (by decide) (off := 0) rfl) <| .loadB1 m38 (i := 600) rfl rfl rfl Tryz.underlying5 rfl <| .quo rfl rfl (r := x0 / 4) (by omega) (by rw [Int.tdiv_eq_ediv_of_nonneg (by omega), IntWalk.u8_in _ (by omega)]) <| .rem rfl rfl (r := 1) (by omega) (by rw [Int.tmod_eq_emod_of_nonneg (by omega)]; exact hwh) <| .add rfl rfl (r := 3) (by decide) <| .c rfl (fun _ h_ => y_idxA h_ rfl rfl Tryz.underlying38 sz5rv 1 rfl (by decide) (off := 1) rfl) <| .loadB1 m38 (i := 600) rfl rfl rfl Tryz.underlying5 rfl <| .c rfl (fun _ h_ => y_idxA h_ rfl rfl Tryz.underlying38 sz5rv 2 rfl (by decide) (off := 2) rfl) <| .loadB1 m38 (i := 600) rfl rfl rfl Tryz.underlying5 rfl <| .c rfl (fun _ h_ => y_idxA h_ rfl rfl Tryz.underlying38 sz5rv 3 rfl (by decide) (off := 3) rfl) <| .loadB1 m38 (i := 600) rfl rfl rfl Tryz.underlying5 rfl <| .c rfl (fun _ h_ => y_idxA h_ rfl rfl Tryz.underlying38 sz5rv 4 rfl (by decide) (off := 4) rfl) <| .loadB1 m38 (i := 600) rfl rfl rfl Tryz.underlying5 rfl <| .nil) ?_
              clear Hz Az; intro Az Hz
              refine wpList_plain rfl (fun K hK => ?_)
              refine e_call Hz Tryz.func22 rfl rfl rfl rfl (wMsg3_s _ W (clrS v) (nilP q9) x1 x2 x3 x4 _ (hv9.clr.ok (by omega) (by omega) (show 0 ≤ 100 by decide) (show 0 ≤ 100 by decide)) (hv9.clr.l (by omega)) (by omega) (by omega) (by omega) (by omega) (hv9.clr.tm (by omega) _) (m38.into [(1, 101), (2, 102), (3, 103), (4, 104), (5, 105), (6, 106), (7, 107), (8, 108)] (by decide) rfl)) ?_
              rintro e w406 ⟨rfl, hm406⟩
              have mx406 := m38.back hm406 [(101, 1), (102, 2), (103, 3), (104, 4), (105, 5), (106, 6), (107, 7), (108, 8)] (by decide); clear hm406 m38
              have m406 : MemOk _ _ [(101, _), (102, _), (103, _), (104, _), (105, _), (106, _), (107, _), (108, _), (1, _), (2, _), (3, _), (4, _), (5, _), (6, _), (7, _), (8, _), (60, _), (600, _), (601, _)] _ := mx406.only [101, 102, 103, 104, 105, 106, 107, 108, 1, 2, 3, 4, 5, 6, 7, 8, 60, 600, 601]; clear mx406
              refine ⟨_, rfl, ?_⟩; clear Hz Az; intro Az Hz
              refine hK _ _ ?_; clear hK K
              refine wpList_plain rfl (fun K hK => ?_)
              refine e_alloc Hz m406 602 zc55rv rfl ?_
              clear Hz Az m406; intro g408 Az w409 Hz m409 hB409 hg409
              clear hB409 hg409
              refine hK _ _ ?_; clear hK K
              refine wpList_plain rfl (fun K hK => ?_)
              refine e_storeW Hz m409 602 rfl rfl rfl rfl rfl sz55rv ?_
              clear m409; intro w410 m410 hB410
              clear hB410
              refine hK _ _ ?_; clear hK K
              refine wpList_nil ?_
              show K22 _ _
              exact hC22 _ _ ⟨_, _, _, _, _, _, _, _, _, _, _, (.inr rfl), hv9.gr, hiv, (by have := hv9.te; show max (v.x.te + x2 % 4 - 1) 0 ≤ ((12 * k + 2 : Nat) : Int); omega), Hz.only [1, 2, 8, 9, 10, 11, 12, 15, 18], m410.ren [(63, 602), (62, 601), (60, 60), (101, 101), (102, 102), (103, 103), (104, 104), (105, 105), (106, 106), (107, 107), (108, 108), (1, 1), (2, 2), (3, 3), (4, 4), (5, 5), (6, 6), (7, 7), (8, 8)] (by decide)⟩
            ·
              clear Hz m38
              rintro Az w122 ⟨Bm, Bo, kd, gm, f, t, te, ix, lt, co, ok, hkd, hgm1, htt, hte9, Hz, m122⟩
              refine hK22 _ _ ?_; clear hK22; try clear K22
              refine wp_seq_k (fun K23 hK23 => ?_)
              rcases hkd with rfl | rfl
              ·
               refine wp_region_lit ?_
               refine goCh Hz (.move rfl <| .loadBR m122 (i := 63) rfl rfl Tryz.underlying55 rfl sz55rv (by simp) (by dsimp only [List.drop, List.take] <;> rfl) <| .nil) ?_
               clear Hz Az; intro Az Hz
               refine wpList_plain rfl (fun K hK => ?_)
               refine e_call Hz Tryz.func23 rfl rfl rfl rfl (pVote_v _ R s p9 gm f t te ix lt co ok _ (hs.mono (Nat.le_refl _) (Nat.le_add_right _ 2)) (by omega) (by omega) hgm1 (htt.trans hid.symm) hte9 (m122.into [(1, 1), (2, 2), (3, 3), (4, 4), (5, 5), (6, 6), (7, 7), (8, 8)] (by decide) rfl)) ?_
               rintro e w125 ⟨s2, p2, ⟨om, oq, ocm, ocq⟩, rfl, hs2, hh2, hg2, hml9, hi2, hm125⟩
               have mx125 := m122.back hm125 [(1, 1), (2, 2), (3, 3), (4, 4), (5, 5), (6, 6), (7, 7), (8, 8), (11, 11), (12, 12)] (by decide); clear hm125 m122
               have m125 : MemOk _ _ [(1, _), (2, _), (3, _), (4, _), (5, _), (6, _), (7, _), (8, _), (11, _), (12, _), (60, _), (62, _), (63, _), (101, _), (102, _), (103, _), (104, _), (105, _), (106, _), (107, _), (108, _)] _ := mx125.only [1, 2, 3, 4, 5, 6, 7, 8, 11, 12, 60, 62, 63, 101, 102, 103, 104, 105, 106, 107, 108]; clear mx125
               refine ⟨_, rfl, ?_⟩; clear Hz Az; intro Az Hz
               refine hK _ _ ?_; clear hK K
               have m127 := m125.freezeS 11 rfl (by intro b hb; cases hb); clear m125
               refine wpList_plain rfl (fun K hK => ?_)
               refine e_storeW Hz m127 62 rfl rfl rfl rfl rfl sz46rv ?_
               clear m127; intro w128 m128 hB128
               clear hB128
               refine hK _ _ ?_; clear hK K
               refine wpList_nil ?_
               refine hK23 _ _ ?_; clear hK23; try clear K23
               refine wp_seq_k (fun K24 hK24 => ?_)
               refine wp_region_lit ?_
               refine goCh Hz (.move rfl <| .loadBR m128 (i := 63) rfl rfl Tryz.underlying55 rfl sz55rv (by simp) (by dsimp only [List.drop, List.take] <;> rfl) <| .nil) ?_
               clear Hz Az; intro Az Hz
               refine wpList_plain rfl (fun K hK => ?_)
               refine e_call Hz Tryz.func24 rfl rfl rfl rfl (wVote_v _ W v q9 gm f t te ix lt co ok _ (hv9.mono (Nat.le_refl _) (Nat.le_add_right _ 2)) (by omega) (by omega) hgm1 (htt.trans hiv.symm) hte9 (m128.into [(1, 101), (2, 102), (3, 103), (4, 104), (5, 105), (6, 106), (7, 107), (8, 108)] (by decide) rfl)) ?_
               rintro e w133 ⟨v2, q2, r2, rfl, hvs2, hj2, hm133⟩
               have mx133 := m128.back hm133 [(101, 1), (102, 2), (103, 3), (104, 4), (105, 5), (106, 6), (107, 7), (108, 8), (111, 11), (112, 12)] (by decide); clear hm133 m128
               have m133 : MemOk _ _ [(101, _), (102, _), (103, _), (104, _), (105, _), (106, _), (107, _), (108, _), (111, _), (112, _), (1, _), (2, _), (3, _), (4, _), (5, _), (6, _), (7, _), (8, _), (11, _), (12, _), (60, _), (62, _), (63, _)] _ := mx133.only [101, 102, 103, 104, 105, 106, 107, 108, 111, 112, 1, 2, 3, 4, 5, 6, 7, 8, 11, 12, 60, 62, 63]; clear mx133
               refine ⟨_, rfl, ?_⟩; clear Hz Az; intro Az Hz
               refine hK _ _ ?_; clear hK K
               refine wpList_nil ?_
               refine hK24 _ _ ?_; clear hK24; try clear K24
               replace Hz : Has 157 [(1, _), (2, _), (8, _), (9, _), (10, _), (11, _), (12, _), (15, _)] Az := Hz.only [1, 2, 8, 9, 10, 11, 12, 15]
               refine regS Hz (.assign rfl <| .nil) ?_
               clear Hz Az; intro Az Hz
               refine wp_block ?_
               refine wp_loop_ghost (fun g a w => ∃ (j : Nat), j ≤ s2.ms.length ∧ g = s2.ms.length - j ∧ Has 157 [(1, .slice (some ⟨gx31, ox31, none⟩) (ls.map f5).length cl), (2, .int .u8 (u : Nat)), (8, .int .i64 ((q % 3 : Nat) : Int)), (9, .pointer (some ⟨R, 0, none⟩)), (10, .pointer (some ⟨W, 0, none⟩)), (11, .slice pv (vl.map hdD).length cv), (12, .int .i64 (k : Nat)), (15, .pointer (some ⟨Bo, 0, none⟩)), (19, .int .i64 (j : Nat))] a ∧ MemOk (cx (fun _ => False) w0) w0 ((62, .box Bo 46 [.slice om (s2.ms.map rmD).length ocm, .slice oq (s2.rs.map rrD).length ocq, .bool s2.re]) :: (11, .dat (.slice om (s2.ms.map rmD).length ocm) (.l 19 (s2.ms.map rmD))) :: (60, .seg (.slice pv (vl.map hdD).length cv) 25 2 (vl.map hdD)) :: rwL W (clrS v2) (nilP q2) (rfM R (clrS s2) (nilP p2))) w) (s2.ms.length) ?_ ?_
               · exact ⟨0, Nat.zero_le _, rfl, Hz.only [1, 2, 8, 9, 10, 11, 12, 15, 19], m133.only [62, 11, 60, 101, 102, 103, 104, 105, 106, 107, 108, 1, 2, 3, 4, 5, 6, 7, 8]⟩
               ·
                clear Hz m133
                rintro g Az w137 ⟨j, hjl, hjg, Hz, m137⟩
                refine wp_seq_k (fun K25 hK25 => ?_)
                refine regS Hz (.move rfl <| .fieldAddr (off := 0) rfl Tryz.underlying46 rfl (s := 0) (by kernel_rfl) rfl <| .loadB1 m137 (i := 62) rfl rfl rfl Tryz.underlying43 rfl <| .len rfl Tryz.underlying43 <| .lss rfl rfl <| .nil) ?_
                clear Hz Az; intro Az Hz
                refine bool_cases Hz (t := 114) rfl ?_ ?_
                ·
                 clear Hz; intro hb143 Hz
                 try simp only [Q1x, Q2x, Q3x, Q4x, Q5x, Q6x, Q7x, Q8x, Q9x, Q0x, Qax, Qbx] at hb143
                 have hj : j < s2.ms.length := by rw [List.length_map] at hb143; omega
                 obtain ⟨m, hm9⟩ : ∃ m, s2.ms[j]? = some m := ⟨_, List.getElem?_eq_getElem hj⟩
                 have hgm9 := hg2 m (List.mem_of_getElem? hm9)
                 refine wp_cond_true (Hz.ev (x := .tmp 114) rfl) ?_
                 refine wp_skip ?_
                 refine hK25 _ _ ?_; clear hK25; try clear K25
                 refine wp_seq_k (fun K26 hK26 => ?_)
                 refine wp_block ?_
                 refine wp_seq_k (fun K27 hK27 => ?_)
                 refine wp_region_lit ?_
                 refine goCh Hz (.fieldAddr (off := 0) rfl Tryz.underlying46 rfl (s := 0) (by kernel_rfl) rfl <| .loadB1 m137 (i := 62) rfl rfl rfl Tryz.underlying43 rfl <| .move rfl <| .nil) ?_
                 clear Hz Az; intro Az Hz
                 obtain ⟨b151, o151, vs151, hp151, hR151, ho151, m151⟩ := m137.openR (i := 11) rfl (j) (r := [.v (.int .i64 m.k), .v (.int .i64 m.g), .v (.int .i64 m.f), .v (.int .i64 m.t), .v (.int .i64 m.te), .v (.int .i64 m.ix), .v (.int .i64 m.lt), .v (.int .i64 m.co), .v (.bool m.ok), .l 4 (m.es.map entD), .v (.int .i64 m.bi), .v (.int .i64 m.bt), .ns .i64 m.cf, .ns .u8 m.bd, .ns .u8 m.da, .v (.int .i64 m.vo), .v (.int .i64 m.ch), .v (.int .i64 m.ma), .v (.int .i64 m.fl)]) (by rw [List.getElem?_map, hm9]; rfl) 800 rfl
                 cases hp151; clear m137 ho151
                 rcases hR151 with _ | ⟨hd151_0, _ | ⟨hd151_1, _ | ⟨hd151_2, _ | ⟨hd151_3, _ | ⟨hd151_4, _ | ⟨hd151_5, _ | ⟨hd151_6, _ | ⟨hd151_7, _ | ⟨hd151_8, _ | ⟨hd151_9, _ | ⟨hd151_10, _ | ⟨hd151_11, _ | ⟨hd151_12, _ | ⟨hd151_13, _ | ⟨hd151_14, _ | ⟨hd151_15, _ | ⟨hd151_16, _ | ⟨hd151_17, _ | ⟨hd151_18, _ | _⟩⟩⟩⟩⟩⟩⟩⟩⟩⟩⟩⟩⟩⟩⟩⟩⟩⟩⟩
                 obtain rfl := hd151_0.v_out
                 clear hd151_0
                 obtain rfl := hd151_1.v_out
                 clear hd151_1
                 obtain rfl := hd151_2.v_out
                 clear hd151_2
                 obtain rfl := hd151_3.v_out
                 clear hd151_3
                 obtain rfl := hd151_4.v_out
                 clear hd151_4
                 obtain rfl := hd151_5.v_out
                 clear hd151_5
                 obtain rfl := hd151_6.v_out
                 clear hd151_6
                 obtain rfl := hd151_7.v_out
                 clear hd151_7
                 obtain rfl := hd151_8.v_out
                 clear hd151_8
                 obtain ⟨p152, c152, hv152, hc152⟩ := hd151_9.l_shape; subst hv152
                 have m152 := m151.dat 801 rfl (hd151_9.cast (fun _ h => (free_add rfl h))); clear m151 hd151_9
                 obtain rfl := hd151_10.v_out
                 clear hd151_10
                 obtain rfl := hd151_11.v_out
                 clear hd151_11
                 obtain ⟨p153, c153, hv153, hc153⟩ := hd151_12.ns_shape; subst hv153
                 have m153 := m152.dat 802 rfl (hd151_12.cast (fun _ h => (free_add rfl (free_add rfl h)))); clear m152 hd151_12
                 obtain ⟨p154, c154, hv154, hc154⟩ := hd151_13.ns_shape; subst hv154
                 have m154 := m153.dat 803 rfl (hd151_13.cast (fun _ h => (free_add rfl (free_add rfl (free_add rfl h))))); clear m153 hd151_13
                 obtain ⟨p155, c155, hv155, hc155⟩ := hd151_14.ns_shape; subst hv155
                 have m155 := m154.dat 804 rfl (hd151_14.cast (fun _ h => (free_add rfl (free_add rfl (free_add rfl (free_add rfl h)))))); clear m154 hd151_14
                 obtain rfl := hd151_15.v_out
                 clear hd151_15
                 obtain rfl := hd151_16.v_out
                 clear hd151_16
                 obtain rfl := hd151_17.v_out
                 clear hd151_17
                 obtain rfl := hd151_18.v_out
                 clear hd151_18
                 refine goCh Hz (.c rfl (fun _ h_ => y_idx h_ rfl rfl Tryz.underlying43 sz55rv (j) rfl (by rw [List.length_map]; exact hj)) <| .loadCR m155 (i := 800) rfl rfl Tryz.underlying55 rfl sz55rv <| .nil) ?_
                 clear Hz Az; intro Az Hz
                 refine wpList_plain rfl (fun K hK => ?_)
                 refine e_alloc Hz m155 805 zc55rv rfl ?_
                 clear Hz Az m155; intro g158 Az w159 Hz m159 hB159 hg159
                 clear hB159 hg159
                 refine hK _ _ ?_; clear hK K
                 refine wpList_plain rfl (fun K hK => ?_)
                 refine e_storeW Hz m159 805 rfl rfl rfl rfl rfl sz55rv ?_
                 clear m159; intro w160 m160 hB160
                 clear hB160
                 refine hK _ _ ?_; clear hK K
                 refine wpList_nil ?_
                 refine hK27 _ _ ?_; clear hK27; try clear K27
                 refine wp_seq_k (fun K28 hK28 => ?_)
                 replace Hz : Has 157 [(1, _), (2, _), (8, _), (9, _), (10, _), (11, _), (12, _), (15, _), (19, _), (20, _)] Az := Hz.only [1, 2, 8, 9, 10, 11, 12, 15, 19, 20]
                 have m162 : MemOk _ _ [(1, _), (2, _), (3, _), (4, _), (5, _), (6, _), (7, _), (8, _), (11, _), (60, _), (62, _), (101, _), (102, _), (103, _), (104, _), (105, _), (106, _), (107, _), (108, _), (800, _), (801, _), (802, _), (803, _), (804, _), (805, _)] _ := m160.only [1, 2, 3, 4, 5, 6, 7, 8, 11, 60, 62, 101, 102, 103, 104, 105, 106, 107, 108, 800, 801, 802, 803, 804, 805]; clear m160
                 refine region_p 25 (B := [(1, _), (2, _), (3, _), (4, _), (5, _), (6, _), (7, _), (8, _), (11, _), (60, _), (62, _), (101, _), (102, _), (103, _), (104, _), (105, _), (106, _), (107, _), (108, _), (800, _), (801, _), (802, _), (803, _), (804, _), (805, _)]) (m162.to ⟨il, il, il, il, il, il, il, il, il, il, il, il, il, il, il, il, il, il, il, il, il, il, il, il, il, trivial⟩) m162 (by kernel_rfl) (fun w163 hP163 m163 => ?_); clear m162
                 refine goR hP163 [0, 1, 2, 3] [1] 4 0 15 Hz (m163.to ⟨il, il, il, il, il, il, il, il, il, il, il, il, il, il, il, il, il, il, il, il, il, il, il, il, il, trivial⟩) (.fieldAddr (off := 0) rfl Tryz.underlying55 rfl (s := 0) (by kernel_rfl) rfl <| .loadB1 hh (i := 805) rfl rfl rfl Tryz.underlying3 rfl <| .eql rfl rfl <| .move rfl <| .nil) ?_
                 clear Hz Az; intro Az Hz
                 refine bool_cases Hz (t := 125) rfl ?_ ?_
                 ·
                  clear Hz; intro hb168 Hz
                  try simp only [Q1x, Q2x, Q3x, Q4x, Q5x, Q6x, Q7x, Q8x, Q9x, Q0x, Qax, Qbx] at hb168
                  refine goR hP163 [4, 5, 6, 7] [5] 4 15 255 Hz (m163.to ⟨il, il, il, il, il, il, il, il, il, il, il, il, il, il, il, il, il, il, il, il, il, il, il, il, il, trivial⟩) (.fieldAddr (off := 8) rfl Tryz.underlying55 rfl (s := 0) (by kernel_rfl) rfl <| .loadB1 hh (i := 805) rfl rfl rfl Tryz.underlying4 rfl <| .pickT rfl rfl <| .move rfl <| .nil) ?_
                  clear Hz Az; intro Az Hz
                  refine bool_cases Hz (t := 129) rfl ?_ ?_
                  ·
                   clear Hz; intro hb173 Hz
                   try simp only [Q1x, Q2x, Q3x, Q4x, Q5x, Q6x, Q7x, Q8x, Q9x, Q0x, Qax, Qbx] at hb173
                   refine goR hP163 [8, 12, 13] [13] 3 255 12799 Hz (m163.to ⟨il, il, il, il, il, il, il, il, il, il, il, il, il, il, il, il, il, il, il, il, il, il, il, il, il, trivial⟩) (.move rfl <| .fieldAddr (off := 4) rfl Tryz.underlying55 rfl (s := 0) (by kernel_rfl) rfl <| .loadB1 hh (i := 805) rfl rfl rfl Tryz.underlying3 rfl <| .nil) ?_
                   clear Hz Az; intro Az Hz
                   refine stepE_only 9 rfl (by kernel_rfl) (wantedG Hz rfl rfl rfl rfl) (fun K hK => ?_)
                   refine e_call Hz Tryz.func20 rfl rfl rfl rfl (rImage_s R (clrS s2) (nilP p2) _ (rfM_is (clrS s2) (nilP p2) (m163.into [(1, 1), (2, 2), (3, 3), (4, 4), (5, 5), (6, 6), (7, 7), (8, 8)] (by decide) rfl)) (hs2.clr.l (by omega))) ?_
                   rintro e w177 ⟨qa177, ca177, qb177, cb177, qc177, cc177, rfl, hx177, hy177, hz177, hb177⟩
                   have m178 := m163.callF3 806 807 808 rfl rfl rfl hb177 hx177 hy177 hz177
                   clear m163
                   clear hb177 hx177 hy177 hz177
                   refine ⟨_, rfl, ?_⟩; clear Hz Az; intro Az Hz
                   refine hK _ _ (m178.to ⟨il, il, il, il, il, il, il, il, il, il, il, il, il, il, il, il, il, il, il, il, il, il, il, il, il, trivial⟩) ?_; clear hK K
                   refine goA hP163 [10, 11, 14, 15] 4 13311 65535 Hz (m178.to ⟨il, il, il, il, il, il, il, il, il, il, il, il, il, il, il, il, il, il, il, il, il, il, il, il, il, trivial⟩) (.p (fun _ _ h_ => y_fieldS h_ rfl Tryz.underlying32 rfl (td := _) Tryz.underlying25 rfl sz25rv (by dsimp only [List.drop, List.take] <;> rfl)) <| .field1 rfl Tryz.underlying25 rfl (td := _) Tryz.underlying3 rfl rfl <| .neq rfl rfl <| .move rfl <| .nil) ?_
                   clear Hz Az; intro Az Hz
                   refine bool_cases Hz (t := 137) rfl ?_ ?_
                   · intro hb _; exact absurd hb (fun h9 => of_decide_eq_true h9 (hgm9 hb168 hb173).1)
                   clear Hz; intro _ Hz
                   refine goR hP163 [16, 20, 21] [21] 3 65535 3276799 Hz (m178.to ⟨il, il, il, il, il, il, il, il, il, il, il, il, il, il, il, il, il, il, il, il, il, il, il, il, il, trivial⟩) (.move rfl <| .fieldAddr (off := 3) rfl Tryz.underlying55 rfl (s := 0) (by kernel_rfl) rfl <| .loadB1 hh (i := 805) rfl rfl rfl Tryz.underlying3 rfl <| .nil) ?_
                   clear Hz Az; intro Az Hz
                   refine stepE_only 17 rfl (by kernel_rfl) (wantedG Hz rfl rfl rfl rfl) (fun K hK => ?_)
                   refine e_call Hz Tryz.func20 rfl rfl rfl rfl (rImage_s R (clrS s2) (nilP p2) _ (rfM_is (clrS s2) (nilP p2) (m178.into [(1, 1), (2, 2), (3, 3), (4, 4), (5, 5), (6, 6), (7, 7), (8, 8)] (by decide) rfl)) (hs2.clr.l (by omega))) ?_
                   rintro e w188 ⟨qa188, ca188, qb188, cb188, qc188, cc188, rfl, hx188, hy188, hz188, hb188⟩
                   have m189 := m178.callF3 809 810 811 rfl rfl rfl hb188 hx188 hy188 hz188
                   clear m178
                   clear hb188 hx188 hy188 hz188
                   refine ⟨_, rfl, ?_⟩; clear Hz Az; intro Az Hz
                   refine hK _ _ (m189.to ⟨il, il, il, il, il, il, il, il, il, il, il, il, il, il, il, il, il, il, il, il, il, il, il, il, il, trivial⟩) ?_; clear hK K
                   refine goA hP163 [18, 19, 22, 23, 24] 5 3407871 33554431 Hz (m189.to ⟨il, il, il, il, il, il, il, il, il, il, il, il, il, il, il, il, il, il, il, il, il, il, il, il, il, trivial⟩) (.p (fun _ _ h_ => y_fieldS h_ rfl Tryz.underlying32 rfl (td := _) Tryz.underlying25 rfl sz25rv (by dsimp only [List.drop, List.take] <;> rfl)) <| .field1 rfl Tryz.underlying25 rfl (td := _) Tryz.underlying3 rfl rfl <| .neq rfl rfl <| .pickF rfl rfl <| .pickT rfl rfl <| .nil) ?_
                   clear Hz Az; intro Az Hz
                   refine wpAnyE_done (by kernel_rfl) ?_ _
                   refine hK28 _ _ ?_; clear hK28; try clear K28
                   refine bool_cases Hz (t := 146) rfl ?_ ?_
                   · intro hb _; exact absurd hb (fun h9 => of_decide_eq_true h9 (hgm9 hb168 hb173).2)
                   clear Hz; intro _ Hz
                   refine wp_cond_false (Hz.ev (x := .tmp 146) rfl) ?_
                   refine wp_skip ?_
                   refine hK26 _ _ ?_; clear hK26; try clear K26
                   replace Hz : Has 157 [(1, _), (2, _), (8, _), (9, _), (10, _), (11, _), (12, _), (15, _), (19, _)] Az := Hz.only [1, 2, 8, 9, 10, 11, 12, 15, 19]
                   refine wp_region_lit ?_
                   refine goCh Hz (.move rfl <| .add rfl rfl (r := ((j + 1 : Nat) : Int)) (by rw [IntWalk.i64_in _ (by omega)]; omega) <| .assign rfl <| .nil) ?_
                   clear Hz Az; intro Az Hz
                   refine wpList_nil ?_
                   show ∃ n', n' < _ ∧ _
                   exact ⟨s2.ms.length - (j + 1), by omega, j + 1, by omega, rfl, Hz.only [1, 2, 8, 9, 10, 11, 12, 15, 19], m189.only [62, 11, 60, 101, 102, 103, 104, 105, 106, 107, 108, 1, 2, 3, 4, 5, 6, 7, 8]⟩
                  ·
                   clear Hz; intro hb173 Hz
                   try simp only [Q1x, Q2x, Q3x, Q4x, Q5x, Q6x, Q7x, Q8x, Q9x, Q0x, Qax, Qbx] at hb173
                   refine goA hP163 [8, 9, 10, 11, 12, 13, 14, 15, 16, 17, 18, 19, 20, 21, 22, 23, 24] 17 255 33554431 Hz (m163.to ⟨il, il, il, il, il, il, il, il, il, il, il, il, il, il, il, il, il, il, il, il, il, il, il, il, il, trivial⟩) (.s <| .s <| .s <| .s <| .s <| .s <| .s <| .s <| .u <| .u <| .u <| .u <| .u <| .u <| .u <| .s <| .pickF rfl rfl <| .nil) ?_
                   clear Hz Az; intro Az Hz
                   refine wpAnyE_done (by kernel_rfl) ?_ _
                   refine hK28 _ _ ?_; clear hK28; try clear K28
                   refine wp_cond_false (Hz.ev (x := .tmp 146) rfl) ?_
                   refine wp_skip ?_
                   refine hK26 _ _ ?_; clear hK26; try clear K26
                   replace Hz : Has 157 [(1, _), (2, _), (8, _), (9, _), (10, _), (11, _), (12, _), (15, _), (19, _)] Az := Hz.only [1, 2, 8, 9, 10, 11, 12, 15, 19]
                   refine wp_region_lit ?_
                   refine goCh Hz (.move rfl <| .add rfl rfl (r := ((j + 1 : Nat) : Int)) (by rw [IntWalk.i64_in _ (by omega)]; omega) <| .assign rfl <| .nil) ?_
                   clear Hz Az; intro Az Hz
                   refine wpList_nil ?_
                   show ∃ n', n' < _ ∧ _
                   exact ⟨s2.ms.length - (j + 1), by omega, j + 1, by omega, rfl, Hz.only [1, 2, 8, 9, 10, 11, 12, 15, 19], m163.only [62, 11, 60, 101, 102, 103, 104, 105, 106, 107, 108, 1, 2, 3, 4, 5, 6, 7, 8]⟩
                 ·
                  clear Hz; intro hb168 Hz
                  try simp only [Q1x, Q2x, Q3x, Q4x, Q5x, Q6x, Q7x, Q8x, Q9x, Q0x, Qax, Qbx] at hb168
                  refine goA hP163 [4, 5, 6, 7, 8, 9, 10, 11, 12, 13, 14, 15, 16, 17, 18, 19, 20, 21, 22, 23, 24] 21 15 33554431 Hz (m163.to ⟨il, il, il, il, il, il, il, il, il, il, il, il, il, il, il, il, il, il, il, il, il, il, il, il, il, trivial⟩) (.s <| .s <| .pickF rfl rfl <| .move rfl <| .s <| .s <| .s <| .s <| .s <| .s <| .s <| .s <| .u <| .u <| .u <| .u <| .u <| .u <| .u <| .s <| .pickF rfl rfl <| .nil) ?_
                  clear Hz Az; intro Az Hz
                  refine wpAnyE_done (by kernel_rfl) ?_ _
                  refine hK28 _ _ ?_; clear hK28; try clear K28
                  refine wp_cond_false (Hz.ev (x := .tmp 146) rfl) ?_
                  refine wp_skip ?_
                  refine hK26 _ _ ?_; clear hK26; try clear K26
                  replace Hz : Has 157 [(1, _), (2, _), (8, _), (9, _), (10, _), (11, _), (12, _), (15, _), (19, _)] Az := Hz.only [1, 2, 8, 9, 10, 11, 12, 15, 19]
                  refine wp_region_lit ?_
                  refine goCh Hz (.move rfl <| .add rfl rfl (r := ((j + 1 : Nat) : Int)) (by rw [IntWalk.i64_in _ (by omega)]; omega) <| .assign rfl <| .nil) ?_
                  clear Hz Az; intro Az Hz
                  refine wpList_nil ?_
                  show ∃ n', n' < _ ∧ _
                  exact ⟨s2.ms.length - (j + 1), by omega, j + 1, by omega, rfl, Hz.only [1, 2, 8, 9, 10, 11, 12, 15, 19], m163.only [62, 11, 60, 101, 102, 103, 104, 105, 106, 107, 108, 1, 2, 3, 4, 5, 6, 7, 8]⟩
                ·
                 clear Hz; intro hb143 Hz
                 try simp only [Q1x, Q2x, Q3x, Q4x, Q5x, Q6x, Q7x, Q8x, Q9x, Q0x, Qax, Qbx] at hb143
                 refine wp_cond_false (Hz.ev (x := .tmp 114) rfl) ?_
                 refine wp_exit ?_
                 show K11 _ _
                 exact hC11 _ _ ⟨s2, v2, p2, q2, vl, pv, cv, hs2.mono (by omega) (by omega), hvs2.mono (by omega) (by omega), hi2.trans hid, hj2.trans hiv, hvi.step hh2, by omega, Hz.only [1, 2, 8, 9, 10, 11, 12], m137.only [60, 101, 102, 103, 104, 105, 106, 107, 108, 1, 2, 3, 4, 5, 6, 7, 8]⟩
              ·
               refine wp_region_lit ?_
               refine goCh Hz (.move rfl <| .loadBR m122 (i := 63) rfl rfl Tryz.underlying55 rfl sz55rv (by simp) (by dsimp only [List.drop, List.take] <;> rfl) <| .nil) ?_
               clear Hz Az; intro Az Hz
               refine wpList_plain rfl (fun K hK => ?_)
               refine e_call Hz Tryz.func23 rfl rfl rfl rfl (pOk_v _ R s p9 gm f t te ix lt co ok _ (hs.mono (Nat.le_refl _) (Nat.le_add_right _ 2)) (by omega) (by omega) hgm1 (htt.trans hid.symm) hte9 (m122.into [(1, 1), (2, 2), (3, 3), (4, 4), (5, 5), (6, 6), (7, 7), (8, 8)] (by decide) rfl)) ?_
               rintro e w249 ⟨s2, p2, ⟨om, oq, ocm, ocq⟩, rfl, hs2, hh2, hg2, hml9, hi2, hm249⟩
               have mx249 := m122.back hm249 [(1, 1), (2, 2), (3, 3), (4, 4), (5, 5), (6, 6), (7, 7), (8, 8), (11, 11), (12, 12)] (by decide); clear hm249 m122
               have m249 : MemOk _ _ [(1, _), (2, _), (3, _), (4, _), (5, _), (6, _), (7, _), (8, _), (11, _), (12, _), (60, _), (62, _), (63, _), (101, _), (102, _), (103, _), (104, _), (105, _), (106, _), (107, _), (108, _)] _ := mx249.only [1, 2, 3, 4, 5, 6, 7, 8, 11, 12, 60, 62, 63, 101, 102, 103, 104, 105, 106, 107, 108]; clear mx249
               refine ⟨_, rfl, ?_⟩; clear Hz Az; intro Az Hz
               refine hK _ _ ?_; clear hK K
               have m251 := m249.freezeS 11 rfl (by intro b hb; cases hb); clear m249
               refine wpList_plain rfl (fun K hK => ?_)
               refine e_storeW Hz m251 62 rfl rfl rfl rfl rfl sz46rv ?_
               clear m251; intro w252 m252 hB252
               clear hB252
               refine hK _ _ ?_; clear hK K
               refine wpList_nil ?_
               refine hK23 _ _ ?_; clear hK23; try clear K23
               refine wp_seq_k (fun K29 hK29 => ?_)
               refine wp_region_lit ?_
               refine goCh Hz (.move rfl <| .loadBR m252 (i := 63) rfl rfl Tryz.underlying55 rfl sz55rv (by simp) (by dsimp only [List.drop, List.take] <;> rfl) <| .nil) ?_
               clear Hz Az; intro Az Hz
               refine wpList_plain rfl (fun K hK => ?_)
               refine e_call Hz Tryz.func24 rfl rfl rfl rfl (wOk_v _ W v q9 gm f t te ix lt co ok _ (hv9.mono (Nat.le_refl _) (Nat.le_add_right _ 2)) (by omega) (by omega) hgm1 (htt.trans hiv.symm) hte9 (m252.into [(1, 101), (2, 102), (3, 103), (4, 104), (5, 105), (6, 106), (7, 107), (8, 108)] (by decide) rfl)) ?_
               rintro e w257 ⟨v2, q2, r2, rfl, hvs2, hj2, hm257⟩
               have mx257 := m252.back hm257 [(101, 1), (102, 2), (103, 3), (104, 4), (105, 5), (106, 6), (107, 7), (108, 8), (111, 11), (112, 12)] (by decide); clear hm257 m252
               have m257 : MemOk _ _ [(101, _), (102, _), (103, _), (104, _), (105, _), (106, _), (107, _), (108, _), (111, _), (112, _), (1, _), (2, _), (3, _), (4, _), (5, _), (6, _), (7, _), (8, _), (11, _), (12, _), (60, _), (62, _), (63, _)] _ := mx257.only [101, 102, 103, 104, 105, 106, 107, 108, 111, 112, 1, 2, 3, 4, 5, 6, 7, 8, 11, 12, 60, 62, 63]; clear mx257
               refine ⟨_, rfl, ?_⟩; clear Hz Az; intro Az Hz
               refine hK _ _ ?_; clear hK K
               refine wpList_nil ?_
               refine hK29 _ _ ?_; clear hK29; try clear K29
               replace Hz : Has 157 [(1, _), (2, _), (8, _), (9, _), (10, _), (11, _), (12, _), (15, _)] Az := Hz.only [1, 2, 8, 9, 10, 11, 12, 15]
               refine regS Hz (.assign rfl <| .nil) ?_
               clear Hz Az; intro Az Hz
               refine wp_block ?_
               refine wp_loop_ghost (fun g a w => ∃ (j : Nat), j ≤ s2.ms.length ∧ g = s2.ms.length - j ∧ Has 157 [(1, .slice (some ⟨gx31, ox31, none⟩) (ls.map f5).length cl), (2, .int .u8 (u : Nat)), (8, .int .i64 ((q % 3 : Nat) : Int)), (9, .pointer (some ⟨R, 0, none⟩)), (10, .pointer (some ⟨W, 0, none⟩)), (11, .slice pv (vl.map hdD).length cv), (12, .int .i64 (k : Nat)), (15, .pointer (some ⟨Bo, 0, none⟩)), (19, .int .i64 (j : Nat))] a ∧ MemOk (cx (fun _ => False) w0) w0 ((62, .box Bo 46 [.slice om (s2.ms.map rmD).length ocm, .slice oq (s2.rs.map rrD).length ocq, .bool s2.re]) :: (11, .dat (.slice om (s2.ms.map rmD).length ocm) (.l 19 (s2.ms.map rmD))) :: (60, .seg (.slice pv (vl.map hdD).length cv) 25 2 (vl.map hdD)) :: rwL W (clrS v2) (nilP q2) (rfM R (clrS s2) (nilP p2))) w) (s2.ms.length) ?_ ?_
               · exact ⟨0, Nat.zero_le _, rfl, Hz.only [1, 2, 8, 9, 10, 11, 12, 15, 19], m257.only [62, 11, 60, 101, 102, 103, 104, 105, 106, 107, 108, 1, 2, 3, 4, 5, 6, 7, 8]⟩
               ·
                clear Hz m257
                rintro g Az w261 ⟨j, hjl, hjg, Hz, m261⟩
                refine wp_seq_k (fun K30 hK30 => ?_)
                refine regS Hz (.move rfl <| .fieldAddr (off := 0) rfl Tryz.underlying46 rfl (s := 0) (by kernel_rfl) rfl <| .loadB1 m261 (i := 62) rfl rfl rfl Tryz.underlying43 rfl <| .len rfl Tryz.underlying43 <| .lss rfl rfl <| .nil) ?_
                clear Hz Az; intro Az Hz
                refine bool_cases Hz (t := 114) rfl ?_ ?_
                ·
                 clear Hz; intro hb267 Hz
                 try simp only [Q1x, Q2x, Q3x, Q4x, Q5x, Q6x, Q7x, Q8x, Q9x, Q0x, Qax, Qbx] at hb267
                 have hj : j < s2.ms.length := by rw [List.length_map] at hb267; omega
                 obtain ⟨m, hm9⟩ : ∃ m, s2.ms[j]? = some m := ⟨_, List.getElem?_eq_getElem hj⟩
                 have hgm9 := hg2 m (List.mem_of_getElem? hm9)
                 refine wp_cond_true (Hz.ev (x := .tmp 114) rfl) ?_
                 refine wp_skip ?_
                 refine hK30 _ _ ?_; clear hK30; try clear K30
                 refine wp_seq_k (fun K31 hK31 => ?_)
                 refine wp_block ?_
                 refine wp_seq_k (fun K32 hK32 => ?_)
                 refine wp_region_lit ?_
                 refine goCh Hz (.fieldAddr (off := 0) rfl Tryz.underlying46 rfl (s := 0) (by kernel_rfl) rfl <| .loadB1 m261 (i := 62) rfl rfl rfl Tryz.underlying43 rfl <| .move rfl <| .nil) ?_
                 clear Hz Az; intro Az Hz
                 obtain ⟨b275, o275, vs275, hp275, hR275, ho275, m275⟩ := m261.openR (i := 11) rfl (j) (r := [.v (.int .i64 m.k), .v (.int .i64 m.g), .v (.int .i64 m.f), .v (.int .i64 m.t), .v (.int .i64 m.te), .v (.int .i64 m.ix), .v (.int .i64 m.lt), .v (.int .i64 m.co), .v (.bool m.ok), .l 4 (m.es.map entD), .v (.int .i64 m.bi), .v (.int .i64 m.bt), .ns .i64 m.cf, .ns .u8 m.bd, .ns .u8 m.da, .v (.int .i64 m.vo), .v (.int .i64 m.ch), .v (.int .i64 m.ma), .v (.int .i64 m.fl)]) (by rw [List.getElem?_map, hm9]; rfl) 800 rfl
                 cases hp275; clear m261 ho275
                 rcases hR275 with _ | ⟨hd275_0, _ | ⟨hd275_1, _ | ⟨hd275_2, _ | ⟨hd275_3, _ | ⟨hd275_4, _ | ⟨hd275_5, _ | ⟨hd275_6, _ | ⟨hd275_7, _ | ⟨hd275_8, _ | ⟨hd275_9, _ | ⟨hd275_10, _ | ⟨hd275_11, _ | ⟨hd275_12, _ | ⟨hd275_13, _ | ⟨hd275_14, _ | ⟨hd275_15, _ | ⟨hd275_16, _ | ⟨hd275_17, _ | ⟨hd275_18, _ | _⟩⟩⟩⟩⟩⟩⟩⟩⟩⟩⟩⟩⟩⟩⟩⟩⟩⟩⟩
                 obtain rfl := hd275_0.v_out
                 clear hd275_0
                 obtain rfl := hd275_1.v_out
                 clear hd275_1
                 obtain rfl := hd275_2.v_out
                 clear hd275_2
                 obtain rfl := hd275_3.v_out
                 clear hd275_3
                 obtain rfl := hd275_4.v_out
                 clear hd275_4
                 obtain rfl := hd275_5.v_out
                 clear hd275_5
                 obtain rfl := hd275_6.v_out
                 clear hd275_6
                 obtain rfl := hd275_7.v_out
                 clear hd275_7
                 obtain rfl := hd275_8.v_out
                 clear hd275_8
                 obtain ⟨p276, c276, hv276, hc276⟩ := hd275_9.l_shape; subst hv276
                 have m276 := m275.dat 801 rfl (hd275_9.cast (fun _ h => (free_add rfl h))); clear m275 hd275_9
                 obtain rfl := hd275_10.v_out
                 clear hd275_10
                 obtain rfl := hd275_11.v_out
                 clear hd275_11
                 obtain ⟨p277, c277, hv277, hc277⟩ := hd275_12.ns_shape; subst hv277
                 have m277 := m276.dat 802 rfl (hd275_12.cast (fun _ h => (free_add rfl (free_add rfl h)))); clear m276 hd275_12
                 obtain ⟨p278, c278, hv278, hc278⟩ := hd275_13.ns_shape; subst hv278
                 have m278 := m277.dat 803 rfl (hd275_13.cast (fun _ h => (free_add rfl (free_add rfl (free_add rfl h))))); clear m277 hd275_13
                 obtain ⟨p279, c279, hv279, hc279⟩ := hd275_14.ns_shape; subst hv279
                 have m279 := m278.dat 804 rfl (hd275_14.cast (fun _ h => (free_add rfl (free_add rfl (free_add rfl (free_add rfl h)))))); clear m278 hd275_14
                 obtain rfl := hd275_15.v_out
                 clear hd275_15
                 obtain rfl := hd275_16.v_out
                 clear hd275_16
                 obtain rfl := hd275_17.v_out
                 clear hd275_17
                 obtain rfl := hd275_18.v_out
                 clear hd275_18
                 refine goCh Hz (.c rfl (fun _ h_ => y_idx h_ rfl rfl Tryz.underlying43 sz55rv (j) rfl (by rw [List.length_map]; exact hj)) <| .loadCR m279 (i := 800) rfl rfl Tryz.underlying55 rfl sz55rv <| .nil) ?_
                 clear Hz Az; intro Az Hz
                 refine wpList_plain rfl (fun K hK => ?_)
                 refine e_alloc Hz m279 805 zc55rv rfl ?_
                 clear Hz Az m279; intro g282 Az w283 Hz m283 hB283 hg283
                 clear hB283 hg283
                 refine hK _ _ ?_; clear hK K
                 refine wpList_plain rfl (fun K hK => ?_)
                 refine e_storeW Hz m283 805 rfl rfl rfl rfl rfl sz55rv ?_
                 clear m283; intro w284 m284 hB284
                 clear hB284
                 refine hK _ _ ?_; clear hK K
                 refine wpList_nil ?_
                 refine hK32 _ _ ?_; clear hK32; try clear K32
                 refine wp_seq_k (fun K33 hK33 => ?_)
                 replace Hz : Has 157 [(1, _), (2, _), (8, _), (9, _), (10, _), (11, _), (12, _), (15, _), (19, _), (20, _)] Az := Hz.only [1, 2, 8, 9, 10, 11, 12, 15, 19, 20]
                 have m286 : MemOk _ _ [(1, _), (2, _), (3, _), (4, _), (5, _), (6, _), (7, _), (8, _), (11, _), (60, _), (62, _), (101, _), (102, _), (103, _), (104, _), (105, _), (106, _), (107, _), (108, _), (800, _), (801, _), (802, _), (803, _), (804, _), (805, _)] _ := m284.only [1, 2, 3, 4, 5, 6, 7, 8, 11, 60, 62, 101, 102, 103, 104, 105, 106, 107, 108, 800, 801, 802, 803, 804, 805]; clear m284
                 refine region_p 25 (B := [(1, _), (2, _), (3, _), (4, _), (5, _), (6, _), (7, _), (8, _), (11, _), (60, _), (62, _), (101, _), (102, _), (103, _), (104, _), (105, _), (106, _), (107, _), (108, _), (800, _), (801, _), (802, _), (803, _), (804, _), (805, _)]) (m286.to ⟨il, il, il, il, il, il, il, il, il, il, il, il, il, il, il, il, il, il, il, il, il, il, il, il, il, trivial⟩) m286 (by kernel_rfl) (fun w287 hP287 m287 => ?_); clear m286
                 refine goR hP287 [0, 1, 2, 3] [1] 4 0 15 Hz (m287.to ⟨il, il, il, il, il, il, il, il, il, il, il, il, il, il, il, il, il, il, il, il, il, il, il, il, il, trivial⟩) (.fieldAddr (off := 0) rfl Tryz.underlying55 rfl (s := 0) (by kernel_rfl) rfl <| .loadB1 hh (i := 805) rfl rfl rfl Tryz.underlying3 rfl <| .eql rfl rfl <| .move rfl <| .nil) ?_
                 clear Hz Az; intro Az Hz
                 refine bool_cases Hz (t := 125) rfl ?_ ?_
                 ·
                  clear Hz; intro hb292 Hz
                  try simp only [Q1x, Q2x, Q3x, Q4x, Q5x, Q6x, Q7x, Q8x, Q9x, Q0x, Qax, Qbx] at hb292
                  refine goR hP287 [4, 5, 6, 7] [5] 4 15 255 Hz (m287.to ⟨il, il, il, il, il, il, il, il, il, il, il, il, il, il, il, il, il, il, il, il, il, il, il, il, il, trivial⟩) (.fieldAddr (off := 8) rfl Tryz.underlying55 rfl (s := 0) (by kernel_rfl) rfl <| .loadB1 hh (i := 805) rfl rfl rfl Tryz.underlying4 rfl <| .pickT rfl rfl <| .move rfl <| .nil) ?_
                  clear Hz Az; intro Az Hz
                  refine bool_cases Hz (t := 129) rfl ?_ ?_
                  ·
                   clear Hz; intro hb297 Hz
                   try simp only [Q1x, Q2x, Q3x, Q4x, Q5x, Q6x, Q7x, Q8x, Q9x, Q0x, Qax, Qbx] at hb297
                   refine goR hP287 [8, 12, 13] [13] 3 255 12799 Hz (m287.to ⟨il, il, il, il, il, il, il, il, il, il, il, il, il, il, il, il, il, il, il, il, il, il, il, il, il, trivial⟩) (.move rfl <| .fieldAddr (off := 4) rfl Tryz.underlying55 rfl (s := 0) (by kernel_rfl) rfl <| .loadB1 hh (i := 805) rfl rfl rfl Tryz.underlying3 rfl <| .nil) ?_
                   clear Hz Az; intro Az Hz
                   refine stepE_only 9 rfl (by kernel_rfl) (wantedG Hz rfl rfl rfl rfl) (fun K hK => ?_)
                   refine e_call Hz Tryz.func20 rfl rfl rfl rfl (rImage_s R (clrS s2) (nilP p2) _ (rfM_is (clrS s2) (nilP p2) (m287.into [(1, 1), (2, 2), (3, 3), (4, 4), (5, 5), (6, 6), (7, 7), (8, 8)] (by decide) rfl)) (hs2.clr.l (by omega))) ?_
                   rintro e w301 ⟨qa301, ca301, qb301, cb301, qc301, cc301, rfl, hx301, hy301, hz301, hb301⟩
                   have m302 := m287.callF3 806 807 808 rfl rfl rfl hb301 hx301 hy301 hz301
                   clear m287
                   clear hb301 hx301 hy301 hz301
                   refine ⟨_, rfl, ?_⟩; clear Hz Az; intro Az Hz
                   refine hK _ _ (m302.to ⟨il, il, il, il, il, il, il, il, il, il, il, il, il, il, il, il, il, il, il, il, il, il, il, il, il, trivial⟩) ?_; clear hK K
                   refine goA hP287 [10, 11, 14, 15] 4 13311 65535 Hz (m302.to ⟨il, il, il, il, il, il, il, il, il, il, il, il, il, il, il, il, il, il, il, il, il, il, il, il, il, trivial⟩) (.p (fun _ _ h_ => y_fieldS h_ rfl Tryz.underlying32 rfl (td := _) Tryz.underlying25 rfl sz25rv (by dsimp only [List.drop, List.take] <;> rfl)) <| .field1 rfl Tryz.underlying25 rfl (td := _) Tryz.underlying3 rfl rfl <| .neq rfl rfl <| .move rfl <| .nil) ?_
                   clear Hz Az; intro Az Hz
                   refine bool_cases Hz (t := 137) rfl ?_ ?_
                   · intro hb _; exact absurd hb (fun h9 => of_decide_eq_true h9 (hgm9 hb292 hb297).1)
                   clear Hz; intro _ Hz
                   refine goR hP287 [16, 20, 21] [21] 3 65535 3276799 Hz (m302.to ⟨il, il, il, il, il, il, il, il, il, il, il, il, il, il, il, il, il, il, il, il, il, il, il, il, il, trivial⟩) (.move rfl <| .fieldAddr (off := 3) rfl Tryz.underlying55 rfl (s := 0) (by kernel_rfl) rfl <| .loadB1 hh (i := 805) rfl rfl rfl Tryz.underlying3 rfl <| .nil) ?_
                   clear Hz Az; intro Az Hz
                   refine stepE_only 17 rfl (by kernel_rfl) (wantedG Hz rfl rfl rfl rfl) (fun K hK => ?_)
                   refine e_call Hz Tryz.func20 rfl rfl rfl rfl (rImage_s R (clrS s2) (nilP p2) _ (rfM_is (clrS s2) (nilP p2) (m302.into [(1, 1), (2, 2), (3, 3), (4, 4), (5, 5), (6, 6), (7, 7), (8, 8)] (by decide) rfl)) (hs2.clr.l (by omega))) ?_
                   rintro e w312 ⟨qa312, ca312, qb312, cb312, qc312, cc312, rfl, hx312, hy312, hz312, hb312⟩
                   have m313 := m302.callF3 809 810 811 rfl rfl rfl hb312 hx312 hy312 hz312
                   clear m302
                   clear hb312 hx312 hy312 hz312
                   refine ⟨_, rfl, ?_⟩; clear Hz Az; intro Az Hz
                   refine hK _ _ (m313.to ⟨il, il, il, il, il, il, il, il, il, il, il, il, il, il, il, il, il, il, il, il, il, il, il, il, il, trivial⟩) ?_; clear hK K
                   refine goA hP287 [18, 19, 22, 23, 24] 5 3407871 33554431 Hz (m313.to ⟨il, il, il, il, il, il, il, il, il, il, il, il, il, il, il, il, il, il, il, il, il, il, il, il, il, trivial⟩) (.p (fun _ _ h_ => y_fieldS h_ rfl Tryz.underlying32 rfl (td := _) Tryz.underlying25 rfl sz25rv (by dsimp only [List.drop, List.take] <;> rfl)) <| .field1 rfl Tryz.underlying25 rfl (td := _) Tryz.underlying3 rfl rfl <| .neq rfl rfl <| .pickF rfl rfl <| .pickT rfl rfl <| .nil) ?_
                   clear Hz Az; intro Az Hz
                   refine wpAnyE_done (by kernel_rfl) ?_ _
                   refine hK33 _ _ ?_; clear hK33; try clear K33
                   refine bool_cases Hz (t := 146) rfl ?_ ?_
                   · intro hb _; exact absurd hb (fun h9 => of_decide_eq_true h9 (hgm9 hb292 hb297).2)
                   clear Hz; intro _ Hz
                   refine wp_cond_false (Hz.ev (x := .tmp 146) rfl) ?_
                   refine wp_skip ?_
                   refine hK31 _ _ ?_; clear hK31; try clear K31
                   replace Hz : Has 157 [(1, _), (2, _), (8, _), (9, _), (10, _), (11, _), (12, _), (15, _), (19, _)] Az := Hz.only [1, 2, 8, 9, 10, 11, 12, 15, 19]
                   refine wp_region_lit ?_
                   refine goCh Hz (.move rfl <| .add rfl rfl (r := ((j + 1 : Nat) : Int)) (by rw [IntWalk.i64_in _ (by omega)]; omega) <| .assign rfl <| .nil) ?_
                   clear Hz Az; intro Az Hz
                   refine wpList_nil ?_
                   show ∃ n', n' < _ ∧ _
                   exact ⟨s2.ms.length - (j + 1), by omega, j + 1, by omega, rfl, Hz.only [1, 2, 8, 9, 10, 11, 12, 15, 19], m313.only [62, 11, 60, 101, 102, 103, 104, 105, 106, 107, 108, 1, 2, 3, 4, 5, 6, 7, 8]⟩
                  ·
                   clear Hz; intro hb297 Hz
                   try simp only [Q1x, Q2x, Q3x, Q4x, Q5x, Q6x, Q7x, Q8x, Q9x, Q0x, Qax, Qbx] at hb297
                   refine goA hP287 [8, 9, 10, 11, 12, 13, 14, 15, 16, 17, 18, 19, 20, 21, 22, 23, 24] 17 255 33554431 Hz (m287.to ⟨il, il, il, il, il, il, il, il, il, il, il, il, il, il, il, il, il, il, il, il, il, il, il, il, il, trivial⟩) (.s <| .s <| .s <| .s <| .s <| .s <| .s <| .s <| .u <| .u <| .u <| .u <| .u <| .u <| .u <| .s <| .pickF rfl rfl <| .nil) ?_
                   clear Hz Az; intro Az Hz
                   refine wpAnyE_done (by kernel_rfl) ?_ _
                   refine hK33 _ _ ?_; clear hK33; try clear K33
                   refine wp_cond_false (Hz.ev (x := .tmp 146) rfl) ?_
                   refine wp_skip ?_
                   refine hK31 _ _ ?_; clear hK31; try clear K31
                   replace Hz : Has 157 [(1, _), (2, _), (8, _), (9, _), (10, _), (11, _), (12, _), (15, _), (19, _)] Az := Hz.only [1, 2, 8, 9, 10, 11, 12, 15, 19]
                   refine wp_region_lit ?_
                   refine goCh Hz (.move rfl <| .add rfl rfl (r := ((j + 1 : Nat) : Int)) (by rw [IntWalk.i64_in _ (by omega)]; omega) <| .assign rfl <| .nil) ?_
                   clear Hz Az; intro Az Hz
                   refine wpList_nil ?_
                   show ∃ n', n' < _ ∧ _
                   exact ⟨s2.ms.length - (j + 1), by omega, j + 1, by omega, rfl, Hz.only [1, 2, 8, 9, 10, 11, 12, 15, 19], m287.only [62, 11, 60, 101, 102, 103, 104, 105, 106, 107, 108, 1, 2, 3, 4, 5, 6, 7, 8]⟩
                 ·
                  clear Hz; intro hb292 Hz
                  try simp only [Q1x, Q2x, Q3x, Q4x, Q5x, Q6x, Q7x, Q8x, Q9x, Q0x, Qax, Qbx] at hb292
                  refine goA hP287 [4, 5, 6, 7, 8, 9, 10, 11, 12, 13, 14, 15, 16, 17, 18, 19, 20, 21, 22, 23, 24] 21 15 33554431 Hz (m287.to ⟨il, il, il, il, il, il, il, il, il, il, il, il, il, il, il, il, il, il, il, il, il, il, il, il, il, trivial⟩) (.s <| .s <| .pickF rfl rfl <| .move rfl <| .s <| .s <| .s <| .s <| .s <| .s <| .s <| .s <| .u <| .u <| .u <| .u <| .u <| .u <| .u <| .s <| .pickF rfl rfl <| .nil) ?_
                  clear Hz Az; intro Az Hz
                  refine wpAnyE_done (by kernel_rfl) ?_ _
                  refine hK33 _ _ ?_; clear hK33; try clear K33
                  refine wp_cond_false (Hz.ev (x := .tmp 146) rfl) ?_
                  refine wp_skip ?_
                  refine hK31 _ _ ?_; clear hK31; try clear K31
                  replace Hz : Has 157 [(1, _), (2, _), (8, _), (9, _), (10, _), (11, _), (12, _), (15, _), (19, _)] Az := Hz.only [1, 2, 8, 9, 10, 11, 12, 15, 19]
                  refine wp_region_lit ?_
                  refine goCh Hz (.move rfl <| .add rfl rfl (r := ((j + 1 : Nat) : Int)) (by rw [IntWalk.i64_in _ (by omega)]; omega) <| .assign rfl <| .nil) ?_
                  clear Hz Az; intro Az Hz
                  refine wpList_nil ?_
                  show ∃ n', n' < _ ∧ _
                  exact ⟨s2.ms.length - (j + 1), by omega, j + 1, by omega, rfl, Hz.only [1, 2, 8, 9, 10, 11, 12, 15, 19], m287.only [62, 11, 60, 101, 102, 103, 104, 105, 106, 107, 108, 1, 2, 3, 4, 5, 6, 7, 8]⟩
                ·
                 clear Hz; intro hb267 Hz
                 try simp only [Q1x, Q2x, Q3x, Q4x, Q5x, Q6x, Q7x, Q8x, Q9x, Q0x, Qax, Qbx] at hb267
                 refine wp_cond_false (Hz.ev (x := .tmp 114) rfl) ?_
                 refine wp_exit ?_
                 show K11 _ _
                 exact hC11 _ _ ⟨s2, v2, p2, q2, vl, pv, cv, hs2.mono (by omega) (by omega), hvs2.mono (by omega) (by omega), hi2.trans hid, hj2.trans hiv, hvi.step hh2, by omega, Hz.only [1, 2, 8, 9, 10, 11, 12], m261.only [60, 101, 102, 103, 104, 105, 106, 107, 108, 1, 2, 3, 4, 5, 6, 7, 8]⟩
          ·
            clear Hz m38
            rintro Az w39 ⟨s, v, p9, q9, vl, pv, cv, hs, hv9, hid, hiv, hvi, hvn, Hz, m39⟩
            refine hK11 _ _ ?_; clear hK11; try clear K11
            refine wp_seq_k (fun K12 hK12 => ?_)
            refine wp_region_lit ?_
            refine goCh Hz (.move rfl .nil) ?_
            clear Hz Az; intro Az Hz
            refine wpList_plain rfl (fun K hK => ?_)
            refine e_call Hz Tryz.func20 rfl rfl rfl rfl (rImage_s R (clrS s) (nilP p9) _ (rfM_is (clrS s) (nilP p9) (m39.into [(1, 1), (2, 2), (3, 3), (4, 4), (5, 5), (6, 6), (7, 7), (8, 8)] (by decide) rfl)) (hs.clr.l (by omega))) ?_
            rintro e w42 ⟨qa42, ca42, qb42, cb42, qc42, cc42, rfl, hx42, hy42, hz42, hb42⟩
            have m43 := m39.callF3 700 701 702 rfl rfl rfl hb42 hx42 hy42 hz42
            clear m39
            clear hb42 hx42 hy42 hz42
            refine ⟨_, rfl, ?_⟩; clear Hz Az; intro Az Hz
            refine hK _ _ ?_; clear hK K
            refine goCh Hz (.c rfl (fun _ h_ => y_fieldS h_ rfl Tryz.underlying32 rfl (td := _) Tryz.underlying25 rfl sz25rv (by dsimp only [List.drop, List.take] <;> rfl)) .nil) ?_
            clear Hz Az; intro Az Hz
            refine wpList_plain rfl (fun K hK => ?_)
            refine e_alloc Hz m43 703 zc25rv rfl ?_
            clear Hz Az m43; intro g46 Az w47 Hz m47 hB47 hg47
            clear hB47 hg47
            refine hK _ _ ?_; clear hK K
            refine wpList_plain rfl (fun K hK => ?_)
            refine e_storeW Hz m47 703 rfl rfl rfl rfl rfl sz25rv ?_
            clear m47; intro w48 m48 hB48
            clear hB48
            refine hK _ _ ?_; clear hK K
            refine wpList_nil ?_
            refine hK12 _ _ ?_; clear hK12; try clear K12
            refine wp_seq_k (fun K13 hK13 => ?_)
            refine wp_seq_k (fun K14 hK14 => ?_)
            refine wp_region_lit ?_
            refine goCh Hz (.move rfl <| .loadBR m48 (i := 703) rfl rfl Tryz.underlying25 rfl sz25rv (by simp) (by dsimp only [List.drop, List.take] <;> rfl) <| .nil) ?_
            clear Hz Az; intro Az Hz
            refine wpList_plain rfl (fun K hK => ?_)
            refine e_call Hz Tryz.func21 rfl rfl rfl rfl (twice_b vl s.x.te s.x.vo _ _ _ (by omega) hvi ((m48.ok 60 _ rfl : Res.ok _ _ _ _ (.seg _ _ _ _)).1.rd (S' := fun _ => True) (fun _ _ _ => trivial) (fun _ _ => trivial))) ?_
            rintro e w53 ⟨rfl, hb53⟩
            have m54 := m48.later hb53
            clear m48
            clear hb53
            refine ⟨_, rfl, ?_⟩; clear Hz Az; intro Az Hz
            refine hK _ _ ?_; clear hK K
            refine wpList_nil ?_
            refine hK14 _ _ ?_; clear hK14; try clear K14
            refine wp_cond_false (Hz.ev (x := .tmp 152) rfl) ?_
            refine wp_skip ?_
            refine hK13 _ _ ?_; clear hK13; try clear K13
            replace Hz : Has 157 [(1, _), (2, _), (8, _), (9, _), (10, _), (11, _), (12, _), (21, _)] Az := Hz.only [1, 2, 8, 9, 10, 11, 12, 21]
            refine wp_region_lit ?_
            refine goCh Hz (.move rfl <| .loadBR m54 (i := 703) rfl rfl Tryz.underlying25 rfl sz25rv (by simp) (by dsimp only [List.drop, List.take] <;> rfl) <| .nil) ?_
            clear Hz Az; intro Az Hz
            refine wpList_plain rfl (fun K hK => ?_)
            refine e_litR Hz m54 704 (mm := 2) rfl (.cons rfl rfl (.cons (.v _) (.cons (.v _) .nil)) <| .nil) Tryz.underlying51 inf25rv rfl rfl rfl rfl rfl ?_
            clear Hz Az m54; intro g59 Az w60 Hz m60
            refine hK _ _ ?_; clear hK K
            have m62 := m60.freezeR 704 rfl; clear m60
            refine wpList_plain rfl (fun K hK => ?_)
            refine e_appSA Hz m62 60 rfl rfl rfl (m62.rd (i := 704) rfl).cells Tryz.underlying51 inf25rv rfl rfl (by decide) (by simp; omega) rfl ?_
            clear Hz Az m62; intro p61 c61 Az w63 Hz m63
            refine hK _ _ ?_; clear hK K
            refine goCh Hz (.assign rfl .nil) ?_
            clear Hz Az; intro Az Hz
            refine wpList_nil ?_
            refine hK7 _ _ ?_; clear hK7; try clear K7
            refine wp_region_lit ?_
            refine goCh Hz (.move rfl <| .add rfl rfl (r := ((k + 1 : Nat) : Int)) (by rw [IntWalk.i64_in _ (by omega)]; omega) <| .assign rfl <| .nil) ?_
            clear Hz Az; intro Az Hz
            refine wpList_nil ?_
            show ∃ n', n' < _ ∧ _
            have hE : vl.map hdD ++ [[.v (.int .i64 s.x.te), .v (.int .i64 s.x.vo)]] = (vl ++ [(s.x.te, s.x.vo)]).map hdD := by rw [List.map_append]; rfl
            rw [hE] at m63 Hz
            exact ⟨ls.length - (k + 1), by omega, k + 1, R, W, s, v, p9, q9, vl ++ [(s.x.te, s.x.vo)], _, _, by omega, rfl, hs, hv9, hid, hiv, hvi.push, by rw [List.length_append, List.length_singleton]; omega, Hz.only [1, 2, 8, 9, 10, 11, 12], m63.only [60, 101, 102, 103, 104, 105, 106, 107, 108, 1, 2, 3, 4, 5, 6, 7, 8]⟩
       ·
        clear Hz; intro hb24 Hz
        try simp only [Q1x, Q2x, Q3x, Q4x, Q5x, Q6x, Q7x, Q8x, Q9x, Q0x, Qax, Qbx] at hb24
        refine wp_cond_false (Hz.ev (x := .tmp 43) rfl) ?_
        refine wp_exit ?_
        refine hK5 _ _ ?_; clear hK5; try clear K5
        refine regS Hz (.assign rfl <| .nil) ?_
        clear Hz Az; intro Az Hz
        refine wp_ret ?_
        try dsimp only [Exit.then, Exit.inBlock]
        refine (ret1 (fn := Tryz.f4) Hz rfl rfl ?_)
        exact ⟨rfl, m19.below⟩
end Go.Proofs.YtndnnlbdnjndiaaGreat.K
