/- WalPlays. -/
import Derived.Test.YtogjhjiapinmcaaDoorWalQ
import Derived.Test.YtogjhjiapinmcaaDoorWalBo
import Derived.Test.YtogjhjiapinmcaaDoorG3
namespace Go.Proofs.YtogjhjiapinmcaaDoor.K
open Go.ChangeShapes Go.WideShapes Go.ChangeAt Go.RowKit
set_option linter.unusedVariables false
set_option linter.unusedSimpArgs false

theorem inf5wpl : (Tryd.prog.info? 5).map (fun i => (i.zero, i.size, i.bytes)) = some (some (.int .u8 0), 1, 1) := by kernel_rfl
theorem inf24wpl : (Tryd.prog.info? 24).map (fun i => (i.zero, i.size, i.bytes)) = some (some (.slice none 0 0), 1, 24) := by kernel_rfl
theorem inf32wpl : (Tryd.prog.info? 32).map (fun i => (i.zero, i.size, i.bytes)) = some (some (.int .u64 0), 1, 8) := by kernel_rfl
theorem inf39wpl : (Tryd.prog.info? 39).map (fun i => (i.zero, i.size, i.bytes)) = some (some (.agg #[.int .i64 0, .int .i64 0]), 2, 16) := by kernel_rfl
theorem sz3wpl : (Tryd.prog.info? 3).map (·.size) = some 1 := by kernel_rfl
theorem sz24wpl : (Tryd.prog.info? 24).map (·.size) = some 1 := by kernel_rfl
theorem sz32wpl : (Tryd.prog.info? 32).map (·.size) = some 1 := by kernel_rfl
theorem sz39wpl : (Tryd.prog.info? 39).map (·.size) = some 2 := by kernel_rfl
theorem zc39wpl : ((Tryd.prog.info? 39).bind (·.zero)).map (·.cells.toList) = some [.int .i64 0, .int .i64 0] := by kernel_rfl

set_option maxRecDepth 100000
set_option maxHeartbeats 4000000
def xD5 (x : Int × Int) : List D := [D.v (.int .i64 x.1), D.v (.int .i64 x.2)]
theorem xD5_at {xs : List (Int × Int)} {j : Nat} {a b : Int} (h : xs[j]? = some (a, b)) : (xs.map xD5)[j]? = some [D.v (.int .i64 a), D.v (.int .i64 b)] := by
 rw [List.getElem?_map, h]; rfl
theorem plays_walk (ls : List (List Int)) (gs : List Int) (fr to : Int) (ov : List Int) (a9 : Nat) (rv : List Int) (sz : Nat) (pl pg po pr : Option Addr) (cl cg co cr : Nat) (w0 : World) (hT : TabOk w0) (h01 : 1 ≤ w0.heap.size) (ha0 : Rd (fun _ => True) w0 (.slice pl ls.length cl) (.l 1 (ls.map bD))) (ha1 : Rd (fun _ => True) w0 (.slice pg gs.length cg) (.ns .u64 gs)) (ha4 : Rd (fun _ => True) w0 (.slice po ov.length co) (.ns .u8 ov)) (ha6 : Rd (fun _ => True) w0 (.slice pr rv.length cr) (.ns .u8 rv))
   (hLb : ∀ x ∈ ls, BytesL x) (gsB : ∀ k, k < gs.length → 0 ≤ gs.getD k 0 ∧ gs.getD k 0 ≤ 18446744073709551615) (hovB : BytesL ov) (hrwB : BytesL rv) (hfr : -9223372036854775808 ≤ fr ∧ fr ≤ 9223372036854775807) (hto : -9223372036854775808 ≤ to ∧ to ≤ 9223372036854775807) (ha9 : a9 ≤ 255) (hsz : sz ≤ 65535) :
   Calls Tryd.prog 3 #[.slice pl ls.length cl, .slice pg gs.length cg, .int .i64 fr, .int .i64 to, .slice po ov.length co, .int .u8 a9, .slice pr rv.length cr, .int .u16 sz] w0 fun e w' => e = .returned (.bool true) ∧ Below w0.heap.size w0 w' := by
 refine enter (fn := Tryd.f3) Tryd.func3 rfl Tryd.ntmps3 rfl (fun Az Hz => ?_)
 simp only [List.zipIdx_cons, List.zipIdx_nil, List.map_cons, List.map_nil, Nat.reduceAdd, Nat.zero_add] at Hz
 obtain ⟨ff, hff⟩ : ∃ r : Nat, fr % ((8 : Nat) : Int) = r := ⟨(fr % ((8 : Nat) : Int)).toNat, by omega⟩
 obtain ⟨t0, ht0⟩ : ∃ r : Nat, to % ((14 : Nat) : Int) = r := ⟨(to % ((14 : Nat) : Int)).toNat, by omega⟩
 obtain ⟨tt, htt⟩ : ∃ r : Nat, 10 + t0 = r := ⟨_, rfl⟩
 have hff8 : ff < 8 := by omega
 have ht14 : t0 < 14 := by omega
 have hZ : (List.replicate 20 zeros).length = 20 := List.length_replicate
 have m00 := MemOk.start (fun _ => True) w0
 have m01 := m00.addTab 5 rfl hT h01 ⟨fun _ => trivial, fun ⟨i, r, h, _⟩ => by cases h⟩
 have m02 := m01.dat 1 rfl (m01.old ha0)
 have m03 := m02.dat 2 rfl (m02.old ha1)
 have m04 := m03.dat 3 rfl (m03.old ha4)
 have m0 := m04.dat 4 rfl (m04.old ha6)
 clear m00 m01 m02 m03 m04
 refine regS Hz (.assign rfl <| .nil) ?_
 clear Hz Az; intro Az Hz
 refine wp_seq_k (fun K0 hK0 => ?_)
 refine wp_seq_k (fun K1 hK1 => ?_)
 refine wp_region_lit ?_
 refine wpList_plain rfl (fun K hK => ?_)
 refine e_call Hz Tryd.func7 rfl rfl rfl rfl (known_x _ (hT.below m0.below h01) (Nat.le_trans h01 m0.below.size)) ?_
 rintro e w2 ⟨rfl, hb2⟩
 have m3 := m0.later hb2
 clear m0
 clear hb2
 refine ⟨_, rfl, ?_⟩; clear Hz Az; intro Az Hz
 refine hK _ _ ?_; clear hK K
 refine goCh Hz (.not rfl .nil) ?_
 clear Hz Az; intro Az Hz
 refine wpList_nil ?_
 refine hK1 _ _ ?_; clear hK1; try clear K1
 refine wp_cond_false (Hz.ev (x := .tmp 42) rfl) ?_
 refine wp_skip ?_
 refine hK0 _ _ ?_; clear hK0; try clear K0
 refine wp_seq_k (fun K2 hK2 => ?_)
 refine wp_seq_k (fun K3 hK3 => ?_)
 refine wp_region_lit ?_
 refine goCh Hz (.move rfl <| .len rfl Tryd.underlying22 <| .gtr rfl rfl <| .move rfl <| .nil) ?_
 clear Hz Az; intro Az Hz
 refine bool_cases Hz (t := 46) rfl ?_ ?_
 ·
  clear Hz; intro hb14 Hz
  try simp only [Q1x, Q2x, Q3x, Q4x, Q5x, Q6x, Q7x, Q8x, Q9x, Q0x, Qax, Qbx] at hb14
  refine goCh Hz (.sk <| .sk <| .sk <| .sk <| .sk <| .pickT rfl rfl <| .move rfl <| .sk <| .sk <| .sk <| .pickT rfl rfl <| .move rfl <| .sk <| .sk <| .sk <| .pickT rfl rfl <| .nil) ?_
  clear Hz Az; intro Az Hz
  refine wpList_nil ?_
  refine hK3 _ _ ?_; clear hK3; try clear K3
  refine wp_cond_true (Hz.ev (x := .tmp 62) rfl) ?_
  replace Hz : Has 263 [(0, _), (1, _), (2, _), (3, _), (4, _), (5, _), (6, _), (7, _), (16, _)] Az := Hz.only [0, 1, 2, 3, 4, 5, 6, 7, 16]
  refine regS Hz (.assign rfl <| .nil) ?_
  clear Hz Az; intro Az Hz
  refine wp_ret ?_
  try dsimp only [Exit.then, Exit.inBlock]
  refine (ret1 (fn := Tryd.f3) Hz rfl rfl ?_)
  exact ⟨by first | rfl | simp, m3.below⟩
 ·
  clear Hz; intro hb14 Hz
  try simp only [Q1x, Q2x, Q3x, Q4x, Q5x, Q6x, Q7x, Q8x, Q9x, Q0x, Qax, Qbx] at hb14
  have hl8 : ls.length ≤ 8 := by have := hb14; first | omega | (simp at this; omega)
  refine goCh Hz (.moveZ rfl <| .lenZ rfl Tryd.underlying23 <| .moveZ rfl <| .lenZ rfl Tryd.underlying22 <| .lssZ rfl rfl <| .pickF rfl rfl <| .move rfl <| .nil) ?_
  clear Hz Az; intro Az Hz
  refine bool_cases Hz (t := 53) rfl ?_ ?_
  ·
   clear Hz; intro hb40 Hz
   try simp only [Q1x, Q2x, Q3x, Q4x, Q5x, Q6x, Q7x, Q8x, Q9x, Q0x, Qax, Qbx] at hb40
   refine goCh Hz (.sk <| .sk <| .sk <| .pickT rfl rfl <| .move rfl <| .sk <| .sk <| .sk <| .pickT rfl rfl <| .nil) ?_
   clear Hz Az; intro Az Hz
   refine wpList_nil ?_
   refine hK3 _ _ ?_; clear hK3; try clear K3
   refine wp_cond_true (Hz.ev (x := .tmp 62) rfl) ?_
   replace Hz : Has 263 [(0, _), (1, _), (2, _), (3, _), (4, _), (5, _), (6, _), (7, _), (16, _)] Az := Hz.only [0, 1, 2, 3, 4, 5, 6, 7, 16]
   refine regS Hz (.assign rfl <| .nil) ?_
   clear Hz Az; intro Az Hz
   refine wp_ret ?_
   try dsimp only [Exit.then, Exit.inBlock]
   refine (ret1 (fn := Tryd.f3) Hz rfl rfl ?_)
   exact ⟨by first | rfl | simp, m3.below⟩
  ·
   clear Hz; intro hb40 Hz
   try simp only [Q1x, Q2x, Q3x, Q4x, Q5x, Q6x, Q7x, Q8x, Q9x, Q0x, Qax, Qbx] at hb40
   have hgl : ls.length ≤ gs.length := by have := hb40; first | omega | (simp at this; omega)
   refine goCh Hz (.moveZ rfl <| .lenZ rfl Tryd.underlying24 <| .gtrZ rfl rfl <| .pickF rfl rfl <| .move rfl <| .nil) ?_
   clear Hz Az; intro Az Hz
   refine bool_cases Hz (t := 58) rfl ?_ ?_
   ·
    clear Hz; intro hb57 Hz
    try simp only [Q1x, Q2x, Q3x, Q4x, Q5x, Q6x, Q7x, Q8x, Q9x, Q0x, Qax, Qbx] at hb57
    refine goCh Hz (.sk <| .sk <| .sk <| .pickT rfl rfl <| .nil) ?_
    clear Hz Az; intro Az Hz
    refine wpList_nil ?_
    refine hK3 _ _ ?_; clear hK3; try clear K3
    refine wp_cond_true (Hz.ev (x := .tmp 62) rfl) ?_
    replace Hz : Has 263 [(0, _), (1, _), (2, _), (3, _), (4, _), (5, _), (6, _), (7, _), (16, _)] Az := Hz.only [0, 1, 2, 3, 4, 5, 6, 7, 16]
    refine regS Hz (.assign rfl <| .nil) ?_
    clear Hz Az; intro Az Hz
    refine wp_ret ?_
    try dsimp only [Exit.then, Exit.inBlock]
    refine (ret1 (fn := Tryd.f3) Hz rfl rfl ?_)
    exact ⟨by first | rfl | simp, m3.below⟩
   ·
    clear Hz; intro hb57 Hz
    try simp only [Q1x, Q2x, Q3x, Q4x, Q5x, Q6x, Q7x, Q8x, Q9x, Q0x, Qax, Qbx] at hb57
    have hov : ov.length ≤ 64 := by have := hb57; first | omega | (simp at this; omega)
    refine goCh Hz (.moveZ rfl <| .lenZ rfl Tryd.underlying24 <| .gtrZ rfl rfl <| .pickF rfl rfl <| .nil) ?_
    clear Hz Az; intro Az Hz
    refine wpList_nil ?_
    refine hK3 _ _ ?_; clear hK3; try clear K3
    refine bool_cases Hz (t := 62) rfl ?_ ?_
    ·
     clear Hz; intro hb68 Hz
     try simp only [Q1x, Q2x, Q3x, Q4x, Q5x, Q6x, Q7x, Q8x, Q9x, Q0x, Qax, Qbx] at hb68
     refine wp_cond_true (Hz.ev (x := .tmp 62) rfl) ?_
     replace Hz : Has 263 [(0, _), (1, _), (2, _), (3, _), (4, _), (5, _), (6, _), (7, _), (16, _)] Az := Hz.only [0, 1, 2, 3, 4, 5, 6, 7, 16]
     refine regS Hz (.assign rfl <| .nil) ?_
     clear Hz Az; intro Az Hz
     refine wp_ret ?_
     try dsimp only [Exit.then, Exit.inBlock]
     refine (ret1 (fn := Tryd.f3) Hz rfl rfl ?_)
     exact ⟨by first | rfl | simp, m3.below⟩
    ·
     clear Hz; intro hb68 Hz
     try simp only [Q1x, Q2x, Q3x, Q4x, Q5x, Q6x, Q7x, Q8x, Q9x, Q0x, Qax, Qbx] at hb68
     have hrw : rv.length ≤ 64 := by have := hb68; first | omega | (simp at this; omega)
     refine wp_cond_false (Hz.ev (x := .tmp 62) rfl) ?_
     refine wp_skip ?_
     refine hK2 _ _ ?_; clear hK2; try clear K2
     replace Hz : Has 263 [(0, _), (1, _), (2, _), (3, _), (4, _), (5, _), (6, _), (7, _), (16, _)] Az := Hz.only [0, 1, 2, 3, 4, 5, 6, 7, 16]
     refine wp_seq_k (fun K4 hK4 => ?_)
     refine wp_region_lit ?_
     refine wpList_plain rfl (fun K hK => ?_)
     refine e_call Hz Tryd.func8 rfl rfl rfl rfl (kdnew 20 20 rfl (by omega) _) ?_
     rintro e w72 ⟨B9, S9, rfl, hS72, hD72, hb72⟩
     obtain ⟨hKd, md72⟩ := m3.newD 20 hb72 hS72 hD72
     clear hb72 hS72 hD72
     refine ⟨_, rfl, ?_⟩; clear Hz Az; intro Az Hz
     refine hK _ _ ?_; clear hK K
     have m74 : MemOk _ _ [(20, Dk.rb (⟨.slice none 0 0, [], (List.replicate 20 zeros), [], -1⟩ : Dk) B9 S9), (21, Dk.ru (⟨.slice none 0 0, [], (List.replicate 20 zeros), [], -1⟩ : Dk)), (22, Dk.rs (⟨.slice none 0 0, [], (List.replicate 20 zeros), [], -1⟩ : Dk) S9), (1, _), (2, _), (3, _), (4, _), (5, _)] _ := md72.only [20, 21, 22, 1, 2, 3, 4, 5]; clear md72 m3
     refine wpList_plain rfl (fun K hK => ?_)
     refine e_call Hz Tryd.func9 rfl rfl rfl rfl (rnew_x _ 20 _ (by omega) (m74.into [] (by decide) rfl)) ?_
     rintro e w75 ⟨B, pS, cS, rfl, hm75⟩
     have mx75 := m74.back hm75 [(10, 1), (11, 2)] (by decide); clear hm75 m74
     have m75 : MemOk _ _ [(10, _), (11, _), (1, _), (2, _), (3, _), (4, _), (5, _), (20, _), (21, _), (22, _)] _ := mx75.only [10, 11, 1, 2, 3, 4, 5, 20, 21, 22]; clear mx75
     refine ⟨_, rfl, ?_⟩; clear Hz Az; intro Az Hz
     refine hK _ _ ?_; clear hK K
     have m77 := m75.dat 12 rfl (v := .slice none 0 0) (d := .l 2 []) (.l0 none 0 2); clear m75
     refine goCh Hz (.assign rfl <| .assign rfl <| .nil) ?_
     clear Hz Az; intro Az Hz
     refine wpList_nil ?_
     refine hK4 _ _ ?_; clear hK4; try clear K4
     refine wp_seq_k (fun K5 hK5 => ?_)
     refine wp_region_lit ?_
     refine goCh Hz (.move rfl .nil) ?_
     clear Hz Az; intro Az Hz
     refine wpList_plain rfl (fun K hK => ?_)
     refine e_call Hz Tryd.func10 rfl rfl rfl rfl (place_v fr 8 ff _ hff (by omega) (by omega) hfr.1 hfr.2) ?_
     rintro e w82 ⟨rfl, hb82⟩
     have m83 := m77.later hb82
     clear m77
     clear hb82
     refine ⟨_, rfl, ?_⟩; clear Hz Az; intro Az Hz
     refine hK _ _ ?_; clear hK K
     refine goCh Hz (.move rfl .nil) ?_
     clear Hz Az; intro Az Hz
     refine wpList_plain rfl (fun K hK => ?_)
     refine e_call Hz Tryd.func10 rfl rfl rfl rfl (place_v to 14 t0 _ ht0 (by omega) (by omega) hto.1 hto.2) ?_
     rintro e w86 ⟨rfl, hb86⟩
     have m87 := m83.later hb86
     clear m83
     clear hb86
     refine ⟨_, rfl, ?_⟩; clear Hz Az; intro Az Hz
     refine hK _ _ ?_; clear hK K
     refine goCh Hz (.add rfl rfl (r := (tt : Int)) (by rw [IntWalk.i64_in _ (by omega)]; omega) <| .assign rfl <| .assign rfl <| .nil) ?_
     clear Hz Az; intro Az Hz
     refine wpList_nil ?_
     refine hK5 _ _ ?_; clear hK5; try clear K5
     replace Hz : Has 263 [(0, _), (1, _), (2, _), (3, _), (4, _), (5, _), (6, _), (7, _), (16, _), (17, _), (18, _), (19, _), (20, _)] Az := Hz.only [0, 1, 2, 3, 4, 5, 6, 7, 16, 17, 18, 19, 20]
     refine regS Hz (.move rfl <| .assign rfl <| .nil) ?_
     clear Hz Az; intro Az Hz
     refine wp_seq_k (fun K6 hK6 => ?_)
     refine regS Hz (.assign rfl <| .nil) ?_
     clear Hz Az; intro Az Hz
     refine wp_block ?_
     refine wp_loop_ghost (fun g a w => ∃ (k n : Nat) (KH : Dk) (wl : List (Int × List Int)) (p : Option Addr) (c : Nat) (pl pg : Option Addr), k ≤ ls.length ∧ g = ls.length - k ∧ n ≤ tt ∧ n ≤ 20 ∧ KH.ok B9 S9 ∧ KH.l = -1 ∧ KH.secs.length = 20 ∧ (∀ i, i < 20 → curV (List.replicate 20 zeros) wl i = KH.secs.getD i []) ∧ KH.uns.length ≤ 20 * k ∧ wl.length ≤ 20 * k ∧ Has 263 [(0, .slice pl ls.length cl), (1, .slice pg gs.length cg), (2, .int .i64 fr), (3, .int .i64 to), (4, .slice po ov.length co), (5, .int .u8 (a9 : Nat)), (6, .slice pr rv.length cr), (7, .int .u16 (sz : Nat)), (17, .pointer (some ⟨B9, 0, none⟩)), (18, .pointer (some ⟨B, 0, none⟩)), (19, .int .i64 (ff : Nat)), (20, .int .i64 (tt : Nat)), (21, .int .i64 (n : Nat)), (22, .int .i64 (k : Nat))] a ∧ MemOk (cxt w0) w0 [(20, KH.rb B9 S9), (21, KH.ru), (22, KH.rs S9), (1, .dat (.slice pl ls.length cl) (.l 1 (ls.map bD))), (2, .dat (.slice pg gs.length cg) (.ns .u64 gs)), (3, .dat (.slice po ov.length co) (.ns .u8 ov)), (4, .dat (.slice pr rv.length cr) (.ns .u8 rv)), (5, tabR), (10, .box B 60 [.slice pS (List.replicate 20 zeros).length cS, .slice p wl.length c, .int .i64 (-1)]), (11, .dat (.slice pS (List.replicate 20 zeros).length cS) (.l 1 ((List.replicate 20 zeros).map bD))), (12, .dat (.slice p wl.length c) (.l 2 (wl.map wD)))] w) (ls.length) ?_ ?_
     · exact ⟨0, ff, (⟨.slice none 0 0, [], (List.replicate 20 zeros), [], -1⟩ : Dk), [], _, _, _, _, Nat.zero_le _, rfl, by omega, by omega, hKd, rfl, hZ, fun i hi => rfl, by simp, by simp, Hz.only [0, 1, 2, 3, 4, 5, 6, 7, 17, 18, 19, 20, 21, 22], m87.only [20, 21, 22, 1, 2, 3, 4, 5, 10, 11, 12]⟩
     ·
      clear Hz m87
      rintro g Az w96 ⟨k, n, KH, wl, p, c, pl, pg, hkl, hg, hnt, hn20, hKH, hl9, hSL, hV, hUl, hWl, Hz, m96⟩
      refine wp_seq_k (fun K7 hK7 => ?_)
      refine regS Hz (.move rfl <| .move rfl <| .len rfl Tryd.underlying22 <| .lss rfl rfl <| .nil) ?_
      clear Hz Az; intro Az Hz
      refine bool_cases Hz (t := 74) rfl ?_ ?_
      ·
       clear Hz; intro hb101 Hz
       try simp only [Q1x, Q2x, Q3x, Q4x, Q5x, Q6x, Q7x, Q8x, Q9x, Q0x, Qax, Qbx] at hb101
       have hk : k < ls.length := by have := hb101; first | omega | (simp at this; omega)
       have hkg : k < gs.length := by omega
       have hg9 := gsB k hkg
       have hlb : BytesL (ls.getD k []) := hLb _ (by rw [List.getD, List.getElem?_eq_getElem hk]; exact List.getElem_mem hk)
       refine wp_cond_true (Hz.ev (x := .tmp 74) rfl) ?_
       refine wp_skip ?_
       refine hK7 _ _ ?_; clear hK7; try clear K7
       refine wp_seq_k (fun K8 hK8 => ?_)
       refine wp_block ?_
       refine wp_seq_k (fun K9 hK9 => ?_)
       refine wp_seq_k (fun K10 hK10 => ?_)
       refine wp_region_lit ?_
       refine goCh Hz (.move rfl <| .move rfl <| .nil) ?_
       clear Hz Az; intro Az Hz
       obtain ⟨b107, o107, vs107, hp107, hR107, ho107, m107⟩ := m96.openR (i := 1) rfl (k) (r := bD (ls.getD k [])) (bD_at hk) 100 rfl
       cases hp107; clear m96 ho107
       rcases hR107 with _ | ⟨hd107_0, _ | _⟩
       obtain ⟨p108, c108, hv108, hc108⟩ := hd107_0.ns_shape; subst hv108
       have m108 := m107.dat 101 rfl (hd107_0.cast (fun _ h => (free_add rfl h))); clear m107 hd107_0
       refine goCh Hz (.c rfl (fun _ h => y_idx h rfl rfl Tryd.underlying22 sz24wpl (k) rfl hk) <| .loadC0 m108 (i := 100) rfl rfl Tryd.underlying24 rfl <| .len rfl Tryd.underlying24 <| .gtr rfl rfl <| .nil) ?_
       clear Hz Az; intro Az Hz
       refine wpList_nil ?_
       refine hK10 _ _ ?_; clear hK10; try clear K10
       refine bool_cases Hz (t := 82) rfl ?_ ?_
       ·
        clear Hz; intro hb113 Hz
        try simp only [Q1x, Q2x, Q3x, Q4x, Q5x, Q6x, Q7x, Q8x, Q9x, Q0x, Qax, Qbx] at hb113
        refine wp_cond_true (Hz.ev (x := .tmp 82) rfl) ?_
        replace Hz : Has 263 [(0, _), (1, _), (2, _), (3, _), (4, _), (5, _), (6, _), (7, _), (17, _), (18, _), (19, _), (20, _), (21, _), (22, _)] Az := Hz.only [0, 1, 2, 3, 4, 5, 6, 7, 17, 18, 19, 20, 21, 22]
        refine regS Hz (.assign rfl <| .nil) ?_
        clear Hz Az; intro Az Hz
        refine wp_ret ?_
        try dsimp only [Exit.then, Exit.inBlock]
        refine (ret1 (fn := Tryd.f3) Hz rfl rfl ?_)
        exact ⟨by first | rfl | simp, m108.below⟩
       ·
        clear Hz; intro hb113 Hz
        try simp only [Q1x, Q2x, Q3x, Q4x, Q5x, Q6x, Q7x, Q8x, Q9x, Q0x, Qax, Qbx] at hb113
        have hlk : (ls.getD k []).length ≤ 200 := by have := hb113; first | omega | (simp at this; omega)
        have hBl : ((ls.getD k []) ++ List.replicate (sz % 90) (0 : Int)).length ≤ 9000 := by rw [List.length_append, List.length_replicate]; omega
        have hBB : BytesL ((ls.getD k []) ++ List.replicate (sz % 90) (0 : Int)) := bytesApp hlb (fun x hx => by rw [List.eq_of_mem_replicate hx]; omega)
        refine wp_cond_false (Hz.ev (x := .tmp 82) rfl) ?_
        refine wp_skip ?_
        refine hK9 _ _ ?_; clear hK9; try clear K9
        replace Hz : Has 263 [(0, _), (1, _), (2, _), (3, _), (4, _), (5, _), (6, _), (7, _), (17, _), (18, _), (19, _), (20, _), (21, _), (22, _)] Az := Hz.only [0, 1, 2, 3, 4, 5, 6, 7, 17, 18, 19, 20, 21, 22]
        refine wp_seq_k (fun K11 hK11 => ?_)
        refine wp_region_lit ?_
        refine goCh Hz (.move rfl <| .move rfl <| .nil) ?_
        clear Hz Az; intro Az Hz
        obtain ⟨b122, o122, hp122, m122⟩ := m108.openN (i := 2) rfl (k) hkg 102 rfl
        cases hp122; clear m108
        refine goCh Hz (.c rfl (fun _ h => y_idx h rfl rfl Tryd.underlying23 sz32wpl (k) rfl hkg) <| .loadC0 m122 (i := 102) rfl rfl Tryd.underlying32 rfl <| .rem rfl rfl (by omega) (r := gs.getD k 0 % 2) (Int.tmod_eq_emod_of_nonneg hg9.1) <| .mul rfl rfl (IntWalk.u64_in _ (by omega)) <| .assign rfl <| .nil) ?_
        clear Hz Az; intro Az Hz
        refine wpList_nil ?_
        refine hK11 _ _ ?_; clear hK11; try clear K11
        refine wp_seq_k (fun K12 hK12 => ?_)
        have hC12 : ∀ (a : Act) (w : World), (∃ (gv : Int) (pl pg : Option Addr), 0 ≤ gv ∧ gv ≤ 18446744073709551615 ∧ Has 263 [(0, .slice pl ls.length cl), (1, .slice pg gs.length cg), (2, .int .i64 fr), (3, .int .i64 to), (4, .slice po ov.length co), (5, .int .u8 (a9 : Nat)), (6, .slice pr rv.length cr), (7, .int .u16 (sz : Nat)), (17, .pointer (some ⟨B9, 0, none⟩)), (18, .pointer (some ⟨B, 0, none⟩)), (19, .int .i64 (ff : Nat)), (20, .int .i64 (tt : Nat)), (21, .int .i64 (n : Nat)), (22, .int .i64 (k : Nat)), (23, .int .u64 gv)] a ∧ MemOk (cxt w0) w0 [(20, KH.rb B9 S9), (21, KH.ru), (22, KH.rs S9), (1, .dat (.slice pl ls.length cl) (.l 1 (ls.map bD))), (2, .dat (.slice pg gs.length cg) (.ns .u64 gs)), (3, .dat (.slice po ov.length co) (.ns .u8 ov)), (4, .dat (.slice pr rv.length cr) (.ns .u8 rv)), (5, tabR), (10, .box B 60 [.slice pS (List.replicate 20 zeros).length cS, .slice p wl.length c, .int .i64 (-1)]), (11, .dat (.slice pS (List.replicate 20 zeros).length cS) (.l 1 ((List.replicate 20 zeros).map bD))), (12, .dat (.slice p wl.length c) (.l 2 (wl.map wD)))] w) → K12 a w := by
          clear Hz m122
          rintro Az w128 ⟨gv, pl, pg, hgv0, hgv1, Hz, m128⟩
          refine hK12 _ _ ?_; clear hK12; try clear K12
          refine wp_seq_k (fun K13 hK13 => ?_)
          refine wp_region_lit ?_
          refine goCh Hz (.move rfl <| .move rfl <| .nil) ?_
          clear Hz Az; intro Az Hz
          obtain ⟨b134, o134, vs134, hp134, hR134, ho134, m134⟩ := m128.openR (i := 1) rfl (k) (r := bD (ls.getD k [])) (bD_at hk) 200 rfl
          cases hp134; clear m128 ho134
          rcases hR134 with _ | ⟨hd134_0, _ | _⟩
          obtain ⟨p135, c135, hv135, hc135⟩ := hd134_0.ns_shape; subst hv135
          have m135 := m134.dat 201 rfl (hd134_0.cast (fun _ h => (free_add rfl h))); clear m134 hd134_0
          refine goCh Hz (.c rfl (fun _ h => y_idx h rfl rfl Tryd.underlying22 sz24wpl (k) rfl hk) <| .loadC0 m135 (i := 200) rfl rfl Tryd.underlying24 rfl <| .nil) ?_
          clear Hz Az; intro Az Hz
          refine wpList_plain rfl (fun K hK => ?_)
          refine e_app0N Hz m135 202 rfl rfl (m135.nums (i := 201) rfl) Tryd.underlying24 inf5wpl (by decide) (by omega) rfl ?_
          clear Hz Az m135; intro p138 c138 Az w139 Hz m139
          refine hK _ _ ?_; clear hK K
          refine goCh Hz (.move rfl <| .rem rfl rfl (by omega) (r := ((sz % 90 : Nat) : Int)) (by rw [Int.tmod_eq_emod_of_nonneg (by omega)]; omega) <| .conv rfl Tryd.underlying25 Tryd.underlying3 (IntWalk.i64_in _ (by omega)) <| .nil) ?_
          clear Hz Az; intro Az Hz
          refine wpList_plain rfl (fun K hK => ?_)
          refine e_appZ Hz m139 202 (sz % 90) rfl rfl rfl Tryd.underlying24 Tryd.underlying3 inf5wpl (by decide) (by omega) rfl ?_
          clear Hz Az m139; intro p143 c143 Az w144 Hz m144
          refine hK _ _ ?_; clear hK K
          refine goCh Hz (.assign rfl .nil) ?_
          clear Hz Az; intro Az Hz
          refine wpList_nil ?_
          refine hK13 _ _ ?_; clear hK13; try clear K13
          replace Hz : Has 263 [(0, _), (1, _), (2, _), (3, _), (4, _), (5, _), (6, _), (7, _), (17, _), (18, _), (19, _), (20, _), (21, _), (22, _), (23, _), (24, _)] Az := Hz.only [0, 1, 2, 3, 4, 5, 6, 7, 17, 18, 19, 20, 21, 22, 23, 24]
          refine wp_seq_k (fun K14 hK14 => ?_)
          refine wp_region_lit ?_
          refine goCh Hz (.move rfl <| .move rfl <| .move rfl <| .move rfl <| .move rfl <| .nil) ?_
          clear Hz Az; intro Az Hz
          have m157 := m144.freezeN 202 rfl; clear m144
          refine wpList_plain rfl (fun K hK => ?_)
          refine e_call Hz Tryd.func11 rfl rfl rfl rfl (append_c _ KH n tt gv ((ls.getD k []) ++ List.replicate (sz % 90) (0 : Int)) _ _ _ (n := 20) hSL hKH hl9 (by omega) hnt hn20 (by omega) hBB hBl (Nat.le_trans h01 m157.keep.2.2.2.1) (m157.into [(1, 20), (2, 21), (3, 22), (4, 202), (5, 5)] (by decide) (passD rfl))) ?_
          rintro e w158 ⟨rfl, KD, hKD, hlD, hSD, hUD, hm158⟩
          have mx158 := m157.back hm158 [(20, 1), (21, 2), (22, 3), (202, 4), (5, 5)] (by decide); clear hm158 m157
          have m158 : MemOk _ _ [(20, _), (21, _), (22, _), (202, _), (5, _), (1, _), (2, _), (3, _), (4, _), (10, _), (11, _), (12, _), (200, _), (201, _)] _ := mx158.only [20, 21, 22, 202, 5, 1, 2, 3, 4, 10, 11, 12, 200, 201]; clear mx158
          refine ⟨_, rfl, ?_⟩; clear Hz Az; intro Az Hz
          refine hK _ _ ?_; clear hK K
          refine goCh Hz (.move rfl <| .extract rfl rfl <| .extract rfl rfl <| .assign rfl <| .assign rfl <| .nil) ?_
          clear Hz Az; intro Az Hz
          refine wpList_nil ?_
          refine hK14 _ _ ?_; clear hK14; try clear K14
          replace Hz : Has 263 [(0, _), (1, _), (2, _), (3, _), (4, _), (5, _), (6, _), (7, _), (17, _), (18, _), (19, _), (20, _), (21, _), (22, _), (23, _), (24, _), (25, _), (26, _)] Az := Hz.only [0, 1, 2, 3, 4, 5, 6, 7, 17, 18, 19, 20, 21, 22, 23, 24, 25, 26]
          refine wp_seq_k (fun K15 hK15 => ?_)
          refine wp_region_lit ?_
          refine goCh Hz (.move rfl <| .move rfl <| .move rfl <| .move rfl <| .move rfl <| .nil) ?_
          clear Hz Az; intro Az Hz
          refine wpList_plain rfl (fun K hK => ?_)
          refine e_call Hz Tryd.func12 rfl rfl rfl rfl (rappend_c _ _ (List.replicate 20 zeros) wl n tt gv ((ls.getD k []) ++ List.replicate (sz % 90) (0 : Int)) _ _ _ _ _ _ _ (n := 20) hZ hBB hBl (by omega) (by omega) hnt hn20 (m158.into [(1, 10), (2, 11), (3, 12), (4, 202)] (by decide) rfl)) ?_
          rintro e w176 ⟨rfl, pn176, cn176, hm176⟩
          have mx176 := m158.back hm176 [(10, 1), (11, 2), (12, 3), (202, 4)] (by decide); clear hm176 m158
          have m176 : MemOk _ _ [(10, _), (11, _), (12, _), (202, _), (1, _), (2, _), (3, _), (4, _), (5, _), (20, _), (21, _), (22, _), (200, _), (201, _)] _ := mx176.only [10, 11, 12, 202, 1, 2, 3, 4, 5, 20, 21, 22, 200, 201]; clear mx176
          refine ⟨_, rfl, ?_⟩; clear Hz Az; intro Az Hz
          refine hK _ _ ?_; clear hK K
          refine goCh Hz (.move rfl <| .extract rfl rfl <| .extract rfl rfl <| .assign rfl <| .assign rfl <| .nil) ?_
          clear Hz Az; intro Az Hz
          refine wpList_nil ?_
          refine hK15 _ _ ?_; clear hK15; try clear K15
          refine wp_seq_k (fun K16 hK16 => ?_)
          refine wp_seq_k (fun K17 hK17 => ?_)
          replace Hz : Has 263 [(0, _), (1, _), (2, _), (3, _), (4, _), (5, _), (6, _), (7, _), (17, _), (18, _), (19, _), (20, _), (21, _), (22, _), (24, _), (25, _), (26, _), (27, _), (28, _)] Az := Hz.only [0, 1, 2, 3, 4, 5, 6, 7, 17, 18, 19, 20, 21, 22, 24, 25, 26, 27, 28]
          obtain ⟨b184, o184, vs184, hp184, hR184, ho184, m184⟩ := m176.openR (i := 1) rfl (k) (r := bD (ls.getD k [])) (bD_at hk) 203 rfl
          cases hp184; clear m176 ho184
          rcases hR184 with _ | ⟨hd184_0, _ | _⟩
          obtain ⟨p185, c185, hv185, hc185⟩ := hd184_0.ns_shape; subst hv185
          have m185 := m184.dat 204 rfl (hd184_0.cast (fun _ h => (free_add rfl h))); clear m184 hd184_0
          obtain ⟨b186, o186, vs186, hp186, hR186, ho186, m186⟩ := m185.openR (i := 1) rfl (k) (r := bD (ls.getD k [])) (bD_at hk) 205 rfl
          cases hp186; clear m185 ho186
          rcases hR186 with _ | ⟨hd186_0, _ | _⟩
          obtain ⟨p187, c187, hv187, hc187⟩ := hd186_0.ns_shape; subst hv187
          have m187 := m186.dat 206 rfl (hd186_0.cast (fun _ h => (free_add rfl h))); clear m186 hd186_0
          have m188 : MemOk _ _ [(1, _), (2, _), (3, _), (4, _), (5, _), (10, _), (11, _), (12, _), (20, _), (21, _), (22, _), (200, _), (201, _), (202, _), (203, _), (204, _), (205, _), (206, _)] _ := m187.only [1, 2, 3, 4, 5, 10, 11, 12, 20, 21, 22, 200, 201, 202, 203, 204, 205, 206]; clear m187
          refine region_p 25 (B := [(1, _), (2, _), (3, _), (4, _), (5, _), (10, _), (11, _), (12, _), (20, _), (21, _), (22, _), (200, _), (201, _), (202, _), (203, _), (204, _), (205, _), (206, _)]) (m188.to ⟨il, il, il, il, il, il, il, il, il, il, il, il, il, il, il, il, il, il, trivial⟩) m188 (by kernel_rfl) (fun w189 hP189 m189 => ?_); clear m188
          refine goA hP189 [0, 1, 2, 3] 4 0 15 Hz (m189.to ⟨il, il, il, il, il, il, il, il, il, il, il, il, il, il, il, il, il, il, trivial⟩) (.move rfl <| .move rfl <| .neq rfl rfl <| .move rfl <| .nil) ?_
          clear Hz Az; intro Az Hz
          refine bool_cases Hz (t := 126) rfl ?_ ?_
          · intro hb _; exact absurd hb (by simp)
          clear Hz; intro _ Hz
          refine goA hP189 [4, 5, 6, 7, 8] 5 15 511 Hz (m189.to ⟨il, il, il, il, il, il, il, il, il, il, il, il, il, il, il, il, il, il, trivial⟩) (.move rfl <| .move rfl <| .neq rfl rfl <| .pickF rfl rfl <| .move rfl <| .nil) ?_
          clear Hz Az; intro Az Hz
          refine bool_cases Hz (t := 131) rfl ?_ ?_
          · intro hb _; exact absurd hb (by simp)
          clear Hz; intro _ Hz
          refine goR hP189 [9, 10, 11, 12, 13, 16, 17, 18, 19, 20] [13, 20] 10 511 2047999 Hz (m189.to ⟨il, il, il, il, il, il, il, il, il, il, il, il, il, il, il, il, il, il, trivial⟩) (.move rfl <| .move rfl <| .move rfl <| .p (fun _ _ h => y_idx h rfl rfl Tryd.underlying22 sz24wpl (k) rfl hk) <| .loadC0 hh (i := 203) rfl rfl Tryd.underlying24 rfl <| .move rfl <| .move rfl <| .move rfl <| .p (fun _ _ h => y_idx h rfl rfl Tryd.underlying22 sz24wpl (k) rfl hk) <| .loadC0 hh (i := 205) rfl rfl Tryd.underlying24 rfl <| .nil) ?_
          clear Hz Az; intro Az Hz
          refine d_two 14 21 rfl rfl (by kernel_rfl) (wantedG Hz rfl rfl rfl rfl) (wantedG Hz rfl rfl rfl rfl) (fun K hK => ?_) (fun K hK => ?_)
          ·
           refine e_litR Hz m189 207 (mm := 1) rfl (.cons rfl rfl (.cons (m189.rd (i := 202) rfl) .nil) <| .cons rfl rfl (.cons (m189.rd (i := 204) rfl) .nil) <| .nil) Tryd.underlying22 inf24wpl rfl rfl rfl rfl rfl ?_
           clear Hz Az m189; intro g211 Az w212 Hz m212
           refine hK _ _ (fun _ => (m212.to ⟨il, il, il, il, il, il, il, il, il, il, il, il, il, il, il, il, il, il, trivial⟩)) ?_; clear hK K
           refine d_two 15 21 rfl rfl (by kernel_rfl) (wantedG Hz rfl rfl rfl rfl) (wantedG Hz rfl rfl rfl rfl) (fun K hK => ?_) (fun K hK => ?_)
           ·
            have m213 := m212.freezeR 207 rfl; clear m212
            refine e_call Hz Tryd.func13 rfl rfl rfl rfl (need_x [((ls.getD k []) ++ List.replicate (sz % 90) (0 : Int)), (ls.getD k [])] _ _ _ (m213.rd (i := 207) rfl).any (by simp) (two_all (by omega) (by omega))) ?_
            rintro e w214 ⟨rfl, hb214⟩
            have m215 := m213.later hb214
            clear m213
            clear hb214
            refine ⟨_, rfl, ?_⟩; clear Hz Az; intro Az Hz
            refine hK _ _ (fun _ => (m215.to ⟨il, il, il, il, il, il, il, il, il, il, il, il, il, il, il, il, il, il, trivial⟩)) ?_; clear hK K
            refine stepE_only 21 rfl (by kernel_rfl) (wantedG Hz rfl rfl rfl rfl) (fun K hK => ?_)
            refine e_litR Hz m215 208 (mm := 1) rfl (.cons rfl rfl (.cons (m215.rd (i := 202) rfl) .nil) <| .cons rfl rfl (.cons (m215.rd (i := 206) rfl) .nil) <| .nil) Tryd.underlying22 inf24wpl rfl rfl rfl rfl rfl ?_
            clear Hz Az m215; intro g217 Az w218 Hz m218
            refine hK _ _ (m218.to ⟨il, il, il, il, il, il, il, il, il, il, il, il, il, il, il, il, il, il, trivial⟩) ?_; clear hK K
            have m219 := m218.freezeR 208 rfl; clear m218
            refine stepE_only 22 rfl (by kernel_rfl) (wantedG Hz rfl rfl rfl rfl) (fun K hK => ?_)
            refine e_call Hz Tryd.func14 rfl rfl rfl rfl (rneed_x [((ls.getD k []) ++ List.replicate (sz % 90) (0 : Int)), (ls.getD k [])] _ _ _ (m219.rd (i := 208) rfl).any (by simp) (two_all ⟨hBB, hBl⟩ ⟨hlb, by omega⟩)) ?_
            rintro e w220 ⟨rfl, hb220⟩
            have m221 := m219.later hb220
            clear m219
            clear hb220
            refine ⟨_, rfl, ?_⟩; clear Hz Az; intro Az Hz
            refine hK _ _ (m221.to ⟨il, il, il, il, il, il, il, il, il, il, il, il, il, il, il, il, il, il, trivial⟩) ?_; clear hK K
            refine goA hP189 [23, 24] 2 8388607 33554431 Hz (m221.to ⟨il, il, il, il, il, il, il, il, il, il, il, il, il, il, il, il, il, il, trivial⟩) (.neq rfl rfl <| .pickF rfl rfl <| .nil) ?_
            clear Hz Az; intro Az Hz
            refine wpAnyE_done (by kernel_rfl) ?_ _
            refine hK17 _ _ ?_; clear hK17; try clear K17
            refine bool_cases Hz (t := 147) rfl ?_ ?_
            · intro hb _; exact absurd hb (by simp)
            clear Hz; intro _ Hz
            refine wp_cond_false (Hz.ev (x := .tmp 147) rfl) ?_
            refine wp_skip ?_
            refine hK16 _ _ ?_; clear hK16; try clear K16
            replace Hz : Has 263 [(0, _), (1, _), (2, _), (3, _), (4, _), (5, _), (6, _), (7, _), (17, _), (18, _), (19, _), (20, _), (21, _), (22, _), (27, _), (28, _)] Az := Hz.only [0, 1, 2, 3, 4, 5, 6, 7, 17, 18, 19, 20, 21, 22, 27, 28]
            refine regS Hz (.move rfl <| .eql rfl rfl <| .nil) ?_
            clear Hz Az; intro Az Hz
            refine bool_cases Hz (t := 149) rfl ?_ ?_
            ·
             clear Hz; intro hb229 Hz
             try simp only [Q1x, Q2x, Q3x, Q4x, Q5x, Q6x, Q7x, Q8x, Q9x, Q0x, Qax, Qbx] at hb229
             have hc0 : codeA n tt (secN (recN ((ls.getD k []) ++ List.replicate (sz % 90) (0 : Int)).length)) 20 = 0 := by have := hb229; simpa using this
             refine wp_cond_true (Hz.ev (x := .tmp 149) rfl) ?_
             refine wp_region_lit ?_
             refine goCh Hz (.move rfl <| .assign rfl <| .nil) ?_
             clear Hz Az; intro Az Hz
             refine wpList_nil ?_
             refine hK8 _ _ ?_; clear hK8; try clear K8
             refine wp_region_lit ?_
             refine goCh Hz (.move rfl <| .add rfl rfl (r := ((k + 1 : Nat) : Int)) (IntWalk.i64_in _ (by omega)) <| .assign rfl <| .nil) ?_
             clear Hz Az; intro Az Hz
             refine wpList_nil ?_
             show ∃ n', n' < _ ∧ _
             have hcl := cntA_le (to := tt) (N := secN (recN ((ls.getD k []) ++ List.replicate (sz % 90) (0 : Int)).length)) hn20
             exact ⟨ls.length - (k + 1), by omega, k + 1, (posA n tt (secN (recN ((ls.getD k []) ++ List.replicate (sz % 90) (0 : Int)).length)) 20), KD, wl ++ wlK n gv (recV ((ls.getD k []) ++ List.replicate (sz % 90) (0 : Int))) (cntA n tt (secN (recN ((ls.getD k []) ++ List.replicate (sz % 90) (0 : Int)).length)) 20), _, _, _, _, by omega, rfl, by have := posA_ok hc0; omega, by have := posA_ok hc0; omega, hKD, hlD, by rw [hSD, putK_len]; exact hSL, by rw [hSD]; exact cur_put hV hSL _, by rw [hUD]; omega, by rw [List.length_append, wlK_len]; omega, Hz.only [0, 1, 2, 3, 4, 5, 6, 7, 17, 18, 19, 20, 21, 22], m221.only [20, 21, 22, 1, 2, 3, 4, 5, 10, 11, 12]⟩
            ·
             clear Hz; intro hb229 Hz
             try simp only [Q1x, Q2x, Q3x, Q4x, Q5x, Q6x, Q7x, Q8x, Q9x, Q0x, Qax, Qbx] at hb229
             refine wp_cond_false (Hz.ev (x := .tmp 149) rfl) ?_
             refine wp_skip ?_
             refine hK8 _ _ ?_; clear hK8; try clear K8
             refine wp_region_lit ?_
             refine goCh Hz (.move rfl <| .add rfl rfl (r := ((k + 1 : Nat) : Int)) (IntWalk.i64_in _ (by omega)) <| .assign rfl <| .nil) ?_
             clear Hz Az; intro Az Hz
             refine wpList_nil ?_
             show ∃ n', n' < _ ∧ _
             have hcl := cntA_le (to := tt) (N := secN (recN ((ls.getD k []) ++ List.replicate (sz % 90) (0 : Int)).length)) hn20
             exact ⟨ls.length - (k + 1), by omega, k + 1, n, KD, wl ++ wlK n gv (recV ((ls.getD k []) ++ List.replicate (sz % 90) (0 : Int))) (cntA n tt (secN (recN ((ls.getD k []) ++ List.replicate (sz % 90) (0 : Int)).length)) 20), _, _, _, _, by omega, rfl, hnt, hn20, hKD, hlD, by rw [hSD, putK_len]; exact hSL, by rw [hSD]; exact cur_put hV hSL _, by rw [hUD]; omega, by rw [List.length_append, wlK_len]; omega, Hz.only [0, 1, 2, 3, 4, 5, 6, 7, 17, 18, 19, 20, 21, 22], m221.only [20, 21, 22, 1, 2, 3, 4, 5, 10, 11, 12]⟩
           ·
            refine e_litR Hz m212 208 (mm := 1) rfl (.cons rfl rfl (.cons (m212.rd (i := 202) rfl) .nil) <| .cons rfl rfl (.cons (m212.rd (i := 206) rfl) .nil) <| .nil) Tryd.underlying22 inf24wpl rfl rfl rfl rfl rfl ?_
            clear Hz Az m212; intro g238 Az w239 Hz m239
            refine hK _ _ (fun _ => (m239.to ⟨il, il, il, il, il, il, il, il, il, il, il, il, il, il, il, il, il, il, trivial⟩)) ?_; clear hK K
            have m240 := m239.freezeR 207 rfl; clear m239
            refine stepE_only 15 rfl (by kernel_rfl) (wantedG Hz rfl rfl rfl rfl) (fun K hK => ?_)
            refine e_call Hz Tryd.func13 rfl rfl rfl rfl (need_x [((ls.getD k []) ++ List.replicate (sz % 90) (0 : Int)), (ls.getD k [])] _ _ _ (m240.rd (i := 207) rfl).any (by simp) (two_all (by omega) (by omega))) ?_
            rintro e w241 ⟨rfl, hb241⟩
            have m242 := m240.later hb241
            clear m240
            clear hb241
            refine ⟨_, rfl, ?_⟩; clear Hz Az; intro Az Hz
            refine hK _ _ (m242.to ⟨il, il, il, il, il, il, il, il, il, il, il, il, il, il, il, il, il, il, trivial⟩) ?_; clear hK K
            have m244 := m242.freezeR 208 rfl; clear m242
            refine stepE_only 22 rfl (by kernel_rfl) (wantedG Hz rfl rfl rfl rfl) (fun K hK => ?_)
            refine e_call Hz Tryd.func14 rfl rfl rfl rfl (rneed_x [((ls.getD k []) ++ List.replicate (sz % 90) (0 : Int)), (ls.getD k [])] _ _ _ (m244.rd (i := 208) rfl).any (by simp) (two_all ⟨hBB, hBl⟩ ⟨hlb, by omega⟩)) ?_
            rintro e w245 ⟨rfl, hb245⟩
            have m246 := m244.later hb245
            clear m244
            clear hb245
            refine ⟨_, rfl, ?_⟩; clear Hz Az; intro Az Hz
            refine hK _ _ (m246.to ⟨il, il, il, il, il, il, il, il, il, il, il, il, il, il, il, il, il, il, trivial⟩) ?_; clear hK K
            refine goA hP189 [23, 24] 2 8388607 33554431 Hz (m246.to ⟨il, il, il, il, il, il, il, il, il, il, il, il, il, il, il, il, il, il, trivial⟩) (.neq rfl rfl <| .pickF rfl rfl <| .nil) ?_
            clear Hz Az; intro Az Hz
            refine wpAnyE_done (by kernel_rfl) ?_ _
            refine hK17 _ _ ?_; clear hK17; try clear K17
            refine bool_cases Hz (t := 147) rfl ?_ ?_
            · intro hb _; exact absurd hb (by simp)
            clear Hz; intro _ Hz
            refine wp_cond_false (Hz.ev (x := .tmp 147) rfl) ?_
            refine wp_skip ?_
            refine hK16 _ _ ?_; clear hK16; try clear K16
            replace Hz : Has 263 [(0, _), (1, _), (2, _), (3, _), (4, _), (5, _), (6, _), (7, _), (17, _), (18, _), (19, _), (20, _), (21, _), (22, _), (27, _), (28, _)] Az := Hz.only [0, 1, 2, 3, 4, 5, 6, 7, 17, 18, 19, 20, 21, 22, 27, 28]
            refine regS Hz (.move rfl <| .eql rfl rfl <| .nil) ?_
            clear Hz Az; intro Az Hz
            refine bool_cases Hz (t := 149) rfl ?_ ?_
            ·
             clear Hz; intro hb254 Hz
             try simp only [Q1x, Q2x, Q3x, Q4x, Q5x, Q6x, Q7x, Q8x, Q9x, Q0x, Qax, Qbx] at hb254
             have hc0 : codeA n tt (secN (recN ((ls.getD k []) ++ List.replicate (sz % 90) (0 : Int)).length)) 20 = 0 := by have := hb254; simpa using this
             refine wp_cond_true (Hz.ev (x := .tmp 149) rfl) ?_
             refine wp_region_lit ?_
             refine goCh Hz (.move rfl <| .assign rfl <| .nil) ?_
             clear Hz Az; intro Az Hz
             refine wpList_nil ?_
             refine hK8 _ _ ?_; clear hK8; try clear K8
             refine wp_region_lit ?_
             refine goCh Hz (.move rfl <| .add rfl rfl (r := ((k + 1 : Nat) : Int)) (IntWalk.i64_in _ (by omega)) <| .assign rfl <| .nil) ?_
             clear Hz Az; intro Az Hz
             refine wpList_nil ?_
             show ∃ n', n' < _ ∧ _
             have hcl := cntA_le (to := tt) (N := secN (recN ((ls.getD k []) ++ List.replicate (sz % 90) (0 : Int)).length)) hn20
             exact ⟨ls.length - (k + 1), by omega, k + 1, (posA n tt (secN (recN ((ls.getD k []) ++ List.replicate (sz % 90) (0 : Int)).length)) 20), KD, wl ++ wlK n gv (recV ((ls.getD k []) ++ List.replicate (sz % 90) (0 : Int))) (cntA n tt (secN (recN ((ls.getD k []) ++ List.replicate (sz % 90) (0 : Int)).length)) 20), _, _, _, _, by omega, rfl, by have := posA_ok hc0; omega, by have := posA_ok hc0; omega, hKD, hlD, by rw [hSD, putK_len]; exact hSL, by rw [hSD]; exact cur_put hV hSL _, by rw [hUD]; omega, by rw [List.length_append, wlK_len]; omega, Hz.only [0, 1, 2, 3, 4, 5, 6, 7, 17, 18, 19, 20, 21, 22], m246.only [20, 21, 22, 1, 2, 3, 4, 5, 10, 11, 12]⟩
            ·
             clear Hz; intro hb254 Hz
             try simp only [Q1x, Q2x, Q3x, Q4x, Q5x, Q6x, Q7x, Q8x, Q9x, Q0x, Qax, Qbx] at hb254
             refine wp_cond_false (Hz.ev (x := .tmp 149) rfl) ?_
             refine wp_skip ?_
             refine hK8 _ _ ?_; clear hK8; try clear K8
             refine wp_region_lit ?_
             refine goCh Hz (.move rfl <| .add rfl rfl (r := ((k + 1 : Nat) : Int)) (IntWalk.i64_in _ (by omega)) <| .assign rfl <| .nil) ?_
             clear Hz Az; intro Az Hz
             refine wpList_nil ?_
             show ∃ n', n' < _ ∧ _
             have hcl := cntA_le (to := tt) (N := secN (recN ((ls.getD k []) ++ List.replicate (sz % 90) (0 : Int)).length)) hn20
             exact ⟨ls.length - (k + 1), by omega, k + 1, n, KD, wl ++ wlK n gv (recV ((ls.getD k []) ++ List.replicate (sz % 90) (0 : Int))) (cntA n tt (secN (recN ((ls.getD k []) ++ List.replicate (sz % 90) (0 : Int)).length)) 20), _, _, _, _, by omega, rfl, hnt, hn20, hKD, hlD, by rw [hSD, putK_len]; exact hSL, by rw [hSD]; exact cur_put hV hSL _, by rw [hUD]; omega, by rw [List.length_append, wlK_len]; omega, Hz.only [0, 1, 2, 3, 4, 5, 6, 7, 17, 18, 19, 20, 21, 22], m246.only [20, 21, 22, 1, 2, 3, 4, 5, 10, 11, 12]⟩
          ·
           refine e_litR Hz m189 207 (mm := 1) rfl (.cons rfl rfl (.cons (m189.rd (i := 202) rfl) .nil) <| .cons rfl rfl (.cons (m189.rd (i := 206) rfl) .nil) <| .nil) Tryd.underlying22 inf24wpl rfl rfl rfl rfl rfl ?_
           clear Hz Az m189; intro g263 Az w264 Hz m264
           refine hK _ _ (fun _ => (m264.to ⟨il, il, il, il, il, il, il, il, il, il, il, il, il, il, il, il, il, il, trivial⟩)) ?_; clear hK K
           refine stepE_only 14 rfl (by kernel_rfl) (wantedG Hz rfl rfl rfl rfl) (fun K hK => ?_)
           refine e_litR Hz m264 208 (mm := 1) rfl (.cons rfl rfl (.cons (m264.rd (i := 202) rfl) .nil) <| .cons rfl rfl (.cons (m264.rd (i := 204) rfl) .nil) <| .nil) Tryd.underlying22 inf24wpl rfl rfl rfl rfl rfl ?_
           clear Hz Az m264; intro g265 Az w266 Hz m266
           refine hK _ _ (m266.to ⟨il, il, il, il, il, il, il, il, il, il, il, il, il, il, il, il, il, il, trivial⟩) ?_; clear hK K
           have m267 := m266.freezeR 208 rfl; clear m266
           refine stepE_only 15 rfl (by kernel_rfl) (wantedG Hz rfl rfl rfl rfl) (fun K hK => ?_)
           refine e_call Hz Tryd.func13 rfl rfl rfl rfl (need_x [((ls.getD k []) ++ List.replicate (sz % 90) (0 : Int)), (ls.getD k [])] _ _ _ (m267.rd (i := 208) rfl).any (by simp) (two_all (by omega) (by omega))) ?_
           rintro e w268 ⟨rfl, hb268⟩
           have m269 := m267.later hb268
           clear m267
           clear hb268
           refine ⟨_, rfl, ?_⟩; clear Hz Az; intro Az Hz
           refine hK _ _ (m269.to ⟨il, il, il, il, il, il, il, il, il, il, il, il, il, il, il, il, il, il, trivial⟩) ?_; clear hK K
           have m271 := m269.freezeR 207 rfl; clear m269
           refine stepE_only 22 rfl (by kernel_rfl) (wantedG Hz rfl rfl rfl rfl) (fun K hK => ?_)
           refine e_call Hz Tryd.func14 rfl rfl rfl rfl (rneed_x [((ls.getD k []) ++ List.replicate (sz % 90) (0 : Int)), (ls.getD k [])] _ _ _ (m271.rd (i := 207) rfl).any (by simp) (two_all ⟨hBB, hBl⟩ ⟨hlb, by omega⟩)) ?_
           rintro e w272 ⟨rfl, hb272⟩
           have m273 := m271.later hb272
           clear m271
           clear hb272
           refine ⟨_, rfl, ?_⟩; clear Hz Az; intro Az Hz
           refine hK _ _ (m273.to ⟨il, il, il, il, il, il, il, il, il, il, il, il, il, il, il, il, il, il, trivial⟩) ?_; clear hK K
           refine goA hP189 [23, 24] 2 8388607 33554431 Hz (m273.to ⟨il, il, il, il, il, il, il, il, il, il, il, il, il, il, il, il, il, il, trivial⟩) (.neq rfl rfl <| .pickF rfl rfl <| .nil) ?_
           clear Hz Az; intro Az Hz
           refine wpAnyE_done (by kernel_rfl) ?_ _
           refine hK17 _ _ ?_; clear hK17; try clear K17
           refine bool_cases Hz (t := 147) rfl ?_ ?_
           · intro hb _; exact absurd hb (by simp)
           clear Hz; intro _ Hz
           refine wp_cond_false (Hz.ev (x := .tmp 147) rfl) ?_
           refine wp_skip ?_
           refine hK16 _ _ ?_; clear hK16; try clear K16
           replace Hz : Has 263 [(0, _), (1, _), (2, _), (3, _), (4, _), (5, _), (6, _), (7, _), (17, _), (18, _), (19, _), (20, _), (21, _), (22, _), (27, _), (28, _)] Az := Hz.only [0, 1, 2, 3, 4, 5, 6, 7, 17, 18, 19, 20, 21, 22, 27, 28]
           refine regS Hz (.move rfl <| .eql rfl rfl <| .nil) ?_
           clear Hz Az; intro Az Hz
           refine bool_cases Hz (t := 149) rfl ?_ ?_
           ·
            clear Hz; intro hb281 Hz
            try simp only [Q1x, Q2x, Q3x, Q4x, Q5x, Q6x, Q7x, Q8x, Q9x, Q0x, Qax, Qbx] at hb281
            have hc0 : codeA n tt (secN (recN ((ls.getD k []) ++ List.replicate (sz % 90) (0 : Int)).length)) 20 = 0 := by have := hb281; simpa using this
            refine wp_cond_true (Hz.ev (x := .tmp 149) rfl) ?_
            refine wp_region_lit ?_
            refine goCh Hz (.move rfl <| .assign rfl <| .nil) ?_
            clear Hz Az; intro Az Hz
            refine wpList_nil ?_
            refine hK8 _ _ ?_; clear hK8; try clear K8
            refine wp_region_lit ?_
            refine goCh Hz (.move rfl <| .add rfl rfl (r := ((k + 1 : Nat) : Int)) (IntWalk.i64_in _ (by omega)) <| .assign rfl <| .nil) ?_
            clear Hz Az; intro Az Hz
            refine wpList_nil ?_
            show ∃ n', n' < _ ∧ _
            have hcl := cntA_le (to := tt) (N := secN (recN ((ls.getD k []) ++ List.replicate (sz % 90) (0 : Int)).length)) hn20
            exact ⟨ls.length - (k + 1), by omega, k + 1, (posA n tt (secN (recN ((ls.getD k []) ++ List.replicate (sz % 90) (0 : Int)).length)) 20), KD, wl ++ wlK n gv (recV ((ls.getD k []) ++ List.replicate (sz % 90) (0 : Int))) (cntA n tt (secN (recN ((ls.getD k []) ++ List.replicate (sz % 90) (0 : Int)).length)) 20), _, _, _, _, by omega, rfl, by have := posA_ok hc0; omega, by have := posA_ok hc0; omega, hKD, hlD, by rw [hSD, putK_len]; exact hSL, by rw [hSD]; exact cur_put hV hSL _, by rw [hUD]; omega, by rw [List.length_append, wlK_len]; omega, Hz.only [0, 1, 2, 3, 4, 5, 6, 7, 17, 18, 19, 20, 21, 22], m273.only [20, 21, 22, 1, 2, 3, 4, 5, 10, 11, 12]⟩
           ·
            clear Hz; intro hb281 Hz
            try simp only [Q1x, Q2x, Q3x, Q4x, Q5x, Q6x, Q7x, Q8x, Q9x, Q0x, Qax, Qbx] at hb281
            refine wp_cond_false (Hz.ev (x := .tmp 149) rfl) ?_
            refine wp_skip ?_
            refine hK8 _ _ ?_; clear hK8; try clear K8
            refine wp_region_lit ?_
            refine goCh Hz (.move rfl <| .add rfl rfl (r := ((k + 1 : Nat) : Int)) (IntWalk.i64_in _ (by omega)) <| .assign rfl <| .nil) ?_
            clear Hz Az; intro Az Hz
            refine wpList_nil ?_
            show ∃ n', n' < _ ∧ _
            have hcl := cntA_le (to := tt) (N := secN (recN ((ls.getD k []) ++ List.replicate (sz % 90) (0 : Int)).length)) hn20
            exact ⟨ls.length - (k + 1), by omega, k + 1, n, KD, wl ++ wlK n gv (recV ((ls.getD k []) ++ List.replicate (sz % 90) (0 : Int))) (cntA n tt (secN (recN ((ls.getD k []) ++ List.replicate (sz % 90) (0 : Int)).length)) 20), _, _, _, _, by omega, rfl, hnt, hn20, hKD, hlD, by rw [hSD, putK_len]; exact hSL, by rw [hSD]; exact cur_put hV hSL _, by rw [hUD]; omega, by rw [List.length_append, wlK_len]; omega, Hz.only [0, 1, 2, 3, 4, 5, 6, 7, 17, 18, 19, 20, 21, 22], m273.only [20, 21, 22, 1, 2, 3, 4, 5, 10, 11, 12]⟩
        replace Hz : Has 263 [(0, _), (1, _), (2, _), (3, _), (4, _), (5, _), (6, _), (7, _), (17, _), (18, _), (19, _), (20, _), (21, _), (22, _), (23, _)] Az := Hz.only [0, 1, 2, 3, 4, 5, 6, 7, 17, 18, 19, 20, 21, 22, 23]
        refine regS Hz (.move rfl <| .rem rfl rfl (by omega) rfl <| .eql rfl rfl <| .nil) ?_
        clear Hz Az; intro Az Hz
        refine bool_cases Hz (t := 91) rfl ?_ ?_
        ·
         clear Hz; intro hb294 Hz
         try simp only [Q1x, Q2x, Q3x, Q4x, Q5x, Q6x, Q7x, Q8x, Q9x, Q0x, Qax, Qbx] at hb294
         refine wp_cond_true (Hz.ev (x := .tmp 91) rfl) ?_
         refine wp_region_lit ?_
         refine goCh Hz (.move rfl <| .move rfl <| .nil) ?_
         clear Hz Az; intro Az Hz
         obtain ⟨b297, o297, hp297, m297⟩ := m122.openN (i := 2) rfl (k) hkg 103 rfl
         cases hp297; clear m122
         refine goCh Hz (.c rfl (fun _ h => y_idx h rfl rfl Tryd.underlying23 sz32wpl (k) rfl hkg) <| .loadC0 m297 (i := 103) rfl rfl Tryd.underlying32 rfl <| .assign rfl <| .nil) ?_
         clear Hz Az; intro Az Hz
         refine wpList_nil ?_
         show K12 _ _
         exact hC12 _ _ ⟨_, _, _, hg9.1, hg9.2, Hz.only [0, 1, 2, 3, 4, 5, 6, 7, 17, 18, 19, 20, 21, 22, 23], m297.only [20, 21, 22, 1, 2, 3, 4, 5, 10, 11, 12]⟩
        ·
         clear Hz; intro hb294 Hz
         try simp only [Q1x, Q2x, Q3x, Q4x, Q5x, Q6x, Q7x, Q8x, Q9x, Q0x, Qax, Qbx] at hb294
         refine wp_cond_false (Hz.ev (x := .tmp 91) rfl) ?_
         refine wp_skip ?_
         show K12 _ _
         exact hC12 _ _ ⟨gs.getD k 0 % 2 * 300, _, _, by omega, by omega, Hz.only [0, 1, 2, 3, 4, 5, 6, 7, 17, 18, 19, 20, 21, 22, 23], m122.only [20, 21, 22, 1, 2, 3, 4, 5, 10, 11, 12]⟩
      ·
       clear Hz; intro hb101 Hz
       try simp only [Q1x, Q2x, Q3x, Q4x, Q5x, Q6x, Q7x, Q8x, Q9x, Q0x, Qax, Qbx] at hb101
       obtain rfl : k = ls.length := by have := hb101; first | omega | (simp at this; omega)
       refine wp_cond_false (Hz.ev (x := .tmp 74) rfl) ?_
       refine wp_exit ?_
       refine hK6 _ _ ?_; clear hK6; try clear K6
       refine wp_seq_k (fun K18 hK18 => ?_)
       refine wp_seq_k (fun K19 hK19 => ?_)
       refine wp_region_lit ?_
       refine goCh Hz (.move rfl <| .move rfl <| .c rfl (fun _ h => y_buildA h rfl zc39wpl Tryd.underlying39 sz3wpl rfl (by dsimp only [setL, List.set] <;> rfl)) <| .move rfl <| .move rfl <| .c rfl (fun _ h => y_buildA h rfl zc39wpl Tryd.underlying39 sz3wpl rfl (by dsimp only [setL, List.set] <;> rfl)) <| .move rfl <| .c rfl (fun _ h => y_buildA h rfl zc39wpl Tryd.underlying39 sz3wpl rfl (by dsimp only [setL, List.set] <;> rfl)) <| .move rfl <| .add rfl rfl (r := ((ff + 1 : Nat) : Int)) (IntWalk.i64_in _ (by omega)) <| .move rfl <| .c rfl (fun _ h => y_buildA h rfl zc39wpl Tryd.underlying39 sz3wpl rfl (by dsimp only [setL, List.set] <;> rfl)) <| .move rfl <| .move rfl <| .c rfl (fun _ h => y_buildA h rfl zc39wpl Tryd.underlying39 sz3wpl rfl (by dsimp only [setL, List.set] <;> rfl)) <| .nil) ?_
       clear Hz Az; intro Az Hz
       refine wpList_plain rfl (fun K hK => ?_)
       refine e_litR Hz m96 100 (mm := 2) rfl (.cons rfl rfl (.cons (.v _) (.cons (.v _) .nil)) <| .cons rfl rfl (.cons (.v _) (.cons (.v _) .nil)) <| .cons rfl rfl (.cons (.v _) (.cons (.v _) .nil)) <| .cons rfl rfl (.cons (.v _) (.cons (.v _) .nil)) <| .cons rfl rfl (.cons (.v _) (.cons (.v _) .nil)) <| .nil) Tryd.underlying40 inf39wpl rfl rfl rfl rfl rfl ?_
       clear Hz Az m96; intro g331 Az w332 Hz m332
       refine hK _ _ ?_; clear hK K
       refine goCh Hz (.len rfl Tryd.underlying40 <| .move rfl <| .nil) ?_
       clear Hz Az; intro Az Hz
       refine wpList_nil ?_
       refine hK19 _ _ ?_; clear hK19; try clear K19
       refine wp_block ?_
       have m335 := m332.freezeR 100 rfl; clear m332
       obtain ⟨xs5, hxs⟩ : ∃ z : List (Int × Int), [((ff : Int), (tt : Int)), (fr, to), ((ff : Int), 20), (((ff + 1 : Nat) : Int), (tt : Int)), ((ff : Int), (n : Int))] = z := ⟨_, rfl⟩
       have hx5 : xs5.length = 5 := by rw [← hxs]; rfl
       have hXb : ∀ x ∈ xs5, -9223372036854775808 ≤ x.1 ∧ x.1 ≤ 9223372036854775807 ∧ -9223372036854775808 ≤ x.2 ∧ x.2 ≤ 9223372036854775807 := by rw [← hxs]; intro x hx; simp only [List.mem_cons, List.not_mem_nil, or_false] at hx; rcases hx with rfl | rfl | rfl | rfl | rfl <;> exact ⟨by dsimp only; omega, by dsimp only; omega, by dsimp only; omega, by dsimp only; omega⟩
       have hxe : xs5.map xD5 = [((ff : Int), (tt : Int)), (fr, to), ((ff : Int), 20), (((ff + 1 : Nat) : Int), (tt : Int)), ((ff : Int), (n : Int))].map xD5 := by rw [hxs]
       refine wp_loop_ghost (fun g a w => ∃ (j : Nat), j ≤ 5 ∧ g = 5 - j ∧ Has 263 [(4, .slice po ov.length co), (5, .int .u8 (a9 : Nat)), (6, .slice pr rv.length cr), (17, .pointer (some ⟨B9, 0, none⟩)), (18, .pointer (some ⟨B, 0, none⟩)), (19, .int .i64 (ff : Nat)), (20, .int .i64 (tt : Nat)), (166, .slice (some ⟨g331, 0, none⟩) 5 5), (167, .int .i64 5), (168, .int .i64 (j : Nat))] a ∧ MemOk (cxt w0) w0 [(20, KH.rb B9 S9), (21, KH.ru), (22, KH.rs S9), (3, .dat (.slice po ov.length co) (.ns .u8 ov)), (4, .dat (.slice pr rv.length cr) (.ns .u8 rv)), (5, tabR), (10, .box B 60 [.slice pS (List.replicate 20 zeros).length cS, .slice p wl.length c, .int .i64 (-1)]), (11, .dat (.slice pS (List.replicate 20 zeros).length cS) (.l 1 ((List.replicate 20 zeros).map bD))), (12, .dat (.slice p wl.length c) (.l 2 (wl.map wD))), (13, .dat (.slice (some ⟨g331, 0, none⟩) 5 5) (.l 2 (xs5.map xD5)))] w) (5) ?_ ?_
       · exact ⟨0, by omega, rfl, Hz.only [4, 5, 6, 17, 18, 19, 20, 166, 167, 168], by rw [hxe]; exact m335.ren [(20, 20), (21, 21), (22, 22), (3, 3), (4, 4), (5, 5), (10, 10), (11, 11), (12, 12), (13, 100)] (by decide)⟩
       ·
        clear Hz m335
        rintro g Az w337 ⟨j, hj5, hg, Hz, m337⟩
        refine regS Hz (.lss rfl rfl <| .nil) ?_
        clear Hz Az; intro Az Hz
        refine wp_seq_k (fun K20 hK20 => ?_)
        refine bool_cases Hz (t := 169) rfl ?_ ?_
        ·
         clear Hz; intro hb339 Hz
         try simp only [Q1x, Q2x, Q3x, Q4x, Q5x, Q6x, Q7x, Q8x, Q9x, Q0x, Qax, Qbx] at hb339
         have hj6 : j < 5 := by have := hb339; first | omega | (simp at this; omega)
         obtain ⟨⟨x0, x1⟩, hx9⟩ : ∃ x, xs5[j]? = some x := ⟨_, List.getElem?_eq_getElem (by omega)⟩
         obtain ⟨hx00, hx01, hx10, hx11⟩ := hXb _ (List.mem_of_getElem? hx9)
         refine wp_cond_true (Hz.ev (x := .tmp 169) rfl) ?_
         refine wp_skip ?_
         refine hK20 _ _ ?_; clear hK20; try clear K20
         refine wp_seq_k (fun K21 hK21 => ?_)
         refine wp_block ?_
         refine wp_seq_k (fun K22 hK22 => ?_)
         refine wp_region_lit ?_
         obtain ⟨b341, o341, vs341, hp341, hR341, ho341, m341⟩ := m337.openR (i := 13) rfl (j) (r := [D.v (.int .i64 x0), D.v (.int .i64 x1)]) (xD5_at hx9) 200 rfl
         cases hp341; clear m337 ho341
         rcases hR341 with _ | ⟨hd341_0, _ | ⟨hd341_1, _ | _⟩⟩
         obtain rfl := hd341_0.v_out
         clear hd341_0
         obtain rfl := hd341_1.v_out
         clear hd341_1
         refine goCh Hz (.c rfl (fun _ h => y_idx h rfl rfl Tryd.underlying40 sz39wpl (j) rfl hj6) <| .loadCR m341 (i := 200) rfl rfl Tryd.underlying39 rfl sz39wpl <| .nil) ?_
         clear Hz Az; intro Az Hz
         refine wpList_plain rfl (fun K hK => ?_)
         refine e_alloc Hz m341 201 zc39wpl rfl ?_
         clear Hz Az m341; intro g344 Az w345 Hz m345 hB345 hg345
         clear hB345 hg345
         refine hK _ _ ?_; clear hK K
         refine wpList_plain rfl (fun K hK => ?_)
         refine e_storeW Hz m345 201 rfl rfl rfl rfl rfl sz39wpl ?_
         clear m345; intro w346 m346 hB346
         clear hB346
         refine hK _ _ ?_; clear hK K
         refine wpList_nil ?_
         refine hK22 _ _ ?_; clear hK22; try clear K22
         refine wp_seq_k (fun K23 hK23 => ?_)
         refine wp_seq_k (fun K24 hK24 => ?_)
         refine wp_region_lit ?_
         refine goCh Hz (.c rfl (fun _ h => y_idxA h rfl rfl Tryd.underlying39 sz3wpl 0 rfl (by decide) (off := 0) rfl) <| .loadB1 m346 (i := 201) rfl rfl rfl Tryd.underlying3 rfl <| .gtr rfl rfl <| .move rfl <| .nil) ?_
         clear Hz Az; intro Az Hz
         refine bool_cases Hz (t := 175) rfl ?_ ?_
         ·
          clear Hz; intro hb355 Hz
          try simp only [Q1x, Q2x, Q3x, Q4x, Q5x, Q6x, Q7x, Q8x, Q9x, Q0x, Qax, Qbx] at hb355
          refine goCh Hz (.sk <| .sk <| .sk <| .pickT rfl rfl <| .nil) ?_
          clear Hz Az; intro Az Hz
          refine wpList_nil ?_
          refine hK24 _ _ ?_; clear hK24; try clear K24
          refine wp_cond_true (Hz.ev (x := .tmp 179) rfl) ?_
          refine wp_exit ?_
          refine hK21 _ _ ?_; clear hK21; try clear K21
          replace Hz : Has 263 [(4, _), (5, _), (6, _), (17, _), (18, _), (19, _), (20, _), (166, _), (167, _), (168, _)] Az := Hz.only [4, 5, 6, 17, 18, 19, 20, 166, 167, 168]
          refine wp_region_lit ?_
          refine goCh Hz (.add rfl rfl (r := ((j + 1 : Nat) : Int)) (IntWalk.i64_in _ (by omega)) <| .move rfl <| .nil) ?_
          clear Hz Az; intro Az Hz
          refine wpList_nil ?_
          show ∃ n', n' < _ ∧ _
          exact ⟨5 - (j + 1), by omega, j + 1, by omega, rfl, Hz.only [4, 5, 6, 17, 18, 19, 20, 166, 167, 168], m346.only [20, 21, 22, 3, 4, 5, 10, 11, 12, 13]⟩
         ·
          clear Hz; intro hb355 Hz
          try simp only [Q1x, Q2x, Q3x, Q4x, Q5x, Q6x, Q7x, Q8x, Q9x, Q0x, Qax, Qbx] at hb355
          have hx0a : x0 ≤ 1000 := by have := hb355; first | omega | (simp at this; omega)
          refine goCh Hz (.g rfl rfl rfl rfl (fun _ h => y_idxA h rfl rfl Tryd.underlying39 sz3wpl 0 rfl (by decide) (off := 0) rfl) <| .loadB1Z m346 (i := 201) rfl rfl rfl Tryd.underlying3 rfl <| .lssZ rfl rfl <| .pickF rfl rfl <| .nil) ?_
          clear Hz Az; intro Az Hz
          refine wpList_nil ?_
          refine hK24 _ _ ?_; clear hK24; try clear K24
          refine bool_cases Hz (t := 179) rfl ?_ ?_
          ·
           clear Hz; intro hb367 Hz
           try simp only [Q1x, Q2x, Q3x, Q4x, Q5x, Q6x, Q7x, Q8x, Q9x, Q0x, Qax, Qbx] at hb367
           refine wp_cond_true (Hz.ev (x := .tmp 179) rfl) ?_
           refine wp_exit ?_
           refine hK21 _ _ ?_; clear hK21; try clear K21
           replace Hz : Has 263 [(4, _), (5, _), (6, _), (17, _), (18, _), (19, _), (20, _), (166, _), (167, _), (168, _)] Az := Hz.only [4, 5, 6, 17, 18, 19, 20, 166, 167, 168]
           refine wp_region_lit ?_
           refine goCh Hz (.add rfl rfl (r := ((j + 1 : Nat) : Int)) (IntWalk.i64_in _ (by omega)) <| .move rfl <| .nil) ?_
           clear Hz Az; intro Az Hz
           refine wpList_nil ?_
           show ∃ n', n' < _ ∧ _
           exact ⟨5 - (j + 1), by omega, j + 1, by omega, rfl, Hz.only [4, 5, 6, 17, 18, 19, 20, 166, 167, 168], m346.only [20, 21, 22, 3, 4, 5, 10, 11, 12, 13]⟩
          ·
           clear Hz; intro hb367 Hz
           try simp only [Q1x, Q2x, Q3x, Q4x, Q5x, Q6x, Q7x, Q8x, Q9x, Q0x, Qax, Qbx] at hb367
           have hx0b : -1000 ≤ x0 := by have := hb367; first | omega | (simp at this; omega)
           clear hx00 hx01
           refine wp_cond_false (Hz.ev (x := .tmp 179) rfl) ?_
           refine wp_skip ?_
           refine hK23 _ _ ?_; clear hK23; try clear K23
           replace Hz : Has 263 [(4, _), (5, _), (6, _), (17, _), (18, _), (19, _), (20, _), (166, _), (167, _), (168, _), (30, _)] Az := Hz.only [4, 5, 6, 17, 18, 19, 20, 166, 167, 168, 30]
           refine wp_seq_k (fun K25 hK25 => ?_)
           refine wp_region_lit ?_
           refine wpList_plain rfl (fun K hK => ?_)
           refine e_litN Hz m346 202 (k := .u64) rfl rfl Tryd.underlying23 inf32wpl rfl rfl rfl rfl ?_
           clear Hz Az m346; intro g372 Az w373 Hz m373
           refine hK _ _ ?_; clear hK K
           refine goCh Hz (.len rfl Tryd.underlying23 <| .move rfl <| .nil) ?_
           clear Hz Az; intro Az Hz
           refine wpList_nil ?_
           refine hK25 _ _ ?_; clear hK25; try clear K25
           refine wp_block ?_
           have m376 := m373.freezeN 202 rfl; clear m373
           refine wp_loop_ghost (fun g a w => ∃ (i : Nat), i ≤ 2 ∧ g = 2 - i ∧ Has 263 [(4, .slice po ov.length co), (5, .int .u8 (a9 : Nat)), (6, .slice pr rv.length cr), (17, .pointer (some ⟨B9, 0, none⟩)), (18, .pointer (some ⟨B, 0, none⟩)), (19, .int .i64 (ff : Nat)), (20, .int .i64 (tt : Nat)), (166, .slice (some ⟨g331, 0, none⟩) 5 5), (167, .int .i64 5), (168, .int .i64 (j : Nat)), (30, .pointer (some ⟨g344, 0, none⟩)), (180, .slice (some ⟨g372, 0, none⟩) 2 2), (181, .int .i64 2), (182, .int .i64 (i : Nat))] a ∧ MemOk (cxt w0) w0 [(20, KH.rb B9 S9), (21, KH.ru), (22, KH.rs S9), (3, .dat (.slice po ov.length co) (.ns .u8 ov)), (4, .dat (.slice pr rv.length cr) (.ns .u8 rv)), (5, tabR), (10, .box B 60 [.slice pS (List.replicate 20 zeros).length cS, .slice p wl.length c, .int .i64 (-1)]), (11, .dat (.slice pS (List.replicate 20 zeros).length cS) (.l 1 ((List.replicate 20 zeros).map bD))), (12, .dat (.slice p wl.length c) (.l 2 (wl.map wD))), (13, .dat (.slice (some ⟨g331, 0, none⟩) 5 5) (.l 2 (xs5.map xD5))), (14, .box g344 39 [.int .i64 x0, .int .i64 x1]), (15, .dat (.slice (some ⟨g372, 0, none⟩) 2 2) (.ns .u64 [0, 300]))] w) (2) ?_ ?_
           · exact ⟨0, by omega, rfl, Hz.only [4, 5, 6, 17, 18, 19, 20, 166, 167, 168, 30, 180, 181, 182], m376.ren [(20, 20), (21, 21), (22, 22), (3, 3), (4, 4), (5, 5), (10, 10), (11, 11), (12, 12), (13, 13), (14, 201), (15, 202)] (by decide)⟩
           ·
            clear Hz m376
            rintro g Az w377 ⟨i, hi2, hg3, Hz, m377⟩
            refine regS Hz (.lss rfl rfl <| .nil) ?_
            clear Hz Az; intro Az Hz
            refine wp_seq_k (fun K26 hK26 => ?_)
            refine bool_cases Hz (t := 183) rfl ?_ ?_
            ·
             clear Hz; intro hb379 Hz
             try simp only [Q1x, Q2x, Q3x, Q4x, Q5x, Q6x, Q7x, Q8x, Q9x, Q0x, Qax, Qbx] at hb379
             have hi3 : i < 2 := by have := hb379; first | omega | (simp at this; omega)
             refine wp_cond_true (Hz.ev (x := .tmp 183) rfl) ?_
             refine wp_skip ?_
             refine hK26 _ _ ?_; clear hK26; try clear K26
             refine wp_seq_k (fun K27 hK27 => ?_)
             refine wp_block ?_
             refine wp_seq_k (fun K28 hK28 => ?_)
             refine wp_region_lit ?_
             obtain ⟨b381, o381, hp381, m381⟩ := m377.openN (i := 15) rfl (i) hi3 300 rfl
             cases hp381; clear m377
             refine goCh Hz (.c rfl (fun _ h => y_idx h rfl rfl Tryd.underlying23 sz32wpl (i) rfl hi3) <| .loadC0 m381 (i := 300) rfl rfl Tryd.underlying32 rfl <| .assign rfl <| .nil) ?_
             clear Hz Az; intro Az Hz
             refine wpList_nil ?_
             refine hK28 _ _ ?_; clear hK28; try clear K28
             refine wp_seq_k (fun K29 hK29 => ?_)
             obtain ⟨gx, hgx, hgx0, hgx1⟩ : ∃ z : Int, (([0, 300] : List Int).getD i 0) = z ∧ 0 ≤ z ∧ z ≤ 18446744073709551615 := by
               refine ⟨_, rfl, ?_⟩
               rcases (by omega : i = 0 ∨ i = 1) with rfl | rfl <;> simp
             rw [hgx] at Hz
             obtain ⟨⟨L9, o9⟩, hV9⟩ : ∃ z, scanF KH.secs x1 gx (x1 - x0).toNat x0 = z := ⟨_, rfl⟩
             have hL9 : L9.length ≤ 1000000 := by
               have h := scanF_len (to := x1) (gn := gx) hKH.2.2.1 (x1 - x0).toNat x0
               rw [hV9] at h; dsimp only at h; omega
             ·
              refine wp_region_lit ?_
              refine goCh Hz (.move rfl <| .c rfl (fun _ h => y_idxA h rfl rfl Tryd.underlying39 sz3wpl 0 rfl (by decide) (off := 0) rfl) <| .loadB1 m381 (i := 14) rfl rfl rfl Tryd.underlying3 rfl <| .c rfl (fun _ h => y_idxA h rfl rfl Tryd.underlying39 sz3wpl 1 rfl (by decide) (off := 1) rfl) <| .loadB1 m381 (i := 14) rfl rfl rfl Tryd.underlying3 rfl <| .move rfl <| .nil) ?_
              clear Hz Az; intro Az Hz
              refine wpList_plain rfl (fun K hK => ?_)
              refine e_call Hz Tryd.func15 rfl rfl rfl rfl (scan_v (L := L9) (o := o9) x0 x1 gx _ (Dk.is hKH m381 (i := 20) (j := 21) (k := 22) rfl rfl rfl) (m381.tabr (i := 5) rfl) (Nat.le_trans h01 m381.keep.2.2.2.1) (by omega) (by omega) (by omega) (by omega) (by omega) hV9) ?_
              rintro e w391 ⟨p391, c391, rfl, hd391, hb391⟩
              have m392 := m381.callF 301 rfl hb391 hd391
              clear m381
              clear hb391 hd391
              refine ⟨_, rfl, ?_⟩; clear Hz Az; intro Az Hz
              refine hK _ _ ?_; clear hK K
              refine goCh Hz (.move rfl <| .extract rfl rfl <| .extract rfl rfl <| .assign rfl <| .assign rfl <| .nil) ?_
              clear Hz Az; intro Az Hz
              refine wpList_nil ?_
              refine hK29 _ _ ?_; clear hK29; try clear K29
              replace Hz : Has 263 [(4, _), (5, _), (6, _), (17, _), (18, _), (19, _), (20, _), (166, _), (167, _), (168, _), (30, _), (180, _), (181, _), (182, _), (32, _), (33, _), (34, _)] Az := Hz.only [4, 5, 6, 17, 18, 19, 20, 166, 167, 168, 30, 180, 181, 182, 32, 33, 34]
              refine wp_seq_k (fun K30 hK30 => ?_)
              refine wp_region_lit ?_
              refine goCh Hz (.move rfl <| .c rfl (fun _ h => y_idxA h rfl rfl Tryd.underlying39 sz3wpl 0 rfl (by decide) (off := 0) rfl) <| .loadB1 m392 (i := 14) rfl rfl rfl Tryd.underlying3 rfl <| .c rfl (fun _ h => y_idxA h rfl rfl Tryd.underlying39 sz3wpl 1 rfl (by decide) (off := 1) rfl) <| .loadB1 m392 (i := 14) rfl rfl rfl Tryd.underlying3 rfl <| .move rfl <| .nil) ?_
              clear Hz Az; intro Az Hz
              refine wpList_plain rfl (fun K hK => ?_)
              refine e_call Hz Tryd.func16 rfl rfl rfl rfl (rscan_c _ _ (List.replicate 20 zeros) KH.secs wl x0 x1 gx _ _ _ _ _ (n := 20) hZ hSL hV hKH.2.2.1 (by omega) (by omega) (by omega) (by omega) (by omega) (by omega) (by omega) (by omega) hV9 (m392.into [(1, 10), (2, 11), (3, 12)] (by decide) rfl)) ?_
              rintro e w412 ⟨p412, c412, rfl, hm412⟩
              have mx412 := m392.back hm412 [(10, 1), (11, 2), (12, 3), (302, 4)] (by decide); clear hm412 m392
              have m412 : MemOk _ _ [(10, _), (11, _), (12, _), (302, _), (3, _), (4, _), (5, _), (13, _), (14, _), (15, _), (20, _), (21, _), (22, _), (300, _), (301, _)] _ := mx412.only [10, 11, 12, 302, 3, 4, 5, 13, 14, 15, 20, 21, 22, 300, 301]; clear mx412
              refine ⟨_, rfl, ?_⟩; clear Hz Az; intro Az Hz
              refine hK _ _ ?_; clear hK K
              refine goCh Hz (.move rfl <| .extract rfl rfl <| .extract rfl rfl <| .assign rfl <| .assign rfl <| .nil) ?_
              clear Hz Az; intro Az Hz
              refine wpList_nil ?_
              refine hK30 _ _ ?_; clear hK30; try clear K30
              replace Hz : Has 263 [(4, _), (5, _), (6, _), (17, _), (18, _), (19, _), (20, _), (166, _), (167, _), (168, _), (30, _), (180, _), (181, _), (182, _), (33, _), (34, _), (35, _), (36, _)] Az := Hz.only [4, 5, 6, 17, 18, 19, 20, 166, 167, 168, 30, 180, 181, 182, 33, 34, 35, 36]
              refine wp_seq_k (fun K31 hK31 => ?_)
              refine wp_region_lit ?_
              refine goCh Hz (.move rfl <| .move rfl <| .neq rfl rfl <| .move rfl <| .nil) ?_
              clear Hz Az; intro Az Hz
              refine bool_cases Hz (t := 209) rfl ?_ ?_
              · intro hb _; exact absurd hb (by simp)
              clear Hz; intro _ Hz
              refine goCh Hz (.moveZ rfl <| .moveZ rfl <| .nil) ?_
              clear Hz Az; intro Az Hz
              refine st_ge Hz rfl rfl rfl rfl (fun K hK => ?_)
              refine e_call Hz Tryd.func17 rfl rfl rfl rfl (bodies_any L9 _ _ _ _ _ _ _ (m412.rd (i := 301) rfl).any (m412.rd (i := 302) rfl).any (by omega)) ?_
              rintro e w431 ⟨rfl, hb431⟩
              have m432 := m412.later hb431
              clear m412
              clear hb431
              refine ⟨_, rfl, ?_⟩; clear Hz Az; intro Az Hz
              refine hK _ _ ?_; clear hK K
              refine goCh Hz (.notZ rfl <| .pickF rfl rfl <| .nil) ?_
              clear Hz Az; intro Az Hz
              refine wpList_nil ?_
              refine hK31 _ _ ?_; clear hK31; try clear K31
              refine wp_cond_false (Hz.ev (x := .tmp 214) rfl) ?_
              refine wp_skip ?_
              refine hK27 _ _ ?_; clear hK27; try clear K27
              replace Hz : Has 263 [(4, _), (5, _), (6, _), (17, _), (18, _), (19, _), (20, _), (166, _), (167, _), (168, _), (30, _), (180, _), (181, _), (182, _)] Az := Hz.only [4, 5, 6, 17, 18, 19, 20, 166, 167, 168, 30, 180, 181, 182]
              refine wp_region_lit ?_
              refine goCh Hz (.add rfl rfl (r := ((i + 1 : Nat) : Int)) (IntWalk.i64_in _ (by omega)) <| .move rfl <| .nil) ?_
              clear Hz Az; intro Az Hz
              refine wpList_nil ?_
              show ∃ n', n' < _ ∧ _
              exact ⟨2 - (i + 1), by omega, i + 1, by omega, rfl, Hz.only [4, 5, 6, 17, 18, 19, 20, 166, 167, 168, 30, 180, 181, 182], m432.only [20, 21, 22, 3, 4, 5, 10, 11, 12, 13, 14, 15]⟩
            ·
             clear Hz; intro hb379 Hz
             try simp only [Q1x, Q2x, Q3x, Q4x, Q5x, Q6x, Q7x, Q8x, Q9x, Q0x, Qax, Qbx] at hb379
             refine wp_cond_false (Hz.ev (x := .tmp 183) rfl) ?_
             refine wp_exit ?_
             refine hK21 _ _ ?_; clear hK21; try clear K21
             refine wp_region_lit ?_
             refine goCh Hz (.add rfl rfl (r := ((j + 1 : Nat) : Int)) (IntWalk.i64_in _ (by omega)) <| .move rfl <| .nil) ?_
             clear Hz Az; intro Az Hz
             refine wpList_nil ?_
             show ∃ n', n' < _ ∧ _
             exact ⟨5 - (j + 1), by omega, j + 1, by omega, rfl, Hz.only [4, 5, 6, 17, 18, 19, 20, 166, 167, 168], m377.only [20, 21, 22, 3, 4, 5, 10, 11, 12, 13]⟩
        ·
         clear Hz; intro hb339 Hz
         try simp only [Q1x, Q2x, Q3x, Q4x, Q5x, Q6x, Q7x, Q8x, Q9x, Q0x, Qax, Qbx] at hb339
         refine wp_cond_false (Hz.ev (x := .tmp 169) rfl) ?_
         refine wp_exit ?_
         refine hK18 _ _ ?_; clear hK18; try clear K18
         refine wp_seq_k (fun K32 hK32 => ?_)
         refine wp_region_lit ?_
         refine goCh Hz (.move rfl <| .move rfl <| .rem rfl rfl (by omega) (r := ((a9 % 20 : Nat) : Int)) (by rw [Int.tmod_eq_emod_of_nonneg (by omega)]; omega) <| .conv rfl Tryd.underlying5 Tryd.underlying3 (IntWalk.i64_in _ (by omega)) <| .move rfl <| .nil) ?_
         clear Hz Az; intro Az Hz
         refine wpList_plain rfl (fun K hK => ?_)
         refine e_call Hz Tryd.func18 rfl rfl rfl rfl (kwrite_c _ KH (a9 % 20) ov _ _ (n := 20) hSL hKH hl9 (by omega) (by omega) hov hovB (m337.into [(1, 20), (2, 21), (3, 22), (4, 3)] (by decide) (passD rfl))) ?_
         rintro e w451 ⟨rfl, KX, hKX, hlX, hSX, hUX, hm451⟩
         have mx451 := m337.back hm451 [(20, 1), (21, 2), (22, 3), (3, 4)] (by decide); clear hm451 m337
         have m451 : MemOk _ _ [(20, _), (21, _), (22, _), (3, _), (4, _), (5, _), (10, _), (11, _), (12, _), (13, _)] _ := mx451.only [20, 21, 22, 3, 4, 5, 10, 11, 12, 13]; clear mx451
         refine ⟨_, rfl, ?_⟩; clear Hz Az; intro Az Hz
         refine hK _ _ ?_; clear hK K
         have hSX9 : KX.secs.length = 20 := by rw [hSX, List.length_set]; exact hSL
         refine wpList_nil ?_
         refine hK32 _ _ ?_; clear hK32; try clear K32
         replace Hz : Has 263 [(4, _), (5, _), (6, _), (17, _), (18, _), (19, _), (20, _), (166, _), (167, _), (168, _)] Az := Hz.only [4, 5, 6, 17, 18, 19, 20, 166, 167, 168]
         refine wp_seq_k (fun K33 hK33 => ?_)
         refine wp_region_lit ?_
         refine goCh Hz (.move rfl <| .move rfl <| .rem rfl rfl (by omega) (r := ((a9 % 20 : Nat) : Int)) (by rw [Int.tmod_eq_emod_of_nonneg (by omega)]; omega) <| .conv rfl Tryd.underlying5 Tryd.underlying3 (IntWalk.i64_in _ (by omega)) <| .move rfl <| .nil) ?_
         clear Hz Az; intro Az Hz
         refine wpList_plain rfl (fun K hK => ?_)
         refine e_call Hz Tryd.func19 rfl rfl rfl rfl (rwrite_x _ _ (List.replicate 20 zeros) wl ((a9 % 20 : Nat) : Int) ov _ _ _ _ _ _ _ (by rw [hZ]; omega) hov (by omega) (m451.into [(1, 10), (2, 11), (3, 12), (4, 3)] (by decide) rfl)) ?_
         rintro e w464 ⟨rfl, pn464, cn464, hm464⟩
         have mx464 := m451.back hm464 [(10, 1), (11, 2), (12, 3), (3, 4)] (by decide); clear hm464 m451
         have m464 : MemOk _ _ [(10, _), (11, _), (12, _), (3, _), (4, _), (5, _), (13, _), (20, _), (21, _), (22, _)] _ := mx464.only [10, 11, 12, 3, 4, 5, 13, 20, 21, 22]; clear mx464
         refine ⟨_, rfl, ?_⟩; clear Hz Az; intro Az Hz
         refine hK _ _ ?_; clear hK K
         refine wpList_nil ?_
         refine hK33 _ _ ?_; clear hK33; try clear K33
         replace Hz : Has 263 [(4, _), (5, _), (6, _), (17, _), (18, _), (19, _), (20, _), (166, _), (167, _), (168, _)] Az := Hz.only [4, 5, 6, 17, 18, 19, 20, 166, 167, 168]
         refine wp_seq_k (fun K34 hK34 => ?_)
         refine wp_region_lit ?_
         refine goCh Hz (.move rfl <| .move rfl <| .quo rfl rfl (by omega) (r := ((a9 / 20 : Nat) : Int)) (by rw [Int.tdiv_eq_ediv_of_nonneg (by omega), IntWalk.u8_in _ (by omega)]; omega) <| .conv rfl Tryd.underlying5 Tryd.underlying3 (IntWalk.i64_in _ (by omega)) <| .move rfl <| .nil) ?_
         clear Hz Az; intro Az Hz
         refine wpList_plain rfl (fun K hK => ?_)
         refine e_call Hz Tryd.func18 rfl rfl rfl rfl (kwrite_c _ KX (a9 / 20) rv _ _ (n := 20) hSX9 hKX hlX (by omega) (by omega) hrw hrwB (m464.into [(1, 20), (2, 21), (3, 22), (4, 4)] (by decide) (passD rfl))) ?_
         rintro e w477 ⟨rfl, KY, hKY, hlY, hSY0, hUY, hm477⟩
         have mx477 := m464.back hm477 [(20, 1), (21, 2), (22, 3), (4, 4)] (by decide); clear hm477 m464
         have m477 : MemOk _ _ [(20, _), (21, _), (22, _), (4, _), (3, _), (5, _), (10, _), (11, _), (12, _), (13, _)] _ := mx477.only [20, 21, 22, 4, 3, 5, 10, 11, 12, 13]; clear mx477
         refine ⟨_, rfl, ?_⟩; clear Hz Az; intro Az Hz
         refine hK _ _ ?_; clear hK K
         have hSY : KY.secs.length = 20 := by rw [hSY0, List.length_set]; exact hSX9
         refine wpList_nil ?_
         refine hK34 _ _ ?_; clear hK34; try clear K34
         replace Hz : Has 263 [(4, _), (5, _), (6, _), (17, _), (18, _), (19, _), (20, _), (166, _), (167, _), (168, _)] Az := Hz.only [4, 5, 6, 17, 18, 19, 20, 166, 167, 168]
         refine wp_seq_k (fun K35 hK35 => ?_)
         refine wp_region_lit ?_
         refine goCh Hz (.move rfl <| .move rfl <| .quo rfl rfl (by omega) (r := ((a9 / 20 : Nat) : Int)) (by rw [Int.tdiv_eq_ediv_of_nonneg (by omega), IntWalk.u8_in _ (by omega)]; omega) <| .conv rfl Tryd.underlying5 Tryd.underlying3 (IntWalk.i64_in _ (by omega)) <| .move rfl <| .nil) ?_
         clear Hz Az; intro Az Hz
         refine wpList_plain rfl (fun K hK => ?_)
         refine e_call Hz Tryd.func19 rfl rfl rfl rfl (rwrite_x _ _ (List.replicate 20 zeros) (wl ++ [(((a9 % 20 : Nat) : Int), pad ov)]) ((a9 / 20 : Nat) : Int) rv _ _ _ _ _ _ _ (by rw [hZ]; omega) hrw (by rw [List.length_append]; simp; omega) (m477.into [(1, 10), (2, 11), (3, 12), (4, 4)] (by decide) rfl)) ?_
         rintro e w490 ⟨rfl, pn490, cn490, hm490⟩
         have mx490 := m477.back hm490 [(10, 1), (11, 2), (12, 3), (4, 4)] (by decide); clear hm490 m477
         have m490 : MemOk _ _ [(10, _), (11, _), (12, _), (4, _), (3, _), (5, _), (13, _), (20, _), (21, _), (22, _)] _ := mx490.only [10, 11, 12, 4, 3, 5, 13, 20, 21, 22]; clear mx490
         refine ⟨_, rfl, ?_⟩; clear Hz Az; intro Az Hz
         refine hK _ _ ?_; clear hK K
         refine wpList_nil ?_
         refine hK35 _ _ ?_; clear hK35; try clear K35
         refine wp_seq_k (fun K36 hK36 => ?_)
         obtain ⟨⟨L9, o9⟩, hV9⟩ : ∃ z, scanF KY.secs (tt : Int) 300 ((tt : Int) - (ff : Int)).toNat (ff : Int) = z := ⟨_, rfl⟩
         have hL9 : L9.length ≤ 1000000 := by
           have h := scanF_len (to := (tt : Int)) (gn := 300) hKY.2.2.1 ((tt : Int) - (ff : Int)).toNat (ff : Int)
           rw [hV9] at h; dsimp only at h; omega
         have hVX := cur_set hV hSL (a9 % 20) (pad ov)
         rw [← hSX] at hVX
         have hVY := cur_set hVX hSX9 (a9 / 20) (pad rv)
         rw [← hSY0] at hVY
         have hWW : ((wl ++ [(((a9 % 20 : Nat) : Int), pad ov)]) ++ [(((a9 / 20 : Nat) : Int), pad rv)]).length ≤ 1000000 := by rw [List.length_append, List.length_append]; simp; omega
         ·
          replace Hz : Has 263 [(4, _), (5, _), (6, _), (17, _), (18, _), (19, _), (20, _), (166, _), (167, _), (168, _)] Az := Hz.only [4, 5, 6, 17, 18, 19, 20, 166, 167, 168]
          refine wp_region_lit ?_
          refine goCh Hz (.move rfl <| .move rfl <| .move rfl <| .nil) ?_
          clear Hz Az; intro Az Hz
          refine wpList_plain rfl (fun K hK => ?_)
          refine e_call Hz Tryd.func15 rfl rfl rfl rfl (scan_v (L := L9) (o := o9) (ff : Int) (tt : Int) 300 _ (Dk.is hKY m490 (i := 20) (j := 21) (k := 22) rfl rfl rfl) (m490.tabr (i := 5) rfl) (Nat.le_trans h01 m490.keep.2.2.2.1) (by omega) (by omega) (by omega) (by omega) (by omega) hV9) ?_
          rintro e w496 ⟨p496, c496, rfl, hd496, hb496⟩
          have m497 := m490.callF 200 rfl hb496 hd496
          clear m490
          clear hb496 hd496
          refine ⟨_, rfl, ?_⟩; clear Hz Az; intro Az Hz
          refine hK _ _ ?_; clear hK K
          refine goCh Hz (.move rfl <| .extract rfl rfl <| .extract rfl rfl <| .assign rfl <| .assign rfl <| .nil) ?_
          clear Hz Az; intro Az Hz
          refine wpList_nil ?_
          refine hK36 _ _ ?_; clear hK36; try clear K36
          replace Hz : Has 263 [(4, _), (5, _), (6, _), (17, _), (18, _), (19, _), (20, _), (166, _), (167, _), (168, _), (37, _), (38, _)] Az := Hz.only [4, 5, 6, 17, 18, 19, 20, 166, 167, 168, 37, 38]
          refine wp_seq_k (fun K37 hK37 => ?_)
          refine wp_region_lit ?_
          refine goCh Hz (.move rfl <| .move rfl <| .move rfl <| .nil) ?_
          clear Hz Az; intro Az Hz
          refine wpList_plain rfl (fun K hK => ?_)
          refine e_call Hz Tryd.func16 rfl rfl rfl rfl (rscan_c _ _ (List.replicate 20 zeros) KY.secs ((wl ++ [(((a9 % 20 : Nat) : Int), pad ov)]) ++ [(((a9 / 20 : Nat) : Int), pad rv)]) (ff : Int) (tt : Int) 300 _ _ _ _ _ (n := 20) hZ hSY hVY hKY.2.2.1 (by omega) (by omega) (by omega) (by omega) (by omega) (by omega) (by omega) (by omega) hV9 (m497.into [(1, 10), (2, 11), (3, 12)] (by decide) rfl)) ?_
          rintro e w511 ⟨p511, c511, rfl, hm511⟩
          have mx511 := m497.back hm511 [(10, 1), (11, 2), (12, 3), (201, 4)] (by decide); clear hm511 m497
          have m511 : MemOk _ _ [(10, _), (11, _), (12, _), (201, _), (3, _), (4, _), (5, _), (13, _), (20, _), (21, _), (22, _), (200, _)] _ := mx511.only [10, 11, 12, 201, 3, 4, 5, 13, 20, 21, 22, 200]; clear mx511
          refine ⟨_, rfl, ?_⟩; clear Hz Az; intro Az Hz
          refine hK _ _ ?_; clear hK K
          refine goCh Hz (.move rfl <| .extract rfl rfl <| .extract rfl rfl <| .assign rfl <| .assign rfl <| .nil) ?_
          clear Hz Az; intro Az Hz
          refine wpList_nil ?_
          refine hK37 _ _ ?_; clear hK37; try clear K37
          replace Hz : Has 263 [(4, _), (5, _), (6, _), (17, _), (18, _), (19, _), (20, _), (166, _), (167, _), (168, _), (37, _), (38, _), (39, _), (40, _)] Az := Hz.only [4, 5, 6, 17, 18, 19, 20, 166, 167, 168, 37, 38, 39, 40]
          refine wp_seq_k (fun K38 hK38 => ?_)
          refine wp_region_lit ?_
          refine goCh Hz (.move rfl <| .move rfl <| .eql rfl rfl <| .move rfl <| .nil) ?_
          clear Hz Az; intro Az Hz
          refine bool_cases Hz (t := 258) rfl ?_ ?_
          rotate_left
          · intro hb _; exact absurd hb (by simp)
          clear Hz; intro _ Hz
          refine goCh Hz (.moveZ rfl <| .moveZ rfl <| .nil) ?_
          clear Hz Az; intro Az Hz
          refine st_ge Hz rfl rfl rfl rfl (fun K hK => ?_)
          refine e_call Hz Tryd.func17 rfl rfl rfl rfl (bodies_any L9 _ _ _ _ _ _ _ (m511.rd (i := 200) rfl).any (m511.rd (i := 201) rfl).any (by omega)) ?_
          rintro e w530 ⟨rfl, hb530⟩
          have m531 := m511.later hb530
          clear m511
          clear hb530
          refine ⟨_, rfl, ?_⟩; clear Hz Az; intro Az Hz
          refine hK _ _ ?_; clear hK K
          refine goCh Hz (.pickT rfl rfl <| .assign rfl <| .nil) ?_
          clear Hz Az; intro Az Hz
          refine wpList_nil ?_
          refine hK38 _ _ ?_; clear hK38; try clear K38
          refine wp_ret ?_
          try dsimp only [Exit.then, Exit.inBlock]
          refine (ret1 (fn := Tryd.f3) Hz rfl rfl ?_)
          exact ⟨by first | rfl | simp, m531.below⟩
end Go.Proofs.YtogjhjiapinmcaaDoor.K
