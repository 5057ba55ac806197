/- VolumeRights' walk. -/
import Derived.Test.YtocfbocdnklllaaVol34
import Derived.Test.YtocfbocdnklllaaVol21
namespace Go.Proofs.Ytocfbocdnklllaa.K
open Go.ChangeShapes Go.WideShapes Go.ChangeAt Go.RowKit
set_option linter.unusedVariables false
set_option linter.unusedSimpArgs false

theorem sz55sm : (Try.prog.info? 55).map (·.size) = some 2 := by kernel_rfl
theorem fl55vr : flatS Try.prog 55 [.int .i64 0, .slice none 0 0] = true := by kernel_rfl
theorem inf2vr : (Try.prog.info? 2).map (fun i => (i.zero, i.size, i.bytes)) = some (some (.int .i64 0), 1, 8) := by kernel_rfl
theorem inf3vr : (Try.prog.info? 3).map (fun i => (i.zero, i.size, i.bytes)) = some (some (.int .i64 0), 1, 8) := by kernel_rfl
theorem inf55vr : (Try.prog.info? 55).map (fun i => (i.zero, i.size, i.bytes)) = some (some (.agg #[.int .i64 0, .slice none 0 0]), 2, 32) := by kernel_rfl
theorem sz2vr : (Try.prog.info? 2).map (·.size) = some 1 := by kernel_rfl
theorem sz3vr : (Try.prog.info? 3).map (·.size) = some 1 := by kernel_rfl
theorem sz4vr : (Try.prog.info? 4).map (·.size) = some 1 := by kernel_rfl
theorem sz22vr : (Try.prog.info? 22).map (·.size) = some 1 := by kernel_rfl
theorem sz31vr : (Try.prog.info? 31).map (·.size) = some 1 := by kernel_rfl
theorem sz32vr : (Try.prog.info? 32).map (·.size) = some 1 := by kernel_rfl
theorem sz34vr : (Try.prog.info? 34).map (·.size) = some 11 := by kernel_rfl
theorem zc34vr : ((Try.prog.info? 34).bind (·.zero)).map (·.cells.toList) = some [.int .i64 0, .int .i64 0, .int .i64 0, .int .i64 0, .slice none 0 0, .int .i64 0, .int .i64 0, .bool false, .int .i64 0, .slice none 0 0, .slice none 0 0] := by kernel_rfl
theorem zc55vr : ((Try.prog.info? 55).bind (·.zero)).map (·.cells.toList) = some [.int .i64 0, .slice none 0 0] := by kernel_rfl

theorem small_take {l : List PWr} {k : Nat} {e : PWr} (h : ∀ e ∈ l.take k, e.2.length ≤ 12) (hes : l[k]? = some e) (he : e.2.length ≤ 12) : ∀ e ∈ l.take (k + 1), e.2.length ≤ 12 := fun f hf => by
 rw [List.take_add_one, hes] at hf
 rcases List.mem_append.1 hf with h1 | h1
 · exact h f h1
 · simp at h1; subst h1; exact he
theorem iff_b {a b : Bool} {p : Prop} (h1 : a = true ↔ p) (h2 : b = true ↔ p) : b = a := by
 have h := h2.trans h1.symm
 cases a <;> cases b <;> simp_all
theorem VolS.small {n : Nat} {x : VolV} (h : VolS n x) : x.place.length ≤ 256 ∧ x.pins.length ≤ n ∧ x.ws.length ≤ n ∧ ∀ e ∈ x.ws, e.2.length ≤ 8 := by
 obtain ⟨h1, h2, h3, h4⟩ := h
 refine ⟨?_, h3, h4, h1.its.2⟩
 obtain ⟨⟨a1, a2, a3, a4, a5, a6, a7, a8, a9, a10, a11⟩, b1, b2, b3⟩ := h1
 have h9 := a9.2
 have : (x.bl + x.pe - 1) / x.pe ≤ x.bl + x.pe - 1 := Int.ediv_le_self _ (by omega)
 have h8 : (x.bl + x.pe - 1) / x.pe ≤ x.bl := by
   have := Int.ediv_lt_of_lt_mul (a := x.bl + x.pe - 1) (b := x.bl + 1) (c := x.pe) (by omega) (by
     have : x.bl * 1 ≤ x.bl * x.pe := Int.mul_le_mul_of_nonneg_left (by omega) (by omega)
     rw [Int.add_mul]; omega)
   omega
 omega
def andI (n k : Int) : Int := IntKind.i64.wrap (BitVec.ofInt IntKind.i64.bits n &&& BitVec.ofInt IntKind.i64.bits k).toNat
theorem rright_nn (vo bl sz pe to ne fl : Int) (hi : Bool) (place pins : List Int) (ws : List (Int × List (Int × List Int))) (pp pn pw : Option Addr) (cp cn9 cw : Nat) (nn : Nat) (w0 : World) (h0 : Rd (fun _ => True) w0 (.slice pp place.length cp) (.ns .i64 place)) (h1 : Rd (fun _ => True) w0 (.slice pn pins.length cn9) (.ns .i64 pins)) (h2 : Rd (fun _ => True) w0 (.slice pw nn cw) (.l 2 (ws.map wrD))) (hn : place.length ≤ 1000000) (hp : pins.length ≤ 1000000) (hl : ws.length ≤ 1000000) (hwl : ∀ e ∈ ws, e.2.length ≤ 1000000) :
   Calls Try.prog 27 #[.agg #[.int .i64 vo, .int .i64 bl, .int .i64 sz, .int .i64 pe, .slice pp place.length cp, .int .i64 to, .int .i64 ne, .bool hi, .int .i64 fl, .slice pn pins.length cn9, .slice pw nn cw]] w0 fun e w' => ∃ b : Bool, e = .returned (.bool b) ∧ (b = true ↔ VolR vo bl sz pe to ne fl hi place pins ws) ∧ Below w0.heap.size w0 w' := by
 obtain rfl : nn = ws.length := by obtain ⟨pq, cq, hv, _⟩ := h2.l_shape; injection hv with _ e2 _; rw [List.length_map] at e2; exact e2
 exact rright_any vo bl sz pe to ne fl hi place pins ws pp pn pw cp cn9 cw w0 h0 h1 h2 hn hp hl hwl
theorem vright_n2 (vo bl sz pe to ne fl : Int) (hi : Bool) (place pins : List Int) (ws : List (Int × List (Int × List Int))) (pp pn pw : Option Addr) (cp cn9 cw : Nat) (nn : Nat) (w0 : World) (h0 : Rd (fun _ => True) w0 (.slice pp place.length cp) (.ns .i64 place)) (h1 : Rd (fun _ => True) w0 (.slice pn pins.length cn9) (.ns .i64 pins)) (h2 : Rd (fun _ => True) w0 (.slice pw nn cw) (.l 2 (ws.map wrD))) (hn : place.length ≤ 1000000) (hp : pins.length ≤ 1000000) (hl : ws.length ≤ 1000000) (hwl : ∀ e ∈ ws, e.2.length ≤ 1000000) :
   Calls Try.prog 19 #[.agg #[.int .i64 vo, .int .i64 bl, .int .i64 sz, .int .i64 pe, .slice pp place.length cp, .int .i64 to, .int .i64 ne, .bool hi, .int .i64 fl, .slice pn pins.length cn9, .slice pw nn cw]] w0 fun e w' => ∃ b : Bool, e = .returned (.bool b) ∧ (b = true ↔ VolR vo bl sz pe to ne fl hi place pins ws) ∧ Below w0.heap.size w0 w' := by
 obtain rfl : nn = ws.length := by obtain ⟨pq, cq, hv, _⟩ := h2.l_shape; injection hv with _ e2 _; rw [List.length_map] at e2; exact e2
 exact vright_any vo bl sz pe to ne fl hi place pins ws pp pn pw cp cn9 cw w0 h0 h1 h2 hn hp hl hwl
set_option maxRecDepth 100000
set_option maxHeartbeats 4000000
theorem small_any (x : VolV) (p1 p2 p3 : Option Addr) (d1 d2 d3 : Nat) (w0 : World) (h1 : Rd (fun _ => True) w0 (.slice p1 x.place.length d1) (.ns .i64 x.place)) (h2 : Rd (fun _ => True) w0 (.slice p2 x.pins.length d2) (.ns .i64 x.pins)) (h3 : Rd (fun _ => True) w0 (.slice p3 (x.ws.map wrD).length d3) (.l 2 (x.ws.map wrD))) (hwl : ∀ e ∈ x.ws, e.2.length ≤ 140737488351232) :
   Calls Try.prog 24 #[.agg #[.int .i64 x.vo, .int .i64 x.bl, .int .i64 x.sz, .int .i64 x.pe, .slice p1 x.place.length d1, .int .i64 x.to, .int .i64 x.ne, .bool x.hi, .int .i64 x.fl, .slice p2 x.pins.length d2, .slice p3 (x.ws.map wrD).length d3]] w0 fun e w' => ∃ b : Bool, e = .returned (.bool b) ∧ (b = true → x.place.length ≤ 40 ∧ x.pins.length ≤ 20 ∧ x.ws.length ≤ 30 ∧ ∀ e ∈ x.ws, e.2.length ≤ 12) ∧ Below w0.heap.size w0 w' := by
 refine enter (fn := Try.f24) Try.func24 rfl Try.ntmps24 rfl (fun Az Hz => ?_)
 simp only [List.zipIdx_cons, List.zipIdx_nil, List.map_cons, List.map_nil, Nat.reduceAdd, Nat.zero_add] at Hz
 have m0 := MemOk.start (fun _ => False) w0
 refine wp_seq_k (fun K0 hK0 => ?_)
 refine wp_region_lit ?_
 refine wpList_plain rfl (fun K hK => ?_)
 refine e_box Hz m0 20 (cs := [_, _, _, _, _, _, _, _, _, _, _]) rfl rfl rfl ?_
 clear Hz Az m0; intro g1 Az w2 Hz m2 hB2 hg2
 clear hB2 hg2
 refine hK _ _ ?_; clear hK K
 refine goCh Hz (.assign rfl .nil) ?_
 clear Hz Az; intro Az Hz
 refine wpList_nil ?_
 refine hK0 _ _ ?_; clear hK0; try clear K0
 refine wp_seq_k (fun K1 hK1 => ?_)
 refine wp_seq_k (fun K2 hK2 => ?_)
 refine wp_region_lit ?_
 refine goCh Hz (.fieldAddr (off := 1) rfl Try.underlying34 rfl (s := 0) (by kernel_rfl) rfl <| .loadB1 m2 (i := 20) rfl rfl rfl Try.underlying3 rfl <| .gtr rfl rfl <| .move rfl <| .nil) ?_
 clear Hz Az; intro Az Hz
 refine bool_cases Hz (t := 7) rfl ?_ ?_
 ·
  clear Hz; intro hb12 Hz
  try simp only [Q1x, Q2x, Q3x, Q4x, Q5x, Q6x, Q7x, Q8x, Q9x, Q0x, Qax, Qbx] at hb12
  refine goCh Hz (.sk <| .sk <| .sk <| .pickT rfl rfl <| .move rfl <| .sk <| .sk <| .sk <| .sk <| .pickT rfl rfl <| .move rfl <| .sk <| .sk <| .sk <| .sk <| .pickT rfl rfl <| .move rfl <| .sk <| .sk <| .sk <| .sk <| .pickT rfl rfl <| .nil) ?_
  clear Hz Az; intro Az Hz
  refine wpList_nil ?_
  refine hK2 _ _ ?_; clear hK2; try clear K2
  refine wp_cond_true (Hz.ev (x := .tmp 29) rfl) ?_
  replace Hz : Has 45 [(1, _), (2, _)] Az := Hz.only [1, 2]
  refine regS Hz (.assign rfl <| .nil) ?_
  clear Hz Az; intro Az Hz
  refine wp_ret ?_
  try dsimp only [Exit.then, Exit.inBlock]
  refine (ret1 (fn := Try.f24) Hz rfl rfl ?_)
  exact ⟨false, rfl, (fun h => by cases h), m2.below⟩
 ·
  clear Hz; intro hb12 Hz
  try simp only [Q1x, Q2x, Q3x, Q4x, Q5x, Q6x, Q7x, Q8x, Q9x, Q0x, Qax, Qbx] at hb12
  refine goCh Hz (.fieldAddrZ (off := 2) rfl Try.underlying34 rfl (s := 0) (by kernel_rfl) rfl <| .loadB1Z m2 (i := 20) rfl rfl rfl Try.underlying3 rfl <| .gtrZ rfl rfl <| .pickF rfl rfl <| .move rfl <| .nil) ?_
  clear Hz Az; intro Az Hz
  refine bool_cases Hz (t := 12) rfl ?_ ?_
  ·
   clear Hz; intro hb42 Hz
   try simp only [Q1x, Q2x, Q3x, Q4x, Q5x, Q6x, Q7x, Q8x, Q9x, Q0x, Qax, Qbx] at hb42
   refine goCh Hz (.sk <| .sk <| .sk <| .sk <| .pickT rfl rfl <| .move rfl <| .sk <| .sk <| .sk <| .sk <| .pickT rfl rfl <| .move rfl <| .sk <| .sk <| .sk <| .sk <| .pickT rfl rfl <| .nil) ?_
   clear Hz Az; intro Az Hz
   refine wpList_nil ?_
   refine hK2 _ _ ?_; clear hK2; try clear K2
   refine wp_cond_true (Hz.ev (x := .tmp 29) rfl) ?_
   replace Hz : Has 45 [(1, _), (2, _)] Az := Hz.only [1, 2]
   refine regS Hz (.assign rfl <| .nil) ?_
   clear Hz Az; intro Az Hz
   refine wp_ret ?_
   try dsimp only [Exit.then, Exit.inBlock]
   refine (ret1 (fn := Try.f24) Hz rfl rfl ?_)
   exact ⟨false, rfl, (fun h => by cases h), m2.below⟩
  ·
   clear Hz; intro hb42 Hz
   try simp only [Q1x, Q2x, Q3x, Q4x, Q5x, Q6x, Q7x, Q8x, Q9x, Q0x, Qax, Qbx] at hb42
   have hb12 := hb42
   refine goCh Hz (.fieldAddrZ (off := 4) rfl Try.underlying34 rfl (s := 0) (by kernel_rfl) rfl <| .loadB1Z m2 (i := 20) rfl rfl rfl Try.underlying22 rfl <| .lenZ rfl Try.underlying22 <| .gtrZ rfl rfl <| .pickF rfl rfl <| .move rfl <| .nil) ?_
   clear Hz Az; intro Az Hz
   refine bool_cases Hz (t := 18) rfl ?_ ?_
   ·
    clear Hz; intro hb68 Hz
    try simp only [Q1x, Q2x, Q3x, Q4x, Q5x, Q6x, Q7x, Q8x, Q9x, Q0x, Qax, Qbx] at hb68
    refine goCh Hz (.sk <| .sk <| .sk <| .sk <| .pickT rfl rfl <| .move rfl <| .sk <| .sk <| .sk <| .sk <| .pickT rfl rfl <| .nil) ?_
    clear Hz Az; intro Az Hz
    refine wpList_nil ?_
    refine hK2 _ _ ?_; clear hK2; try clear K2
    refine wp_cond_true (Hz.ev (x := .tmp 29) rfl) ?_
    replace Hz : Has 45 [(1, _), (2, _)] Az := Hz.only [1, 2]
    refine regS Hz (.assign rfl <| .nil) ?_
    clear Hz Az; intro Az Hz
    refine wp_ret ?_
    try dsimp only [Exit.then, Exit.inBlock]
    refine (ret1 (fn := Try.f24) Hz rfl rfl ?_)
    exact ⟨false, rfl, (fun h => by cases h), m2.below⟩
   ·
    clear Hz; intro hb68 Hz
    try simp only [Q1x, Q2x, Q3x, Q4x, Q5x, Q6x, Q7x, Q8x, Q9x, Q0x, Qax, Qbx] at hb68
    have hb18 := hb68
    refine goCh Hz (.fieldAddrZ (off := 9) rfl Try.underlying34 rfl (s := 0) (by kernel_rfl) rfl <| .loadB1Z m2 (i := 20) rfl rfl rfl Try.underlying31 rfl <| .lenZ rfl Try.underlying31 <| .gtrZ rfl rfl <| .pickF rfl rfl <| .move rfl <| .nil) ?_
    clear Hz Az; intro Az Hz
    refine bool_cases Hz (t := 24) rfl ?_ ?_
    ·
     clear Hz; intro hb88 Hz
     try simp only [Q1x, Q2x, Q3x, Q4x, Q5x, Q6x, Q7x, Q8x, Q9x, Q0x, Qax, Qbx] at hb88
     refine goCh Hz (.sk <| .sk <| .sk <| .sk <| .pickT rfl rfl <| .nil) ?_
     clear Hz Az; intro Az Hz
     refine wpList_nil ?_
     refine hK2 _ _ ?_; clear hK2; try clear K2
     refine wp_cond_true (Hz.ev (x := .tmp 29) rfl) ?_
     replace Hz : Has 45 [(1, _), (2, _)] Az := Hz.only [1, 2]
     refine regS Hz (.assign rfl <| .nil) ?_
     clear Hz Az; intro Az Hz
     refine wp_ret ?_
     try dsimp only [Exit.then, Exit.inBlock]
     refine (ret1 (fn := Try.f24) Hz rfl rfl ?_)
     exact ⟨false, rfl, (fun h => by cases h), m2.below⟩
    ·
     clear Hz; intro hb88 Hz
     try simp only [Q1x, Q2x, Q3x, Q4x, Q5x, Q6x, Q7x, Q8x, Q9x, Q0x, Qax, Qbx] at hb88
     have hb24 := hb88
     refine goCh Hz (.fieldAddrZ (off := 10) rfl Try.underlying34 rfl (s := 0) (by kernel_rfl) rfl <| .loadB1Z m2 (i := 20) rfl rfl rfl Try.underlying32 rfl <| .lenZ rfl Try.underlying32 <| .gtrZ rfl rfl <| .pickF rfl rfl <| .nil) ?_
     clear Hz Az; intro Az Hz
     refine wpList_nil ?_
     refine hK2 _ _ ?_; clear hK2; try clear K2
     refine bool_cases Hz (t := 29) rfl ?_ ?_
     ·
      clear Hz; intro hb101 Hz
      try simp only [Q1x, Q2x, Q3x, Q4x, Q5x, Q6x, Q7x, Q8x, Q9x, Q0x, Qax, Qbx] at hb101
      refine wp_cond_true (Hz.ev (x := .tmp 29) rfl) ?_
      replace Hz : Has 45 [(1, _), (2, _)] Az := Hz.only [1, 2]
      refine regS Hz (.assign rfl <| .nil) ?_
      clear Hz Az; intro Az Hz
      refine wp_ret ?_
      try dsimp only [Exit.then, Exit.inBlock]
      refine (ret1 (fn := Try.f24) Hz rfl rfl ?_)
      exact ⟨false, rfl, (fun h => by cases h), m2.below⟩
     ·
      clear Hz; intro hb101 Hz
      try simp only [Q1x, Q2x, Q3x, Q4x, Q5x, Q6x, Q7x, Q8x, Q9x, Q0x, Qax, Qbx] at hb101
      have hb29 := hb101
      have hB : x.place.length ≤ 40 ∧ x.pins.length ≤ 20 ∧ x.ws.length ≤ 30 := by simp at hb12 hb18 hb24 hb29; omega
      refine wp_cond_false (Hz.ev (x := .tmp 29) rfl) ?_
      refine wp_skip ?_
      refine hK1 _ _ ?_; clear hK1; try clear K1
      refine wp_seq_k (fun K3 hK3 => ?_)
      replace Hz : Has 45 [(1, _), (2, _)] Az := Hz.only [1, 2]
      refine regS Hz (.assign rfl <| .nil) ?_
      clear Hz Az; intro Az Hz
      refine wp_block ?_
      refine wp_loop_ghost (fun g a w => ∃ (k B1 : Nat), k ≤ x.ws.length ∧ g = x.ws.length - k ∧ (∀ e ∈ x.ws.take k, e.2.length ≤ 12) ∧ Has 45 [(1, .pointer (some ⟨B1, 0, none⟩)), (3, .int .i64 k)] a ∧ MemOk (cn w0) w0 [(9, .box B1 34 [.int .i64 x.vo, .int .i64 x.bl, .int .i64 x.sz, .int .i64 x.pe, .slice p1 x.place.length d1, .int .i64 x.to, .int .i64 x.ne, .bool x.hi, .int .i64 x.fl, .slice p2 x.pins.length d2, .slice p3 (x.ws.map wrD).length d3])] w) (x.ws.length) ?_ ?_
      · exact ⟨0, _, Nat.zero_le _, rfl, (fun e he => by simp at he), Hz.only [1, 3], m2.ren [(9, 20)] (by decide)⟩
      ·
       clear Hz m2
       rintro g Az w106 ⟨k, B1, hkl, hg, hall, Hz, m106⟩
       refine wp_seq_k (fun K4 hK4 => ?_)
       refine regS Hz (.move rfl <| .fieldAddr (off := 10) rfl Try.underlying34 rfl (s := 0) (by kernel_rfl) rfl <| .loadB1 m106 (i := 9) rfl rfl rfl Try.underlying32 rfl <| .len rfl Try.underlying32 <| .lss rfl rfl <| .nil) ?_
       clear Hz Az; intro Az Hz
       refine bool_cases Hz (t := 34) rfl ?_ ?_
       ·
        clear Hz; intro hb112 Hz
        try simp only [Q1x, Q2x, Q3x, Q4x, Q5x, Q6x, Q7x, Q8x, Q9x, Q0x, Qax, Qbx] at hb112
        have hk : k < x.ws.length := by have := hb112; simp at this; omega
        obtain ⟨⟨xs, xl⟩, hes⟩ : ∃ e, x.ws[k]? = some e := ⟨_, List.getElem?_eq_getElem hk⟩
        refine wp_cond_true (Hz.ev (x := .tmp 34) rfl) ?_
        refine wp_skip ?_
        refine hK4 _ _ ?_; clear hK4; try clear K4
        refine wp_seq_k (fun K5 hK5 => ?_)
        refine wp_block ?_
        refine wp_seq_k (fun K6 hK6 => ?_)
        refine wp_region_lit ?_
        refine goCh Hz (.fieldAddr (off := 10) rfl Try.underlying34 rfl (s := 0) (by kernel_rfl) rfl <| .loadB1 m106 (i := 9) rfl rfl rfl Try.underlying32 rfl <| .move rfl <| .nil) ?_
        clear Hz Az; intro Az Hz
        obtain ⟨gx120, ox120, vx120, hp120, hl120, hR120, hrg120⟩ := h3.extA (k) (r := [.v (.int .i64 xs), .l 2 (xl.map itD)]) (wrD_get hes)
        cases hp120; clear hl120
        rcases hR120 with _ | ⟨hd120_0, _ | ⟨hd120_1, _ | _⟩⟩
        obtain rfl := hd120_0.v_out
        clear hd120_0
        obtain ⟨p121, c121, hv121, hw121⟩ := hd120_1.l_shape; subst hv121
        refine goCh Hz (.c rfl (fun _ h => y_idx h rfl rfl Try.underlying32 sz55sm (k) rfl (by simpa using hk)) <| .fieldAddrQ 1 rfl Try.underlying55 rfl (s := 0) (by kernel_rfl) rfl <| .loadAt1 (hrg120 m106 rfl) (q := 1) rfl rfl rfl Try.underlying23 rfl <| .nil) ?_
        clear Hz Az; intro Az Hz
        refine wpList_plain rfl (fun K hK => ?_)
        refine e_call Hz Try.func25 rfl rfl rfl rfl (smallI_any xl _ _ _ _ ((hd120_1.now' m106 rfl).any) (hwl _ (List.mem_of_getElem? hes))) ?_
        rintro e w125 ⟨sb, rfl, hsb, hb125⟩
        have m126 := m106.later hb125
        clear m106
        clear hb125
        refine ⟨_, rfl, ?_⟩; clear Hz Az; intro Az Hz
        refine hK _ _ ?_; clear hK K
        refine goCh Hz (.not rfl .nil) ?_
        clear Hz Az; intro Az Hz
        refine wpList_nil ?_
        refine hK6 _ _ ?_; clear hK6; try clear K6
        refine bool_cases Hz (t := 44) rfl ?_ ?_
        ·
         clear Hz; intro hb129 Hz
         try simp only [Q1x, Q2x, Q3x, Q4x, Q5x, Q6x, Q7x, Q8x, Q9x, Q0x, Qax, Qbx] at hb129
         refine wp_cond_true (Hz.ev (x := .tmp 44) rfl) ?_
         replace Hz : Has 45 [(1, _), (3, _)] Az := Hz.only [1, 3]
         refine regS Hz (.assign rfl <| .nil) ?_
         clear Hz Az; intro Az Hz
         refine wp_ret ?_
         try dsimp only [Exit.then, Exit.inBlock]
         refine (ret1 (fn := Try.f24) Hz rfl rfl ?_)
         exact ⟨false, rfl, (fun h => by cases h), m126.below⟩
        ·
         clear Hz; intro hb129 Hz
         try simp only [Q1x, Q2x, Q3x, Q4x, Q5x, Q6x, Q7x, Q8x, Q9x, Q0x, Qax, Qbx] at hb129
         refine wp_cond_false (Hz.ev (x := .tmp 44) rfl) ?_
         refine wp_skip ?_
         refine hK5 _ _ ?_; clear hK5; try clear K5
         replace Hz : Has 45 [(1, _), (3, _)] Az := Hz.only [1, 3]
         refine wp_region_lit ?_
         refine goCh Hz (.move rfl <| .add rfl rfl (r := ((k + 1 : Nat) : Int)) (by rw [IntWalk.i64_in _ (by omega)]; omega) <| .assign rfl <| .nil) ?_
         clear Hz Az; intro Az Hz
         refine wpList_nil ?_
         show ∃ n', n' < _ ∧ _
         exact ⟨x.ws.length - (k + 1), by omega, k + 1, _, by omega, rfl, small_take hall hes (hsb (by simp_all)).1, Hz.only [1, 3], m126.only [9]⟩
       ·
        clear Hz; intro hb112 Hz
        try simp only [Q1x, Q2x, Q3x, Q4x, Q5x, Q6x, Q7x, Q8x, Q9x, Q0x, Qax, Qbx] at hb112
        have hkl9 : k = x.ws.length := by have := hb112; simp at this; omega
        refine wp_cond_false (Hz.ev (x := .tmp 34) rfl) ?_
        refine wp_exit ?_
        refine hK3 _ _ ?_; clear hK3; try clear K3
        refine regS Hz (.assign rfl <| .nil) ?_
        clear Hz Az; intro Az Hz
        refine wp_ret ?_
        try dsimp only [Exit.then, Exit.inBlock]
        refine (ret1 (fn := Try.f24) Hz rfl rfl ?_)
        exact ⟨true, rfl, (fun _ => ⟨hB.1, hB.2.1, hB.2.2, by rw [hkl9, List.take_length] at hall; exact hall⟩), m106.below⟩
theorem rights_walk (x : VolV) (p1 p2 p3 : Option Addr) (d1 d2 d3 : Nat) (l : List Int) (pl : Option Addr) (cl : Nat) (wh n : Int) (items : List (Int × List Int)) (pi : Option Addr) (ni ci : Nat) (w0 : World) (h1 : Rd (fun _ => True) w0 (.slice p1 x.place.length d1) (.ns .i64 x.place)) (h2 : Rd (fun _ => True) w0 (.slice p2 x.pins.length d2) (.ns .i64 x.pins)) (h3 : Rd (fun _ => True) w0 (.slice p3 (x.ws.map wrD).length d3) (.l 2 (x.ws.map wrD))) (hwl : ∀ e ∈ x.ws, e.2.length ≤ 140737488351232) (h4 : Rd (fun _ => True) w0 (.slice pl l.length cl) (.ns .u8 l)) (hlb : ∀ j, j < l.length → 0 ≤ l.getD j 0 ∧ l.getD j 0 ≤ 255) (h5 : Rd (fun _ => True) w0 (.slice pi ni ci) (.l 2 (items.map itD))) (hil : items.length ≤ 140737488351232) :
   Calls Try.prog 4 #[.agg #[.int .i64 x.vo, .int .i64 x.bl, .int .i64 x.sz, .int .i64 x.pe, .slice p1 x.place.length d1, .int .i64 x.to, .int .i64 x.ne, .bool x.hi, .int .i64 x.fl, .slice p2 x.pins.length d2, .slice p3 (x.ws.map wrD).length d3], .slice pl l.length cl, .int .u8 wh, .int .i64 n, .slice pi ni ci] w0 fun e w' => e = .returned (.bool true) ∧ Below w0.heap.size w0 w' := by
 refine enter (fn := Try.f4) Try.func4 rfl Try.ntmps4 rfl (fun Az Hz => ?_)
 simp only [List.zipIdx_cons, List.zipIdx_nil, List.map_cons, List.map_nil, Nat.reduceAdd, Nat.zero_add] at Hz
 have m0 := ((((((MemOk.start (fun _ => True) w0).dat 30 rfl (h1.cast (fun _ _ => (free_nil (fun _ => trivial))))).dat 31 rfl (h2.cast (fun _ _ => (free_add rfl (free_nil (fun _ => trivial)))))).dat 32 rfl (h3.cast (fun _ _ => (free_add rfl (free_add rfl (free_nil (fun _ => trivial))))))).dat 33 rfl (h4.cast (fun _ _ => (free_add rfl (free_add rfl (free_add rfl (free_nil (fun _ => trivial)))))))).dat 34 rfl (h5.cast (fun _ _ => (free_add rfl (free_add rfl (free_add rfl (free_add rfl (free_nil (fun _ => trivial)))))))))
 refine wp_seq_k (fun K0 hK0 => ?_)
 refine wp_region_lit ?_
 refine wpList_plain rfl (fun K hK => ?_)
 refine e_box Hz m0 60 (cs := [_, _, _, _, _, _, _, _, _, _, _]) rfl rfl rfl ?_
 clear Hz Az m0; intro g1 Az w2 Hz m2 hB2 hg2
 clear hB2 hg2
 refine hK _ _ ?_; clear hK K
 refine goCh Hz (.assign rfl .nil) ?_
 clear Hz Az; intro Az Hz
 refine wpList_nil ?_
 refine hK0 _ _ ?_; clear hK0; try clear K0
 refine wp_seq_k (fun K1 hK1 => ?_)
 refine wp_seq_k (fun K2 hK2 => ?_)
 refine wp_region_lit ?_
 refine wpList_plain rfl (fun K hK => ?_)
 refine e_call Hz Try.func9 rfl rfl rfl rfl (vknown_any _) ?_
 rintro e w4 ⟨rfl, hb4⟩
 have m5 := m2.later hb4
 clear m2
 clear hb4
 refine ⟨_, rfl, ?_⟩; clear Hz Az; intro Az Hz
 refine hK _ _ ?_; clear hK K
 refine goCh Hz (.not rfl .nil) ?_
 clear Hz Az; intro Az Hz
 refine wpList_nil ?_
 refine hK2 _ _ ?_; clear hK2; try clear K2
 refine wp_cond_false (Hz.ev (x := .tmp 13) rfl) ?_
 refine wp_skip ?_
 refine hK1 _ _ ?_; clear hK1; try clear K1
 refine wp_seq_k (fun K3 hK3 => ?_)
 refine wp_seq_k (fun K4 hK4 => ?_)
 refine wp_region_lit ?_
 refine goCh Hz (.loadBR m5 (i := 60) rfl rfl Try.underlying34 rfl sz34vr (by simp) (by dsimp only [List.drop, List.take] <;> rfl) .nil) ?_
 clear Hz Az; intro Az Hz
 refine wpList_plain rfl (fun K hK => ?_)
 refine e_call Hz Try.func24 rfl rfl rfl rfl (small_any x _ _ _ _ _ _ _ ((m5.rd (i := 30) rfl).any) ((m5.rd (i := 31) rfl).any) ((m5.rd (i := 32) rfl).any) hwl) ?_
 rintro e w10 ⟨sm, rfl, hsm, hb10⟩
 have m11 := m5.later hb10
 clear m5
 clear hb10
 refine ⟨_, rfl, ?_⟩; clear Hz Az; intro Az Hz
 refine hK _ _ ?_; clear hK K
 refine goCh Hz (.not rfl <| .move rfl <| .nil) ?_
 clear Hz Az; intro Az Hz
 refine bool_cases Hz (t := 17) rfl ?_ ?_
 ·
  clear Hz; intro hb15 Hz
  try simp only [Q1x, Q2x, Q3x, Q4x, Q5x, Q6x, Q7x, Q8x, Q9x, Q0x, Qax, Qbx] at hb15
  refine goCh Hz (.sk <| .sk <| .sk <| .pickT rfl rfl <| .move rfl <| .sk <| .sk <| .sk <| .pickT rfl rfl <| .nil) ?_
  clear Hz Az; intro Az Hz
  refine wpList_nil ?_
  refine hK4 _ _ ?_; clear hK4; try clear K4
  refine wp_cond_true (Hz.ev (x := .tmp 26) rfl) ?_
  replace Hz : Has 133 [(1, _), (2, _), (3, _), (4, _), (5, _), (10, _)] Az := Hz.only [1, 2, 3, 4, 5, 10]
  refine regS Hz (.assign rfl <| .nil) ?_
  clear Hz Az; intro Az Hz
  refine wp_ret ?_
  try dsimp only [Exit.then, Exit.inBlock]
  refine (ret1 (fn := Try.f4) Hz rfl rfl ?_)
  exact ⟨by first | rfl | simp, m11.below⟩
 ·
  clear Hz; intro hb15 Hz
  try simp only [Q1x, Q2x, Q3x, Q4x, Q5x, Q6x, Q7x, Q8x, Q9x, Q0x, Qax, Qbx] at hb15
  have hsm9 := hsm (by simp_all)
  refine goCh Hz (.moveZ rfl <| .lenZ rfl Try.underlying43 <| .gtrZ rfl rfl <| .pickF rfl rfl <| .move rfl <| .nil) ?_
  clear Hz Az; intro Az Hz
  refine bool_cases Hz (t := 22) rfl ?_ ?_
  ·
   clear Hz; intro hb32 Hz
   try simp only [Q1x, Q2x, Q3x, Q4x, Q5x, Q6x, Q7x, Q8x, Q9x, Q0x, Qax, Qbx] at hb32
   refine goCh Hz (.sk <| .sk <| .sk <| .pickT rfl rfl <| .nil) ?_
   clear Hz Az; intro Az Hz
   refine wpList_nil ?_
   refine hK4 _ _ ?_; clear hK4; try clear K4
   refine wp_cond_true (Hz.ev (x := .tmp 26) rfl) ?_
   replace Hz : Has 133 [(1, _), (2, _), (3, _), (4, _), (5, _), (10, _)] Az := Hz.only [1, 2, 3, 4, 5, 10]
   refine regS Hz (.assign rfl <| .nil) ?_
   clear Hz Az; intro Az Hz
   refine wp_ret ?_
   try dsimp only [Exit.then, Exit.inBlock]
   refine (ret1 (fn := Try.f4) Hz rfl rfl ?_)
   exact ⟨by first | rfl | simp, m11.below⟩
  ·
   clear Hz; intro hb32 Hz
   try simp only [Q1x, Q2x, Q3x, Q4x, Q5x, Q6x, Q7x, Q8x, Q9x, Q0x, Qax, Qbx] at hb32
   have hl60 : l.length ≤ 60 := by have := hb32; first | omega | (simp at this; omega)
   refine goCh Hz (.moveZ rfl .nil) ?_
   clear Hz Az; intro Az Hz
   refine st_ge Hz rfl rfl rfl rfl (fun K hK => ?_)
   refine e_call Hz Try.func25 rfl rfl rfl rfl (smallI_any items _ _ _ _ ((m11.rd (i := 34) rfl).any) hil) ?_
   rintro e w40 ⟨si, rfl, hsi, hb40⟩
   have m41 := m11.later hb40
   clear m11
   clear hb40
   refine ⟨_, rfl, ?_⟩; clear Hz Az; intro Az Hz
   refine hK _ _ ?_; clear hK K
   refine goCh Hz (.notZ rfl <| .pickF rfl rfl <| .nil) ?_
   clear Hz Az; intro Az Hz
   refine wpList_nil ?_
   refine hK4 _ _ ?_; clear hK4; try clear K4
   refine bool_cases Hz (t := 26) rfl ?_ ?_
   ·
    clear Hz; intro hb45 Hz
    try simp only [Q1x, Q2x, Q3x, Q4x, Q5x, Q6x, Q7x, Q8x, Q9x, Q0x, Qax, Qbx] at hb45
    refine wp_cond_true (Hz.ev (x := .tmp 26) rfl) ?_
    replace Hz : Has 133 [(1, _), (2, _), (3, _), (4, _), (5, _), (10, _)] Az := Hz.only [1, 2, 3, 4, 5, 10]
    refine regS Hz (.assign rfl <| .nil) ?_
    clear Hz Az; intro Az Hz
    refine wp_ret ?_
    try dsimp only [Exit.then, Exit.inBlock]
    refine (ret1 (fn := Try.f4) Hz rfl rfl ?_)
    exact ⟨by first | rfl | simp, m41.below⟩
   ·
    clear Hz; intro hb45 Hz
    try simp only [Q1x, Q2x, Q3x, Q4x, Q5x, Q6x, Q7x, Q8x, Q9x, Q0x, Qax, Qbx] at hb45
    have hit9 := (hsi (by simp_all)).1
    refine wp_cond_false (Hz.ev (x := .tmp 26) rfl) ?_
    refine wp_skip ?_
    refine hK3 _ _ ?_; clear hK3; try clear K3
    replace Hz : Has 133 [(1, _), (2, _), (3, _), (4, _), (5, _), (10, _)] Az := Hz.only [1, 2, 3, 4, 5, 10]
    refine wp_seq_k (fun K5 hK5 => ?_)
    refine wp_region_lit ?_
    refine goCh Hz (.move rfl .nil) ?_
    clear Hz Az; intro Az Hz
    refine wpList_plain rfl (fun K hK => ?_)
    refine e_call Hz Try.func26 rfl rfl rfl rfl (svol_any l _ _ _ ((m41.rd (i := 33) rfl).any) (by omega) hlb) ?_
    rintro e w51 ⟨y, p151, p251, p351, d151, d251, d351, rfl, hS, hd51, he51, hf51, hb51⟩
    have m52 := m41.callF3 61 62 63 rfl rfl rfl hb51 hd51 he51 hf51
    clear m41
    clear hb51 hd51 he51 hf51
    obtain ⟨hpl, hpn, hws, hwi⟩ := hS.small
    refine ⟨_, rfl, ?_⟩; clear Hz Az; intro Az Hz
    refine hK _ _ ?_; clear hK K
    refine wpList_plain rfl (fun K hK => ?_)
    refine e_alloc Hz m52 64 zc34vr rfl ?_
    clear Hz Az m52; intro g54 Az w55 Hz m55 hB55 hg55
    clear hB55 hg55
    refine hK _ _ ?_; clear hK K
    refine wpList_plain rfl (fun K hK => ?_)
    refine e_storeW Hz m55 64 rfl rfl rfl rfl rfl sz34vr ?_
    clear m55; intro w56 m56 hB56
    clear hB56
    refine hK _ _ ?_; clear hK K
    refine wpList_nil ?_
    refine hK5 _ _ ?_; clear hK5; try clear K5
    refine wp_seq_k (fun K6 hK6 => ?_)
    have hC6 : ∀ (a : Act) (w : World), (∃ (z : VolV) (B5 B11 e1 e2 e3 : Nat) (q1 q2 q3 : Option Addr), z.place.length ≤ 1000000 ∧ z.pins.length ≤ 1000000 ∧ z.ws.length ≤ 1000000 ∧ (∀ e ∈ z.ws, e.2.length ≤ 1000000) ∧ Has 133 [(3, .int .i64 n), (4, .slice pi ni ci), (5, .pointer (some ⟨B5, 0, none⟩)), (11, .pointer (some ⟨B11, 0, none⟩))] a ∧ MemOk (cx (fun _ => True) w0) w0 [(5, .box B5 34 [.int .i64 x.vo, .int .i64 x.bl, .int .i64 x.sz, .int .i64 x.pe, .slice p1 x.place.length d1, .int .i64 x.to, .int .i64 x.ne, .bool x.hi, .int .i64 x.fl, .slice p2 x.pins.length d2, .slice p3 (x.ws.map wrD).length d3]), (11, .box B11 34 [.int .i64 z.vo, .int .i64 z.bl, .int .i64 z.sz, .int .i64 z.pe, .slice q1 z.place.length e1, .int .i64 z.to, .int .i64 z.ne, .bool z.hi, .int .i64 z.fl, .slice q2 z.pins.length e2, .slice q3 (z.ws.map wrD).length e3]), (12, .dat (.slice q1 z.place.length e1) (.ns .i64 z.place)), (13, .dat (.slice q2 z.pins.length e2) (.ns .i64 z.pins)), (14, .dat (.slice q3 (z.ws.map wrD).length e3) (.l 2 (z.ws.map wrD))), (30, .dat (.slice p1 x.place.length d1) (.ns .i64 x.place)), (31, .dat (.slice p2 x.pins.length d2) (.ns .i64 x.pins)), (32, .dat (.slice p3 (x.ws.map wrD).length d3) (.l 2 (x.ws.map wrD))), (34, .dat (.slice pi ni ci) (.l 2 (items.map itD)))] w) → K6 a w := by
      clear Hz m56
      rintro Az w57 ⟨z, B5, B11, e1, e2, e3, q1, q2, q3, hz1, hz2, hz3, hz4, Hz, m57⟩
      refine hK6 _ _ ?_; clear hK6; try clear K6
      refine wp_seq_k (fun K7 hK7 => ?_)
      have m58 : MemOk _ _ [(5, _), (11, _), (12, _), (13, _), (14, _), (30, _), (31, _), (32, _), (34, _)] _ := m57.only [5, 11, 12, 13, 14, 30, 31, 32, 34]; clear m57
      refine region_p 41 (B := [(5, _), (11, _), (12, _), (13, _), (14, _), (30, _), (31, _), (32, _), (34, _)]) (m58.to ⟨il, il, il, il, il, il, il, il, il, trivial⟩) m58 (by kernel_rfl) (fun w59 hP59 m59 => ?_); clear m58
      refine goR hP59 [0, 2] [0, 2] 2 0 5 Hz (m59.to ⟨il, il, il, il, il, il, il, il, il, trivial⟩) (.loadBR hh (i := 11) rfl rfl Try.underlying34 rfl sz34vr (by simp) (by dsimp only [List.drop, List.take] <;> rfl) <| .loadBR hh (i := 11) rfl rfl Try.underlying34 rfl sz34vr (by simp) (by dsimp only [List.drop, List.take] <;> rfl) <| .nil) ?_
      clear Hz Az; intro Az Hz
      refine stepE_only 1 rfl (by kernel_rfl) rfl (fun K hK => ?_)
      refine e_call Hz Try.func19 rfl rfl rfl rfl (vright_n2 _ _ _ _ _ _ _ _ z.place z.pins z.ws _ _ _ _ _ _ _ _ ((m59.rd (i := 12) rfl).any) ((m59.rd (i := 13) rfl).any) ((m59.rd (i := 14) rfl).any) hz1 hz2 hz3 hz4) ?_
      rintro e w62 ⟨vbz, rfl, hb9zv, hb62⟩
      have m63 := m59.later hb62
      clear m59
      clear hb62
      refine ⟨_, rfl, ?_⟩; clear Hz Az; intro Az Hz
      refine hK _ _ (m63.to ⟨il, il, il, il, il, il, il, il, il, trivial⟩) ?_; clear hK K
      refine stepE_only 3 rfl (by kernel_rfl) rfl (fun K hK => ?_)
      refine e_call Hz Try.func27 rfl rfl rfl rfl (rright_nn _ _ _ _ _ _ _ _ z.place z.pins z.ws _ _ _ _ _ _ _ _ ((m63.rd (i := 12) rfl).any) ((m63.rd (i := 13) rfl).any) ((m63.rd (i := 14) rfl).any) hz1 hz2 hz3 hz4) ?_
      rintro e w65 ⟨rbz, rfl, hb9zr, hb65⟩
      obtain rfl : rbz = vbz := iff_b hb9zv hb9zr
      have m66 := m63.later hb65
      clear m63
      clear hb65
      refine ⟨_, rfl, ?_⟩; clear Hz Az; intro Az Hz
      refine hK _ _ (m66.to ⟨il, il, il, il, il, il, il, il, il, trivial⟩) ?_; clear hK K
      refine goA hP59 [4, 5] 2 15 63 Hz (m66.to ⟨il, il, il, il, il, il, il, il, il, trivial⟩) (.eqlB rfl rfl Try.underlying4 <| .move rfl <| .nil) ?_
      clear Hz Az; intro Az Hz
      refine bool_cases Hz (t := 98) rfl ?_ ?_
      rotate_left
      · intro hb _; exact absurd hb (by simp)
      clear Hz; intro _ Hz
      refine goR hP59 [6, 8] [6, 8] 2 63 383 Hz (m66.to ⟨il, il, il, il, il, il, il, il, il, trivial⟩) (.loadBR hh (i := 5) rfl rfl Try.underlying34 rfl sz34vr (by simp) (by dsimp only [List.drop, List.take] <;> rfl) <| .loadBR hh (i := 5) rfl rfl Try.underlying34 rfl sz34vr (by simp) (by dsimp only [List.drop, List.take] <;> rfl) <| .nil) ?_
      clear Hz Az; intro Az Hz
      refine stepE_only 7 rfl (by kernel_rfl) (wantedG Hz rfl rfl rfl rfl) (fun K hK => ?_)
      refine e_call Hz Try.func19 rfl rfl rfl rfl (vright_n2 _ _ _ _ _ _ _ _ x.place x.pins x.ws _ _ _ _ _ _ _ _ ((m66.rd (i := 30) rfl).any) ((m66.rd (i := 31) rfl).any) ((m66.rd (i := 32) rfl).any) (by omega) (by omega) (by omega) (fun e he => by have := (hsm (by simp_all)).2.2.2 e he; omega)) ?_
      rintro e w73 ⟨vbx, rfl, hb9xv, hb73⟩
      have m74 := m66.later hb73
      clear m66
      clear hb73
      refine ⟨_, rfl, ?_⟩; clear Hz Az; intro Az Hz
      refine hK _ _ (m74.to ⟨il, il, il, il, il, il, il, il, il, trivial⟩) ?_; clear hK K
      refine stepE_only 9 rfl (by kernel_rfl) (wantedG Hz rfl rfl rfl rfl) (fun K hK => ?_)
      refine e_call Hz Try.func27 rfl rfl rfl rfl (rright_nn _ _ _ _ _ _ _ _ x.place x.pins x.ws _ _ _ _ _ _ _ _ ((m74.rd (i := 30) rfl).any) ((m74.rd (i := 31) rfl).any) ((m74.rd (i := 32) rfl).any) (by omega) (by omega) (by omega) (fun e he => by have := (hsm (by simp_all)).2.2.2 e he; omega)) ?_
      rintro e w76 ⟨rbx, rfl, hb9xr, hb76⟩
      obtain rfl : rbx = vbx := iff_b hb9xv hb9xr
      have m77 := m74.later hb76
      clear m74
      clear hb76
      refine ⟨_, rfl, ?_⟩; clear Hz Az; intro Az Hz
      refine hK _ _ (m77.to ⟨il, il, il, il, il, il, il, il, il, trivial⟩) ?_; clear hK K
      refine goA hP59 [10, 11, 12] 3 1023 8191 Hz (m77.to ⟨il, il, il, il, il, il, il, il, il, trivial⟩) (.eqlB rfl rfl Try.underlying4 <| .pickT rfl rfl <| .move rfl <| .nil) ?_
      clear Hz Az; intro Az Hz
      refine bool_cases Hz (t := 105) rfl ?_ ?_
      rotate_left
      · intro hb _; exact absurd hb (by simp)
      clear Hz; intro _ Hz
      refine goR hP59 [13, 14, 15, 16, 17, 19, 20, 21, 22, 23] [16, 22] 10 8191 16515071 Hz (m77.to ⟨il, il, il, il, il, il, il, il, il, trivial⟩) (.move rfl <| .and rfl rfl (r := andI n 15) rfl <| .fieldAddr (off := 2) rfl Try.underlying34 rfl (s := 0) (by kernel_rfl) rfl <| .loadB1 hh (i := 11) rfl rfl rfl Try.underlying3 rfl <| .move rfl <| .move rfl <| .and rfl rfl (r := andI n 15) rfl <| .fieldAddr (off := 2) rfl Try.underlying34 rfl (s := 0) (by kernel_rfl) rfl <| .loadB1 hh (i := 11) rfl rfl rfl Try.underlying3 rfl <| .move rfl <| .nil) ?_
      clear Hz Az; intro Az Hz
      refine stepE_only 18 rfl (by kernel_rfl) (wantedG Hz rfl rfl rfl rfl) (fun K hK => ?_)
      refine e_call Hz Try.func28 rfl rfl rfl rfl (vitems_nn _ _ items _ _ _ _ ((m77.rd (i := 34) rfl).any) (by omega)) ?_
      rintro e w93 ⟨vi0, rfl, hi90v, hb93⟩
      have m94 := m77.later hb93
      clear m77
      clear hb93
      refine ⟨_, rfl, ?_⟩; clear Hz Az; intro Az Hz
      refine hK _ _ (m94.to ⟨il, il, il, il, il, il, il, il, il, trivial⟩) ?_; clear hK K
      refine stepE_only 24 rfl (by kernel_rfl) (wantedG Hz rfl rfl rfl rfl) (fun K hK => ?_)
      refine e_call Hz Try.func29 rfl rfl rfl rfl (ritems_any _ _ items _ _ _ _ ((m94.rd (i := 34) rfl).any) (by omega)) ?_
      rintro e w96 ⟨ri0, rfl, hi90r, hb96⟩
      obtain rfl : ri0 = vi0 := iff_b hi90v hi90r
      have m97 := m94.later hb96
      clear m94
      clear hb96
      refine ⟨_, rfl, ?_⟩; clear Hz Az; intro Az Hz
      refine hK _ _ (m97.to ⟨il, il, il, il, il, il, il, il, il, trivial⟩) ?_; clear hK K
      refine goA hP59 [25, 26, 27] 3 33554431 268435455 Hz (m97.to ⟨il, il, il, il, il, il, il, il, il, trivial⟩) (.eqlB rfl rfl Try.underlying4 <| .pickT rfl rfl <| .move rfl <| .nil) ?_
      clear Hz Az; intro Az Hz
      refine bool_cases Hz (t := 120) rfl ?_ ?_
      rotate_left
      · intro hb _; exact absurd hb (by simp)
      clear Hz; intro _ Hz
      refine goA hP59 [28, 29, 30, 31, 33, 34, 35, 36] 8 268435455 133143986175 Hz (m97.to ⟨il, il, il, il, il, il, il, il, il, trivial⟩) (.move rfl <| .move rfl <| .and rfl rfl (r := andI n 31) rfl <| .move rfl <| .move rfl <| .move rfl <| .and rfl rfl (r := andI n 31) rfl <| .move rfl <| .nil) ?_
      clear Hz Az; intro Az Hz
      refine stepE_only 32 rfl (by kernel_rfl) (wantedG Hz rfl rfl rfl rfl) (fun K hK => ?_)
      refine e_call Hz Try.func28 rfl rfl rfl rfl (vitems_nn _ _ items _ _ _ _ ((m97.rd (i := 34) rfl).any) (by omega)) ?_
      rintro e w111 ⟨vi1, rfl, hi91v, hb111⟩
      have m112 := m97.later hb111
      clear m97
      clear hb111
      refine ⟨_, rfl, ?_⟩; clear Hz Az; intro Az Hz
      refine hK _ _ (m112.to ⟨il, il, il, il, il, il, il, il, il, trivial⟩) ?_; clear hK K
      refine stepE_only 37 rfl (by kernel_rfl) (wantedG Hz rfl rfl rfl rfl) (fun K hK => ?_)
      refine e_call Hz Try.func29 rfl rfl rfl rfl (ritems_any _ _ items _ _ _ _ ((m112.rd (i := 34) rfl).any) (by omega)) ?_
      rintro e w114 ⟨ri1, rfl, hi91r, hb114⟩
      obtain rfl : ri1 = vi1 := iff_b hi91v hi91r
      have m115 := m112.later hb114
      clear m112
      clear hb114
      refine ⟨_, rfl, ?_⟩; clear Hz Az; intro Az Hz
      refine hK _ _ (m115.to ⟨il, il, il, il, il, il, il, il, il, trivial⟩) ?_; clear hK K
      refine goA hP59 [38, 39, 40] 3 274877906943 2199023255551 Hz (m115.to ⟨il, il, il, il, il, il, il, il, il, trivial⟩) (.eqlB rfl rfl Try.underlying4 <| .pickT rfl rfl <| .assign rfl <| .nil) ?_
      clear Hz Az; intro Az Hz
      refine wpAnyE_done (by kernel_rfl) ?_ _
      refine hK7 _ _ ?_; clear hK7; try clear K7
      refine wp_ret ?_
      try dsimp only [Exit.then, Exit.inBlock]
      refine (ret1 (fn := Try.f4) Hz rfl rfl ?_)
      exact ⟨by first | rfl | simp, m115.below⟩
    refine regS Hz (.move rfl <| .rem rfl rfl (by decide) rfl <| .nil) ?_
    clear Hz Az; intro Az Hz
    refine wp_block ?_
    refine regS Hz (.eql rfl rfl <| .assign rfl <| .nil) ?_
    clear Hz Az; intro Az Hz
    refine bool_cases Hz (t := 41) rfl ?_ ?_
    ·
     clear Hz; intro hb124 Hz
     try simp only [Q1x, Q2x, Q3x, Q4x, Q5x, Q6x, Q7x, Q8x, Q9x, Q0x, Qax, Qbx] at hb124
     refine wp_cond_true (Hz.ev (x := .tmp 41) rfl) ?_
     replace Hz : Has 133 [(3, _), (4, _), (5, _), (10, _), (11, _), (30, _), (41, _)] Az := Hz.only [3, 4, 5, 10, 11, 30, 41]
     refine wp_region_lit ?_
     refine goCh Hz (.move rfl <| .fieldAddr (off := 0) rfl Try.underlying34 rfl (s := 0) (by kernel_rfl) rfl <| .nil) ?_
     clear Hz Az; intro Az Hz
     refine wpList_plain rfl (fun K hK => ?_)
     refine e_store1 Hz m56 64 rfl rfl rfl rfl rfl sz3vr (by dsimp only [List.set] <;> rfl) ?_
     clear m56; intro w128 m128 hB128
     clear hB128
     refine hK _ _ ?_; clear hK K
     refine wpList_nil ?_
     show K6 _ _
     exact hC6 _ _ ⟨⟨n, y.bl, y.sz, y.pe, y.place, y.to, y.ne, y.hi, y.fl, y.pins, y.ws⟩, _, _, _, _, _, _, _, _, by simp only; omega, by simp only; omega, by simp only; omega, (fun e he => by have := hwi e he; omega), Hz.only [3, 4, 5, 11], m128.ren [(5, 60), (11, 64), (12, 61), (13, 62), (14, 63), (30, 30), (31, 31), (32, 32), (34, 34)] (by decide)⟩
    ·
     clear Hz; intro hb124 Hz
     try simp only [Q1x, Q2x, Q3x, Q4x, Q5x, Q6x, Q7x, Q8x, Q9x, Q0x, Qax, Qbx] at hb124
     refine wp_cond_false (Hz.ev (x := .tmp 41) rfl) ?_
     replace Hz : Has 133 [(3, _), (4, _), (5, _), (10, _), (11, _), (30, _), (41, _)] Az := Hz.only [3, 4, 5, 10, 11, 30, 41]
     refine regS Hz (.eql rfl rfl <| .assign rfl <| .nil) ?_
     clear Hz Az; intro Az Hz
     refine bool_cases Hz (t := 45) rfl ?_ ?_
     ·
      clear Hz; intro hb132 Hz
      try simp only [Q1x, Q2x, Q3x, Q4x, Q5x, Q6x, Q7x, Q8x, Q9x, Q0x, Qax, Qbx] at hb132
      refine wp_cond_true (Hz.ev (x := .tmp 45) rfl) ?_
      refine wp_region_lit ?_
      refine goCh Hz (.move rfl <| .and rfl rfl (r := andI n 511) rfl <| .fieldAddr (off := 1) rfl Try.underlying34 rfl (s := 0) (by kernel_rfl) rfl <| .nil) ?_
      clear Hz Az; intro Az Hz
      refine wpList_plain rfl (fun K hK => ?_)
      refine e_store1 Hz m56 64 rfl rfl rfl rfl rfl sz3vr (by dsimp only [List.set] <;> rfl) ?_
      clear m56; intro w136 m136 hB136
      clear hB136
      refine hK _ _ ?_; clear hK K
      refine wpList_nil ?_
      show K6 _ _
      exact hC6 _ _ ⟨⟨y.vo, andI n 511, y.sz, y.pe, y.place, y.to, y.ne, y.hi, y.fl, y.pins, y.ws⟩, _, _, _, _, _, _, _, _, by simp only; omega, by simp only; omega, by simp only; omega, (fun e he => by have := hwi e he; omega), Hz.only [3, 4, 5, 11], m136.ren [(5, 60), (11, 64), (12, 61), (13, 62), (14, 63), (30, 30), (31, 31), (32, 32), (34, 34)] (by decide)⟩
     ·
      clear Hz; intro hb132 Hz
      try simp only [Q1x, Q2x, Q3x, Q4x, Q5x, Q6x, Q7x, Q8x, Q9x, Q0x, Qax, Qbx] at hb132
      refine wp_cond_false (Hz.ev (x := .tmp 45) rfl) ?_
      refine regS Hz (.eql rfl rfl <| .assign rfl <| .nil) ?_
      clear Hz Az; intro Az Hz
      refine bool_cases Hz (t := 50) rfl ?_ ?_
      ·
       clear Hz; intro hb139 Hz
       try simp only [Q1x, Q2x, Q3x, Q4x, Q5x, Q6x, Q7x, Q8x, Q9x, Q0x, Qax, Qbx] at hb139
       refine wp_cond_true (Hz.ev (x := .tmp 50) rfl) ?_
       refine wp_region_lit ?_
       refine goCh Hz (.move rfl <| .and rfl rfl (r := andI n 63) rfl <| .fieldAddr (off := 2) rfl Try.underlying34 rfl (s := 0) (by kernel_rfl) rfl <| .nil) ?_
       clear Hz Az; intro Az Hz
       refine wpList_plain rfl (fun K hK => ?_)
       refine e_store1 Hz m56 64 rfl rfl rfl rfl rfl sz3vr (by dsimp only [List.set] <;> rfl) ?_
       clear m56; intro w143 m143 hB143
       clear hB143
       refine hK _ _ ?_; clear hK K
       refine wpList_nil ?_
       show K6 _ _
       exact hC6 _ _ ⟨⟨y.vo, y.bl, andI n 63, y.pe, y.place, y.to, y.ne, y.hi, y.fl, y.pins, y.ws⟩, _, _, _, _, _, _, _, _, by simp only; omega, by simp only; omega, by simp only; omega, (fun e he => by have := hwi e he; omega), Hz.only [3, 4, 5, 11], m143.ren [(5, 60), (11, 64), (12, 61), (13, 62), (14, 63), (30, 30), (31, 31), (32, 32), (34, 34)] (by decide)⟩
      ·
       clear Hz; intro hb139 Hz
       try simp only [Q1x, Q2x, Q3x, Q4x, Q5x, Q6x, Q7x, Q8x, Q9x, Q0x, Qax, Qbx] at hb139
       refine wp_cond_false (Hz.ev (x := .tmp 50) rfl) ?_
       refine regS Hz (.eql rfl rfl <| .assign rfl <| .nil) ?_
       clear Hz Az; intro Az Hz
       refine bool_cases Hz (t := 55) rfl ?_ ?_
       ·
        clear Hz; intro hb146 Hz
        try simp only [Q1x, Q2x, Q3x, Q4x, Q5x, Q6x, Q7x, Q8x, Q9x, Q0x, Qax, Qbx] at hb146
        refine wp_cond_true (Hz.ev (x := .tmp 55) rfl) ?_
        refine wp_region_lit ?_
        refine goCh Hz (.move rfl <| .and rfl rfl (r := andI n 15) rfl <| .fieldAddr (off := 3) rfl Try.underlying34 rfl (s := 0) (by kernel_rfl) rfl <| .nil) ?_
        clear Hz Az; intro Az Hz
        refine wpList_plain rfl (fun K hK => ?_)
        refine e_store1 Hz m56 64 rfl rfl rfl rfl rfl sz3vr (by dsimp only [List.set] <;> rfl) ?_
        clear m56; intro w150 m150 hB150
        clear hB150
        refine hK _ _ ?_; clear hK K
        refine wpList_nil ?_
        show K6 _ _
        exact hC6 _ _ ⟨⟨y.vo, y.bl, y.sz, andI n 15, y.place, y.to, y.ne, y.hi, y.fl, y.pins, y.ws⟩, _, _, _, _, _, _, _, _, by simp only; omega, by simp only; omega, by simp only; omega, (fun e he => by have := hwi e he; omega), Hz.only [3, 4, 5, 11], m150.ren [(5, 60), (11, 64), (12, 61), (13, 62), (14, 63), (30, 30), (31, 31), (32, 32), (34, 34)] (by decide)⟩
       ·
        clear Hz; intro hb146 Hz
        try simp only [Q1x, Q2x, Q3x, Q4x, Q5x, Q6x, Q7x, Q8x, Q9x, Q0x, Qax, Qbx] at hb146
        refine wp_cond_false (Hz.ev (x := .tmp 55) rfl) ?_
        refine regS Hz (.eql rfl rfl <| .assign rfl <| .nil) ?_
        clear Hz Az; intro Az Hz
        refine bool_cases Hz (t := 60) rfl ?_ ?_
        ·
         clear Hz; intro hb153 Hz
         try simp only [Q1x, Q2x, Q3x, Q4x, Q5x, Q6x, Q7x, Q8x, Q9x, Q0x, Qax, Qbx] at hb153
         refine wp_cond_true (Hz.ev (x := .tmp 60) rfl) ?_
         refine wp_region_lit ?_
         refine goCh Hz (.fieldAddr (off := 4) rfl Try.underlying34 rfl (s := 0) (by kernel_rfl) rfl <| .loadB1 m56 (i := 64) rfl rfl rfl Try.underlying22 rfl <| .nil) ?_
         clear Hz Az; intro Az Hz
         refine wpList_plain rfl (fun K hK => ?_)
         refine e_app0N Hz m56 65 rfl rfl (m56.nums (i := 61) rfl) Try.underlying22 inf3vr (by decide) (by omega) rfl ?_
         clear Hz Az m56; intro p156 c156 Az w157 Hz m157
         refine hK _ _ ?_; clear hK K
         refine wpList_plain rfl (fun K hK => ?_)
         refine e_litN Hz m157 66 (k := .i64) rfl rfl Try.underlying22 inf3vr rfl rfl rfl rfl ?_
         clear Hz Az m157; intro g158 Az w159 Hz m159
         refine hK _ _ ?_; clear hK K
         refine wpList_plain rfl (fun K hK => ?_)
         refine e_appN Hz m159 65 rfl rfl rfl (m159.numsO (i := 66) rfl) Try.underlying22 inf3vr (by decide) (by simp; omega) rfl ?_
         clear Hz Az m159; intro p160 c160 Az w161 Hz m161
         refine hK _ _ ?_; clear hK K
         refine goCh Hz (.fieldAddr (off := 4) rfl Try.underlying34 rfl (s := 0) (by kernel_rfl) rfl .nil) ?_
         clear Hz Az; intro Az Hz
         refine wpList_plain rfl (fun K hK => ?_)
         refine e_store1 Hz m161 64 rfl rfl rfl rfl rfl sz22vr (by dsimp only [List.set] <;> rfl) ?_
         clear m161; intro w163 m163 hB163
         clear hB163
         refine hK _ _ ?_; clear hK K
         refine wpList_nil ?_
         have m164 := m163.freezeN 65 rfl; clear m163
         show K6 _ _
         exact hC6 _ _ ⟨⟨y.vo, y.bl, y.sz, y.pe, y.place ++ [1], y.to, y.ne, y.hi, y.fl, y.pins, y.ws⟩, _, _, _, _, _, _, _, _, by simp only [List.length_append, List.length_cons, List.length_nil]; omega, by simp only; omega, by simp only; omega, (fun e he => by have := hwi e he; omega), Hz.only [3, 4, 5, 11], m164.ren [(5, 60), (11, 64), (12, 65), (13, 62), (14, 63), (30, 30), (31, 31), (32, 32), (34, 34)] (by decide)⟩
        ·
         clear Hz; intro hb153 Hz
         try simp only [Q1x, Q2x, Q3x, Q4x, Q5x, Q6x, Q7x, Q8x, Q9x, Q0x, Qax, Qbx] at hb153
         refine wp_cond_false (Hz.ev (x := .tmp 60) rfl) ?_
         refine regS Hz (.eql rfl rfl <| .assign rfl <| .nil) ?_
         clear Hz Az; intro Az Hz
         refine bool_cases Hz (t := 68) rfl ?_ ?_
         ·
          clear Hz; intro hb167 Hz
          try simp only [Q1x, Q2x, Q3x, Q4x, Q5x, Q6x, Q7x, Q8x, Q9x, Q0x, Qax, Qbx] at hb167
          refine wp_cond_true (Hz.ev (x := .tmp 68) rfl) ?_
          refine wp_region_lit ?_
          refine goCh Hz (.move rfl <| .and rfl rfl (r := andI n 7) rfl <| .fieldAddr (off := 6) rfl Try.underlying34 rfl (s := 0) (by kernel_rfl) rfl <| .nil) ?_
          clear Hz Az; intro Az Hz
          refine wpList_plain rfl (fun K hK => ?_)
          refine e_store1 Hz m56 64 rfl rfl rfl rfl rfl sz3vr (by dsimp only [List.set] <;> rfl) ?_
          clear m56; intro w171 m171 hB171
          clear hB171
          refine hK _ _ ?_; clear hK K
          refine wpList_nil ?_
          show K6 _ _
          exact hC6 _ _ ⟨⟨y.vo, y.bl, y.sz, y.pe, y.place, y.to, andI n 7, y.hi, y.fl, y.pins, y.ws⟩, _, _, _, _, _, _, _, _, by simp only; omega, by simp only; omega, by simp only; omega, (fun e he => by have := hwi e he; omega), Hz.only [3, 4, 5, 11], m171.ren [(5, 60), (11, 64), (12, 61), (13, 62), (14, 63), (30, 30), (31, 31), (32, 32), (34, 34)] (by decide)⟩
         ·
          clear Hz; intro hb167 Hz
          try simp only [Q1x, Q2x, Q3x, Q4x, Q5x, Q6x, Q7x, Q8x, Q9x, Q0x, Qax, Qbx] at hb167
          refine wp_cond_false (Hz.ev (x := .tmp 68) rfl) ?_
          refine regS Hz (.eql rfl rfl <| .assign rfl <| .nil) ?_
          clear Hz Az; intro Az Hz
          refine bool_cases Hz (t := 73) rfl ?_ ?_
          ·
           clear Hz; intro hb174 Hz
           try simp only [Q1x, Q2x, Q3x, Q4x, Q5x, Q6x, Q7x, Q8x, Q9x, Q0x, Qax, Qbx] at hb174
           refine wp_cond_true (Hz.ev (x := .tmp 73) rfl) ?_
           replace Hz : Has 133 [(3, _), (4, _), (5, _), (10, _), (11, _), (30, _), (41, _), (45, _), (50, _), (55, _), (60, _), (68, _), (73, _)] Az := Hz.only [3, 4, 5, 10, 11, 30, 41, 45, 50, 55, 60, 68, 73]
           refine wp_region_lit ?_
           refine goCh Hz (.fieldAddr (off := 7) rfl Try.underlying34 rfl (s := 0) (by kernel_rfl) rfl <| .loadB1 m56 (i := 64) rfl rfl rfl Try.underlying4 rfl <| .not rfl <| .fieldAddr (off := 7) rfl Try.underlying34 rfl (s := 0) (by kernel_rfl) rfl <| .nil) ?_
           clear Hz Az; intro Az Hz
           refine wpList_plain rfl (fun K hK => ?_)
           refine e_store1 Hz m56 64 rfl rfl rfl rfl rfl sz4vr (by dsimp only [List.set] <;> rfl) ?_
           clear m56; intro w180 m180 hB180
           clear hB180
           refine hK _ _ ?_; clear hK K
           refine wpList_nil ?_
           show K6 _ _
           exact hC6 _ _ ⟨⟨y.vo, y.bl, y.sz, y.pe, y.place, y.to, y.ne, !y.hi, y.fl, y.pins, y.ws⟩, _, _, _, _, _, _, _, _, by simp only; omega, by simp only; omega, by simp only; omega, (fun e he => by have := hwi e he; omega), Hz.only [3, 4, 5, 11], m180.ren [(5, 60), (11, 64), (12, 61), (13, 62), (14, 63), (30, 30), (31, 31), (32, 32), (34, 34)] (by decide)⟩
          ·
           clear Hz; intro hb174 Hz
           try simp only [Q1x, Q2x, Q3x, Q4x, Q5x, Q6x, Q7x, Q8x, Q9x, Q0x, Qax, Qbx] at hb174
           refine wp_cond_false (Hz.ev (x := .tmp 73) rfl) ?_
           replace Hz : Has 133 [(3, _), (4, _), (5, _), (10, _), (11, _), (30, _), (41, _), (45, _), (50, _), (55, _), (60, _), (68, _), (73, _)] Az := Hz.only [3, 4, 5, 10, 11, 30, 41, 45, 50, 55, 60, 68, 73]
           refine regS Hz (.eql rfl rfl <| .assign rfl <| .nil) ?_
           clear Hz Az; intro Az Hz
           refine bool_cases Hz (t := 79) rfl ?_ ?_
           ·
            clear Hz; intro hb184 Hz
            try simp only [Q1x, Q2x, Q3x, Q4x, Q5x, Q6x, Q7x, Q8x, Q9x, Q0x, Qax, Qbx] at hb184
            refine wp_cond_true (Hz.ev (x := .tmp 79) rfl) ?_
            refine wp_region_lit ?_
            refine goCh Hz (.move rfl <| .fieldAddr (off := 8) rfl Try.underlying34 rfl (s := 0) (by kernel_rfl) rfl <| .nil) ?_
            clear Hz Az; intro Az Hz
            refine wpList_plain rfl (fun K hK => ?_)
            refine e_store1 Hz m56 64 rfl rfl rfl rfl rfl sz2vr (by dsimp only [List.set] <;> rfl) ?_
            clear m56; intro w187 m187 hB187
            clear hB187
            refine hK _ _ ?_; clear hK K
            refine wpList_nil ?_
            show K6 _ _
            exact hC6 _ _ ⟨⟨y.vo, y.bl, y.sz, y.pe, y.place, y.to, y.ne, y.hi, n, y.pins, y.ws⟩, _, _, _, _, _, _, _, _, by simp only; omega, by simp only; omega, by simp only; omega, (fun e he => by have := hwi e he; omega), Hz.only [3, 4, 5, 11], m187.ren [(5, 60), (11, 64), (12, 61), (13, 62), (14, 63), (30, 30), (31, 31), (32, 32), (34, 34)] (by decide)⟩
           ·
            clear Hz; intro hb184 Hz
            try simp only [Q1x, Q2x, Q3x, Q4x, Q5x, Q6x, Q7x, Q8x, Q9x, Q0x, Qax, Qbx] at hb184
            refine wp_cond_false (Hz.ev (x := .tmp 79) rfl) ?_
            refine regS Hz (.eql rfl rfl <| .assign rfl <| .nil) ?_
            clear Hz Az; intro Az Hz
            refine bool_cases Hz (t := 83) rfl ?_ ?_
            ·
             clear Hz; intro hb190 Hz
             try simp only [Q1x, Q2x, Q3x, Q4x, Q5x, Q6x, Q7x, Q8x, Q9x, Q0x, Qax, Qbx] at hb190
             refine wp_cond_true (Hz.ev (x := .tmp 83) rfl) ?_
             refine wp_region_lit ?_
             refine goCh Hz (.fieldAddr (off := 9) rfl Try.underlying34 rfl (s := 0) (by kernel_rfl) rfl <| .loadB1 m56 (i := 64) rfl rfl rfl Try.underlying31 rfl <| .nil) ?_
             clear Hz Az; intro Az Hz
             refine wpList_plain rfl (fun K hK => ?_)
             refine e_app0N Hz m56 65 rfl rfl (m56.nums (i := 62) rfl) Try.underlying31 inf2vr (by decide) (by omega) rfl ?_
             clear Hz Az m56; intro p193 c193 Az w194 Hz m194
             refine hK _ _ ?_; clear hK K
             refine goCh Hz (.move rfl <| .and rfl rfl (r := andI n 15) rfl <| .nil) ?_
             clear Hz Az; intro Az Hz
             refine wpList_plain rfl (fun K hK => ?_)
             refine e_litN Hz m194 66 (k := .i64) rfl rfl Try.underlying31 inf2vr rfl rfl rfl rfl ?_
             clear Hz Az m194; intro g197 Az w198 Hz m198
             refine hK _ _ ?_; clear hK K
             refine wpList_plain rfl (fun K hK => ?_)
             refine e_appN Hz m198 65 rfl rfl rfl (m198.numsO (i := 66) rfl) Try.underlying31 inf2vr (by decide) (by simp; omega) rfl ?_
             clear Hz Az m198; intro p199 c199 Az w200 Hz m200
             refine hK _ _ ?_; clear hK K
             refine goCh Hz (.fieldAddr (off := 9) rfl Try.underlying34 rfl (s := 0) (by kernel_rfl) rfl .nil) ?_
             clear Hz Az; intro Az Hz
             refine wpList_plain rfl (fun K hK => ?_)
             refine e_store1 Hz m200 64 rfl rfl rfl rfl rfl sz31vr (by dsimp only [List.set] <;> rfl) ?_
             clear m200; intro w202 m202 hB202
             clear hB202
             refine hK _ _ ?_; clear hK K
             refine wpList_nil ?_
             have m203 := m202.freezeN 65 rfl; clear m202
             show K6 _ _
             exact hC6 _ _ ⟨⟨y.vo, y.bl, y.sz, y.pe, y.place, y.to, y.ne, y.hi, y.fl, y.pins ++ [andI n 15], y.ws⟩, _, _, _, _, _, _, _, _, by simp only; omega, by simp only [List.length_append, List.length_cons, List.length_nil]; omega, by simp only; omega, (fun e he => by have := hwi e he; omega), Hz.only [3, 4, 5, 11], m203.ren [(5, 60), (11, 64), (12, 61), (13, 65), (14, 63), (30, 30), (31, 31), (32, 32), (34, 34)] (by decide)⟩
            ·
             clear Hz; intro hb190 Hz
             try simp only [Q1x, Q2x, Q3x, Q4x, Q5x, Q6x, Q7x, Q8x, Q9x, Q0x, Qax, Qbx] at hb190
             refine wp_cond_false (Hz.ev (x := .tmp 83) rfl) ?_
             refine wp_region_lit ?_
             refine goCh Hz (.fieldAddr (off := 10) rfl Try.underlying34 rfl (s := 0) (by kernel_rfl) rfl <| .loadB1 m56 (i := 64) rfl rfl rfl Try.underlying32 rfl <| .nil) ?_
             clear Hz Az; intro Az Hz
             have m206 := m56.nilR 65 55 2
             clear m56
             refine wpList_plain rfl (fun K hK => ?_)
             refine e_appR Hz m206 65 rfl rfl rfl (m206.rd (i := 63) rfl) Try.underlying32 inf55vr rfl rfl (by decide) (by rw [List.length_map]; simp; omega) rfl ?_
             clear Hz Az m206; intro p207 c207 Az w208 Hz m208
             refine hK _ _ ?_; clear hK K
             refine goCh Hz (.move rfl <| .and rfl rfl (r := andI n 15) rfl <| .move rfl <| .build rfl zc55vr fl55vr rfl (by dsimp only [setL, List.set] <;> rfl) <| .nil) ?_
             clear Hz Az; intro Az Hz
             refine wpList_plain rfl (fun K hK => ?_)
             refine e_litR Hz m208 66 (mm := 2) rfl (.cons rfl rfl (.cons (.v _) (.cons (m208.rd (i := 34) rfl) .nil)) <| .nil) Try.underlying32 inf55vr rfl rfl rfl rfl rfl ?_
             clear Hz Az m208; intro g213 Az w214 Hz m214
             refine hK _ _ ?_; clear hK K
             have m216 := m214.freezeR 66 rfl; clear m214
             refine wpList_plain rfl (fun K hK => ?_)
             refine e_appR Hz m216 65 rfl rfl rfl (m216.rd (i := 66) rfl) Try.underlying32 inf55vr rfl rfl (by decide) (by simp; omega) rfl ?_
             clear Hz Az m216; intro p215 c215 Az w217 Hz m217
             refine hK _ _ ?_; clear hK K
             refine goCh Hz (.fieldAddr (off := 10) rfl Try.underlying34 rfl (s := 0) (by kernel_rfl) rfl .nil) ?_
             clear Hz Az; intro Az Hz
             refine wpList_plain rfl (fun K hK => ?_)
             refine e_store1 Hz m217 64 rfl rfl rfl rfl rfl sz32vr (by dsimp only [List.set] <;> rfl) ?_
             clear m217; intro w219 m219 hB219
             clear hB219
             refine hK _ _ ?_; clear hK K
             refine wpList_nil ?_
             have m220 := m219.freezeR 65 rfl; clear m219
             have hrw : [] ++ y.ws.map wrD ++ [[.v (.int .i64 (andI n 15)), .l 2 (items.map itD)]] = (y.ws ++ [(andI n 15, items)]).map wrD := by simp [wrD]
             rw [hrw] at m220
             show K6 _ _
             exact hC6 _ _ ⟨⟨y.vo, y.bl, y.sz, y.pe, y.place, y.to, y.ne, y.hi, y.fl, y.pins, y.ws ++ [(andI n 15, items)]⟩, _, _, _, _, _, _, _, _, by simp only; omega, by simp only; omega, by simp only [List.length_append, List.length_cons, List.length_nil]; omega, (fun e he => by rcases List.mem_append.1 he with h9 | h9; (have := hwi e h9; omega); (rw [List.mem_singleton.1 h9]; simp only; omega)), Hz.only [3, 4, 5, 11], m220.ren [(5, 60), (11, 64), (12, 61), (13, 62), (14, 65), (30, 30), (31, 31), (32, 32), (34, 34)] (by decide)⟩
end Go.Proofs.Ytocfbocdnklllaa.K
