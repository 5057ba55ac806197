/- volume: pinsRight, Low, Right. -/
import Derived.Test.YtocfbocdnklllaaGreatVol3
namespace Go.Proofs.YtocfbocdnklllaaGreat.K
open Go.ChangeShapes Go.WideShapes Go.ChangeAt Go.RowKit
set_option linter.unusedVariables false
set_option linter.unusedSimpArgs false

theorem sz2pn : (Tryz.prog.info? 2).map (·.size) = some 1 := by kernel_rfl
theorem sz28pn : (Tryz.prog.info? 28).map (·.size) = some 11 := by kernel_rfl
theorem sz2lo : (Tryz.prog.info? 2).map (·.size) = some 1 := by kernel_rfl
theorem sz28lo : (Tryz.prog.info? 28).map (·.size) = some 11 := by kernel_rfl
theorem fl50rt : flatS Tryz.prog 50 [.int .i64 0, .int .i64 0, .int .i64 0, .int .i64 0, .int .i64 0, .slice none 0 0, .int .i64 0, .int .i64 0, .int .i64 0, .slice none 0 0] = true := by kernel_rfl
theorem sz28rt : (Tryz.prog.info? 28).map (·.size) = some 11 := by kernel_rfl
theorem sz58rt : (Tryz.prog.info? 58).map (·.size) = some 2 := by kernel_rfl
theorem zc28rt : ((Tryz.prog.info? 28).bind (·.zero)).map (·.cells.toList) = some [.int .i64 0, .int .i64 0, .int .i64 0, .int .i64 0, .slice none 0 0, .int .i64 0, .int .i64 0, .bool false, .int .i64 0, .slice none 0 0, .slice none 0 0] := by kernel_rfl
theorem zc50rt : ((Tryz.prog.info? 50).bind (·.zero)).map (·.cells.toList) = some [.int .i64 0, .int .i64 0, .int .i64 0, .int .i64 0, .int .i64 0, .slice none 0 0, .int .i64 0, .int .i64 0, .int .i64 0, .slice none 0 0] := by kernel_rfl
theorem zc58rt : ((Tryz.prog.info? 58).bind (·.zero)).map (·.cells.toList) = some [.int .i64 0, .slice none 0 0] := by kernel_rfl

abbrev w1 : Int × List (Int × List Int) := (0, [])
theorem getW {l : List (Int × List (Int × List Int))} {k : Nat} {e : Int × List (Int × List Int)} (h : l[k]? = some e) : l.getD k w1 = e := by rw [List.getD, h]; rfl
def lastP (fl : Int) (pins : List Int) : Nat → Int
 | 0 => fl
 | k + 1 => pins.getD k 0
def PinsPre (fl : Int) (n : Nat) (pins : List Int) (k : Nat) : Prop := ∀ j, j < k → lastP fl pins j ≤ pins.getD j 0 ∧ pins.getD j 0 ≤ n
theorem pins_snoc {fl : Int} {n : Nat} {pins : List Int} {k : Nat} (h : PinsPre fl n pins k) (h1 : lastP fl pins k ≤ pins.getD k 0) (h2 : pins.getD k 0 ≤ n) : PinsPre fl n pins (k + 1) := fun j hj => by
 rcases Nat.lt_or_ge j k with h3 | h3
 · exact h j h3
 · obtain rfl : j = k := by omega
   exact ⟨h1, h2⟩
def lowL (n : Nat) (pins : List Int) : Int := pins.foldl min (n : Int)
theorem low_snoc {n : Nat} {pins : List Int} {k : Nat} (hk : k < pins.length) : min (lowL n (pins.take k)) (pins.getD k 0) = lowL n (pins.take (k + 1)) := by
 rw [List.take_succ_eq_append_getElem hk, lowL, lowL, List.foldl_append, List.getD, List.getElem?_eq_getElem hk]; rfl
def WrPre (bl sz : Int) (ws : List (Int × List (Int × List Int))) (k : Nat) : Prop := ∀ j, j < k → (ws.getD j w1).1 = j + 1 ∧ ItemsR bl sz (ws.getD j w1).2
theorem wr_snoc {bl sz : Int} {ws : List (Int × List (Int × List Int))} {k : Nat} {xs : Int} {xl : List (Int × List Int)} (h : WrPre bl sz ws k) (hes : ws[k]? = some (xs, xl)) (h1 : xs = k + 1) (h2 : ItemsR bl sz xl) : WrPre bl sz ws (k + 1) := fun j hj => by
 rcases Nat.lt_or_ge j k with h3 | h3
 · exact h j h3
 · obtain rfl : j = k := by omega
   rw [getW hes]; exact ⟨h1, h2⟩
def VolR (vo bl sz pe to ne fl : Int) (hi : Bool) (place pins : List Int) (ws : List (Int × List (Int × List Int))) : Prop := NewOk vo bl sz pe to place ∧ 0 ≤ ne ∧ ne ≤ to ∧ (hi = true → to ≠ 0) ∧ (hi = false → ne = to) ∧ 0 ≤ fl ∧ fl ≤ ws.length ∧ PinsPre fl ws.length pins pins.length ∧ WrPre bl sz ws ws.length
set_option maxRecDepth 100000
set_option maxHeartbeats 4000000
theorem vnew_yes (kd vo bl sz pe to at0 ix : Int) (place : List Int) (pp pi : Option Addr) (cp ni ci : Nat) (w0 : World) (h0 : Rd (fun _ => True) w0 (.slice pp place.length cp) (.ns .i64 place)) (hn : place.length ≤ 1000000) (hN : NewOk vo bl sz pe to place) :
   Calls Tryz.prog 17 #[.agg #[.int .i64 kd, .int .i64 vo, .int .i64 bl, .int .i64 sz, .int .i64 pe, .slice pp place.length cp, .int .i64 to, .int .i64 at0, .int .i64 ix, .slice pi ni ci]] w0 fun e w' => ∃ p c, e = .returned (.tuple #[.agg #[.int .i64 vo, .int .i64 bl, .int .i64 sz, .int .i64 pe, .slice p place.length c, .int .i64 to, .int .i64 0, .bool (decide (0 < to)), .int .i64 0, .slice none 0 0, .slice none 0 0], .int .i64 0]) ∧ Rd (New w0) w' (.slice p place.length c) (.ns .i64 place) ∧ Below w0.heap.size w0 w' :=
 (vnew_any kd vo bl sz pe to at0 ix place pp pi cp ni ci w0 h0 hn).mono (fun _ _ h => h.elim (fun h => h.2) (fun h => absurd hN h.1))
theorem vnew_no (kd vo bl sz pe to at0 ix : Int) (place : List Int) (pp pi : Option Addr) (cp ni ci : Nat) (w0 : World) (h0 : Rd (fun _ => True) w0 (.slice pp place.length cp) (.ns .i64 place)) (hn : place.length ≤ 1000000) (hN : ¬ NewOk vo bl sz pe to place) :
   Calls Tryz.prog 17 #[.agg #[.int .i64 kd, .int .i64 vo, .int .i64 bl, .int .i64 sz, .int .i64 pe, .slice pp place.length cp, .int .i64 to, .int .i64 at0, .int .i64 ix, .slice pi ni ci]] w0 fun e w' => e = .returned (.tuple #[.agg #[.int .i64 0, .int .i64 0, .int .i64 0, .int .i64 0, .slice none 0 0, .int .i64 0, .int .i64 0, .bool false, .int .i64 0, .slice none 0 0, .slice none 0 0], .int .i64 23]) ∧ Below w0.heap.size w0 w' :=
 (vnew_any kd vo bl sz pe to at0 ix place pp pi cp ni ci w0 h0 hn).mono (fun _ _ h => h.elim (fun h => absurd h.1 hN) (fun h => h.2))
theorem vitems_nn (bl sz : Int) (l : List (Int × List Int)) (p : Option Addr) (nn c : Nat) (w0 : World) (h0 : Rd (fun _ => True) w0 (.slice p nn c) (.l 2 (l.map itD))) (hl : l.length ≤ 1000000) :
   Calls Tryz.prog 39 #[.int .i64 bl, .int .i64 sz, .slice p nn c] w0 fun e w' => ∃ b : Bool, e = .returned (.bool b) ∧ (b = true ↔ ItemsR bl sz l) ∧ Below w0.heap.size w0 w' := by
 obtain rfl : nn = l.length := by obtain ⟨pq, cq, hv, _⟩ := h0.l_shape; injection hv with _ e2 _; rw [List.length_map] at e2; exact e2
 exact vitems_any bl sz l p c w0 h0 hl
theorem pins_any (vo bl sz pe to ne fl : Int) (hi : Bool) (place pins : List Int) (ws : List (Int × List (Int × List Int))) (pp pn pw : Option Addr) (cp cn9 cw : Nat) (w0 : World) (h1 : Rd (fun _ => True) w0 (.slice pn pins.length cn9) (.ns .i64 pins)) (hp : pins.length ≤ 1000000) :
   Calls Tryz.prog 38 #[.agg #[.int .i64 vo, .int .i64 bl, .int .i64 sz, .int .i64 pe, .slice pp place.length cp, .int .i64 to, .int .i64 ne, .bool hi, .int .i64 fl, .slice pn pins.length cn9, .slice pw ws.length cw]] w0 fun e w' => ∃ b : Bool, e = .returned (.bool b) ∧ (b = true ↔ PinsPre fl ws.length pins pins.length) ∧ Below w0.heap.size w0 w' := by
 refine enter (fn := Tryz.f38) Tryz.func38 rfl Tryz.ntmps38 rfl (fun Az Hz => ?_)
 simp only [List.zipIdx_cons, List.zipIdx_nil, List.map_cons, List.map_nil, Nat.reduceAdd, Nat.zero_add] at Hz
 have m0 := MemOk.start (fun _ => False) w0
 refine wp_seq_k (fun K0 hK0 => ?_)
 refine wp_region_lit ?_
 refine wpList_plain rfl (fun K hK => ?_)
 refine e_box Hz m0 20 (cs := [_, _, _, _, _, _, _, _, _, _, _]) rfl rfl rfl ?_
 clear Hz Az m0; intro g1 Az w2 Hz m2 hB2 hg2
 clear hB2 hg2
 refine hK _ _ ?_; clear hK K
 refine goCh Hz (.assign rfl .nil) ?_
 clear Hz Az; intro Az Hz
 refine wpList_nil ?_
 refine hK0 _ _ ?_; clear hK0; try clear K0
 refine regS Hz (.fieldAddr (off := 8) rfl Tryz.underlying28 rfl (s := 0) (by kernel_rfl) rfl <| .loadB1 m2 (i := 20) rfl rfl rfl Tryz.underlying2 rfl <| .assign rfl <| .nil) ?_
 clear Hz Az; intro Az Hz
 refine wp_seq_k (fun K1 hK1 => ?_)
 refine regS Hz (.fieldAddr (off := 9) rfl Tryz.underlying28 rfl (s := 0) (by kernel_rfl) rfl <| .loadB1 m2 (i := 20) rfl rfl rfl Tryz.underlying25 rfl <| .len rfl Tryz.underlying25 <| .move rfl <| .nil) ?_
 clear Hz Az; intro Az Hz
 refine wp_block ?_
 refine wp_loop_ghost (fun g a w => ∃ (k B : Nat), k ≤ pins.length ∧ g = pins.length - k ∧ PinsPre fl ws.length pins k ∧ Has 26 [(1, .pointer (some ⟨B, 0, none⟩)), (3, .int .i64 (lastP fl pins k)), (9, .slice pn pins.length cn9), (10, .int .i64 pins.length), (11, .int .i64 k)] a ∧ MemOk (cn w0) w0 [(9, .box B 28 [.int .i64 vo, .int .i64 bl, .int .i64 sz, .int .i64 pe, .slice pp place.length cp, .int .i64 to, .int .i64 ne, .bool hi, .int .i64 fl, .slice pn pins.length cn9, .slice pw ws.length cw])] w) (pins.length) ?_ ?_
 · exact ⟨0, _, Nat.zero_le _, rfl, (fun j hj => by omega), Hz.only [1, 3, 9, 10, 11], m2.ren [(9, 20)] (by decide)⟩
 ·
  clear Hz m2
  rintro g Az w11 ⟨k, B, hkl, hg, hall, Hz, m11⟩
  refine regS Hz (.lss rfl rfl <| .nil) ?_
  clear Hz Az; intro Az Hz
  refine wp_seq_k (fun K2 hK2 => ?_)
  refine bool_cases Hz (t := 12) rfl ?_ ?_
  ·
   clear Hz; intro hb13 Hz
   try simp only [Q1x, Q2x, Q3x, Q4x, Q5x, Q6x, Q7x, Q8x, Q9x, Q0x, Qax, Qbx] at hb13
   have hk : k < pins.length := by omega
   refine wp_cond_true (Hz.ev (x := .tmp 12) rfl) ?_
   refine wp_skip ?_
   refine hK2 _ _ ?_; clear hK2; try clear K2
   refine wp_seq_k (fun K3 hK3 => ?_)
   refine wp_block ?_
   refine wp_seq_k (fun K4 hK4 => ?_)
   refine wp_region_lit ?_
   obtain ⟨gx15, ox15, hp15, hl15, hrg15⟩ := h1.extN (k) hk
   cases hp15; clear hl15
   refine goCh Hz (.c rfl (fun _ h => y_idx h rfl rfl Tryz.underlying25 sz2pn (k) rfl hk) <| .loadAt1 (hrg15 m11 rfl) (q := 0) rfl rfl rfl Tryz.underlying2 rfl <| .assign rfl <| .nil) ?_
   clear Hz Az; intro Az Hz
   refine wpList_nil ?_
   refine hK4 _ _ ?_; clear hK4; try clear K4
   refine wp_seq_k (fun K5 hK5 => ?_)
   refine wp_seq_k (fun K6 hK6 => ?_)
   refine wp_region_lit ?_
   refine goCh Hz (.move rfl <| .move rfl <| .lss rfl rfl <| .move rfl <| .nil) ?_
   clear Hz Az; intro Az Hz
   refine bool_cases Hz (t := 18) rfl ?_ ?_
   ·
    clear Hz; intro hb27 Hz
    try simp only [Q1x, Q2x, Q3x, Q4x, Q5x, Q6x, Q7x, Q8x, Q9x, Q0x, Qax, Qbx] at hb27
    refine goCh Hz (.sk <| .sk <| .sk <| .sk <| .pickT rfl rfl <| .nil) ?_
    clear Hz Az; intro Az Hz
    refine wpList_nil ?_
    refine hK6 _ _ ?_; clear hK6; try clear K6
    refine wp_cond_true (Hz.ev (x := .tmp 23) rfl) ?_
    replace Hz : Has 26 [(1, _), (3, _), (9, _), (10, _), (11, _), (5, _)] Az := Hz.only [1, 3, 9, 10, 11, 5]
    refine regS Hz (.assign rfl <| .nil) ?_
    clear Hz Az; intro Az Hz
    refine wp_ret ?_
    try dsimp only [Exit.then, Exit.inBlock]
    refine (ret1 (fn := Tryz.f38) Hz rfl rfl ?_)
    exact ⟨false, rfl, iff_of_false (by simp) (fun h => by have h9 := h k hk; omega), m11.below⟩
   ·
    clear Hz; intro hb27 Hz
    try simp only [Q1x, Q2x, Q3x, Q4x, Q5x, Q6x, Q7x, Q8x, Q9x, Q0x, Qax, Qbx] at hb27
    refine goCh Hz (.moveZ rfl <| .loadBRZ m11 (i := 9) rfl rfl Tryz.underlying28 rfl sz28pn (by simp) (by dsimp only [List.drop, List.take] <;> rfl) <| .nil) ?_
    clear Hz Az; intro Az Hz
    refine st_ge Hz rfl rfl rfl rfl (fun K hK => ?_)
    refine e_call Hz Tryz.func18 rfl rfl rfl rfl (vlen_any _ _ _ _ _ _ _ _ _ _ _ _ _ _ _ _ _ _) ?_
    rintro e w37 ⟨rfl, hb37⟩
    have m38 := m11.later hb37
    clear m11
    clear hb37
    refine ⟨_, rfl, ?_⟩; clear Hz Az; intro Az Hz
    refine hK _ _ ?_; clear hK K
    refine goCh Hz (.gtrZ rfl rfl <| .pickF rfl rfl <| .nil) ?_
    clear Hz Az; intro Az Hz
    refine wpList_nil ?_
    refine hK6 _ _ ?_; clear hK6; try clear K6
    refine bool_cases Hz (t := 23) rfl ?_ ?_
    ·
     clear Hz; intro hb42 Hz
     try simp only [Q1x, Q2x, Q3x, Q4x, Q5x, Q6x, Q7x, Q8x, Q9x, Q0x, Qax, Qbx] at hb42
     refine wp_cond_true (Hz.ev (x := .tmp 23) rfl) ?_
     replace Hz : Has 26 [(1, _), (3, _), (9, _), (10, _), (11, _), (5, _)] Az := Hz.only [1, 3, 9, 10, 11, 5]
     refine regS Hz (.assign rfl <| .nil) ?_
     clear Hz Az; intro Az Hz
     refine wp_ret ?_
     try dsimp only [Exit.then, Exit.inBlock]
     refine (ret1 (fn := Tryz.f38) Hz rfl rfl ?_)
     exact ⟨false, rfl, iff_of_false (by simp) (fun h => by have h9 := h k hk; omega), m38.below⟩
    ·
     clear Hz; intro hb42 Hz
     try simp only [Q1x, Q2x, Q3x, Q4x, Q5x, Q6x, Q7x, Q8x, Q9x, Q0x, Qax, Qbx] at hb42
     refine wp_cond_false (Hz.ev (x := .tmp 23) rfl) ?_
     refine wp_skip ?_
     refine hK5 _ _ ?_; clear hK5; try clear K5
     replace Hz : Has 26 [(1, _), (3, _), (9, _), (10, _), (11, _), (5, _)] Az := Hz.only [1, 3, 9, 10, 11, 5]
     refine wp_region_lit ?_
     refine goCh Hz (.move rfl <| .assign rfl <| .nil) ?_
     clear Hz Az; intro Az Hz
     refine wpList_nil ?_
     refine hK3 _ _ ?_; clear hK3; try clear K3
     refine wp_region_lit ?_
     refine goCh Hz (.add rfl rfl (r := ((k + 1 : Nat) : Int)) (by rw [IntWalk.i64_in _ (by omega)]; omega) <| .move rfl <| .nil) ?_
     clear Hz Az; intro Az Hz
     refine wpList_nil ?_
     show ∃ n', n' < _ ∧ _
     exact ⟨pins.length - (k + 1), by omega, k + 1, _, by omega, rfl, pins_snoc hall (by omega) (by omega), Hz.only [1, 3, 9, 10, 11], m38.only [9]⟩
  ·
   clear Hz; intro hb13 Hz
   try simp only [Q1x, Q2x, Q3x, Q4x, Q5x, Q6x, Q7x, Q8x, Q9x, Q0x, Qax, Qbx] at hb13
   obtain rfl : k = pins.length := by omega
   refine wp_cond_false (Hz.ev (x := .tmp 12) rfl) ?_
   refine wp_exit ?_
   refine hK1 _ _ ?_; clear hK1; try clear K1
   refine regS Hz (.assign rfl <| .nil) ?_
   clear Hz Az; intro Az Hz
   refine wp_ret ?_
   try dsimp only [Exit.then, Exit.inBlock]
   refine (ret1 (fn := Tryz.f38) Hz rfl rfl ?_)
   exact ⟨true, rfl, iff_of_true rfl hall, m11.below⟩
theorem low_any (vo bl sz pe to ne fl : Int) (hi : Bool) (place pins : List Int) (ws : List (Int × List (Int × List Int))) (pp pn pw : Option Addr) (cp cn9 cw : Nat) (w0 : World) (h1 : Rd (fun _ => True) w0 (.slice pn pins.length cn9) (.ns .i64 pins)) (hp : pins.length ≤ 1000000) :
   Calls Tryz.prog 15 #[.agg #[.int .i64 vo, .int .i64 bl, .int .i64 sz, .int .i64 pe, .slice pp place.length cp, .int .i64 to, .int .i64 ne, .bool hi, .int .i64 fl, .slice pn pins.length cn9, .slice pw ws.length cw]] w0 fun e w' => e = .returned (.int .i64 (lowL ws.length pins)) ∧ Below w0.heap.size w0 w' := by
 refine enter (fn := Tryz.f15) Tryz.func15 rfl Tryz.ntmps15 rfl (fun Az Hz => ?_)
 simp only [List.zipIdx_cons, List.zipIdx_nil, List.map_cons, List.map_nil, Nat.reduceAdd, Nat.zero_add] at Hz
 have m0 := MemOk.start (fun _ => False) w0
 refine wp_seq_k (fun K0 hK0 => ?_)
 refine wp_region_lit ?_
 refine wpList_plain rfl (fun K hK => ?_)
 refine e_box Hz m0 20 (cs := [_, _, _, _, _, _, _, _, _, _, _]) rfl rfl rfl ?_
 clear Hz Az m0; intro g1 Az w2 Hz m2 hB2 hg2
 clear hB2 hg2
 refine hK _ _ ?_; clear hK K
 refine goCh Hz (.assign rfl .nil) ?_
 clear Hz Az; intro Az Hz
 refine wpList_nil ?_
 refine hK0 _ _ ?_; clear hK0; try clear K0
 refine wp_seq_k (fun K1 hK1 => ?_)
 refine wp_region_lit ?_
 refine goCh Hz (.loadBR m2 (i := 20) rfl rfl Tryz.underlying28 rfl sz28lo (by simp) (by dsimp only [List.drop, List.take] <;> rfl) .nil) ?_
 clear Hz Az; intro Az Hz
 refine wpList_plain rfl (fun K hK => ?_)
 refine e_call Hz Tryz.func18 rfl rfl rfl rfl (vlen_any _ _ _ _ _ _ _ _ _ _ _ _ _ _ _ _ _ _) ?_
 rintro e w6 ⟨rfl, hb6⟩
 have m7 := m2.later hb6
 clear m2
 clear hb6
 refine ⟨_, rfl, ?_⟩; clear Hz Az; intro Az Hz
 refine hK _ _ ?_; clear hK K
 refine goCh Hz (.assign rfl .nil) ?_
 clear Hz Az; intro Az Hz
 refine wpList_nil ?_
 refine hK1 _ _ ?_; clear hK1; try clear K1
 refine wp_seq_k (fun K2 hK2 => ?_)
 refine regS Hz (.fieldAddr (off := 9) rfl Tryz.underlying28 rfl (s := 0) (by kernel_rfl) rfl <| .loadB1 m7 (i := 20) rfl rfl rfl Tryz.underlying25 rfl <| .len rfl Tryz.underlying25 <| .move rfl <| .nil) ?_
 clear Hz Az; intro Az Hz
 refine wp_block ?_
 refine wp_loop_ghost (fun g a w => ∃ (k B : Nat), k ≤ pins.length ∧ g = pins.length - k ∧ Has 20 [(1, .pointer (some ⟨B, 0, none⟩)), (3, .int .i64 (lowL ws.length (pins.take k))), (9, .slice pn pins.length cn9), (10, .int .i64 pins.length), (11, .int .i64 k)] a ∧ MemOk (cn w0) w0 [(9, .box B 28 [.int .i64 vo, .int .i64 bl, .int .i64 sz, .int .i64 pe, .slice pp place.length cp, .int .i64 to, .int .i64 ne, .bool hi, .int .i64 fl, .slice pn pins.length cn9, .slice pw ws.length cw])] w) (pins.length) ?_ ?_
 · exact ⟨0, _, Nat.zero_le _, rfl, Hz.only [1, 3, 9, 10, 11], m7.ren [(9, 20)] (by decide)⟩
 ·
  clear Hz m7
  rintro g Az w14 ⟨k, B, hkl, hg, Hz, m14⟩
  refine regS Hz (.lss rfl rfl <| .nil) ?_
  clear Hz Az; intro Az Hz
  refine wp_seq_k (fun K3 hK3 => ?_)
  refine bool_cases Hz (t := 12) rfl ?_ ?_
  ·
   clear Hz; intro hb16 Hz
   try simp only [Q1x, Q2x, Q3x, Q4x, Q5x, Q6x, Q7x, Q8x, Q9x, Q0x, Qax, Qbx] at hb16
   have hk : k < pins.length := by omega
   refine wp_cond_true (Hz.ev (x := .tmp 12) rfl) ?_
   refine wp_skip ?_
   refine hK3 _ _ ?_; clear hK3; try clear K3
   refine wp_seq_k (fun K4 hK4 => ?_)
   refine wp_block ?_
   refine wp_seq_k (fun K5 hK5 => ?_)
   refine wp_region_lit ?_
   obtain ⟨gx18, ox18, hp18, hl18, hrg18⟩ := h1.extN (k) hk
   cases hp18; clear hl18
   refine goCh Hz (.c rfl (fun _ h => y_idx h rfl rfl Tryz.underlying25 sz2lo (k) rfl hk) <| .loadAt1 (hrg18 m14 rfl) (q := 0) rfl rfl rfl Tryz.underlying2 rfl <| .assign rfl <| .nil) ?_
   clear Hz Az; intro Az Hz
   refine wpList_nil ?_
   refine hK5 _ _ ?_; clear hK5; try clear K5
   refine wp_region_lit ?_
   refine goCh Hz (.move rfl <| .move rfl <| .c rfl (fun _ h => y_min h rfl rfl rfl) <| .assign rfl <| .nil) ?_
   clear Hz Az; intro Az Hz
   refine wpList_nil ?_
   refine hK4 _ _ ?_; clear hK4; try clear K4
   replace Hz : Has 20 [(1, _), (3, _), (9, _), (10, _), (11, _)] Az := Hz.only [1, 3, 9, 10, 11]
   refine wp_region_lit ?_
   refine goCh Hz (.add rfl rfl (r := ((k + 1 : Nat) : Int)) (by rw [IntWalk.i64_in _ (by omega)]; omega) <| .move rfl <| .nil) ?_
   clear Hz Az; intro Az Hz
   refine wpList_nil ?_
   show ∃ n', n' < _ ∧ _
   rw [low_snoc hk] at Hz
   exact ⟨pins.length - (k + 1), by omega, k + 1, _, by omega, rfl, Hz.only [1, 3, 9, 10, 11], m14.only [9]⟩
  ·
   clear Hz; intro hb16 Hz
   try simp only [Q1x, Q2x, Q3x, Q4x, Q5x, Q6x, Q7x, Q8x, Q9x, Q0x, Qax, Qbx] at hb16
   obtain rfl : k = pins.length := by omega
   refine wp_cond_false (Hz.ev (x := .tmp 12) rfl) ?_
   refine wp_exit ?_
   refine hK2 _ _ ?_; clear hK2; try clear K2
   refine regS Hz (.move rfl <| .assign rfl <| .nil) ?_
   clear Hz Az; intro Az Hz
   refine wp_ret ?_
   try dsimp only [Exit.then, Exit.inBlock]
   refine (ret1 (fn := Tryz.f15) Hz rfl rfl ?_)
   exact ⟨by rw [List.take_length], m14.below⟩
theorem vright_any (vo bl sz pe to ne fl : Int) (hi : Bool) (place pins : List Int) (ws : List (Int × List (Int × List Int))) (pp pn pw : Option Addr) (cp cn9 cw : Nat) (w0 : World) (h0 : Rd (fun _ => True) w0 (.slice pp place.length cp) (.ns .i64 place)) (h1 : Rd (fun _ => True) w0 (.slice pn pins.length cn9) (.ns .i64 pins)) (h2 : Rd (fun _ => True) w0 (.slice pw ws.length cw) (.l 2 (ws.map wrD))) (hn : place.length ≤ 1000000) (hp : pins.length ≤ 1000000) (hl : ws.length ≤ 1000000) (hwl : ∀ e ∈ ws, e.2.length ≤ 1000000) :
   Calls Tryz.prog 19 #[.agg #[.int .i64 vo, .int .i64 bl, .int .i64 sz, .int .i64 pe, .slice pp place.length cp, .int .i64 to, .int .i64 ne, .bool hi, .int .i64 fl, .slice pn pins.length cn9, .slice pw ws.length cw]] w0 fun e w' => ∃ b : Bool, e = .returned (.bool b) ∧ (b = true ↔ VolR vo bl sz pe to ne fl hi place pins ws) ∧ Below w0.heap.size w0 w' := by
 refine enter (fn := Tryz.f19) Tryz.func19 rfl Tryz.ntmps19 rfl (fun Az Hz => ?_)
 simp only [List.zipIdx_cons, List.zipIdx_nil, List.map_cons, List.map_nil, Nat.reduceAdd, Nat.zero_add] at Hz
 have m0 := MemOk.start (fun _ => False) w0
 refine wp_seq_k (fun K0 hK0 => ?_)
 refine wp_region_lit ?_
 refine wpList_plain rfl (fun K hK => ?_)
 refine e_box Hz m0 20 (cs := [_, _, _, _, _, _, _, _, _, _, _]) rfl rfl rfl ?_
 clear Hz Az m0; intro g1 Az w2 Hz m2 hB2 hg2
 clear hB2 hg2
 refine hK _ _ ?_; clear hK K
 refine goCh Hz (.assign rfl .nil) ?_
 clear Hz Az; intro Az Hz
 refine wpList_nil ?_
 refine hK0 _ _ ?_; clear hK0; try clear K0
 refine wp_seq_k (fun K1 hK1 => ?_)
 by_cases hN : NewOk vo bl sz pe to place
 ·
  refine wp_region_lit ?_
  refine goCh Hz (.fieldAddr (off := 0) rfl Tryz.underlying28 rfl (s := 0) (by kernel_rfl) rfl <| .loadB1 m2 (i := 20) rfl rfl rfl Tryz.underlying3 rfl <| .fieldAddr (off := 1) rfl Tryz.underlying28 rfl (s := 0) (by kernel_rfl) rfl <| .loadB1 m2 (i := 20) rfl rfl rfl Tryz.underlying3 rfl <| .fieldAddr (off := 2) rfl Tryz.underlying28 rfl (s := 0) (by kernel_rfl) rfl <| .loadB1 m2 (i := 20) rfl rfl rfl Tryz.underlying3 rfl <| .fieldAddr (off := 3) rfl Tryz.underlying28 rfl (s := 0) (by kernel_rfl) rfl <| .loadB1 m2 (i := 20) rfl rfl rfl Tryz.underlying3 rfl <| .fieldAddr (off := 4) rfl Tryz.underlying28 rfl (s := 0) (by kernel_rfl) rfl <| .loadB1 m2 (i := 20) rfl rfl rfl Tryz.underlying24 rfl <| .fieldAddr (off := 5) rfl Tryz.underlying28 rfl (s := 0) (by kernel_rfl) rfl <| .loadB1 m2 (i := 20) rfl rfl rfl Tryz.underlying3 rfl <| .build rfl zc50rt fl50rt rfl (by dsimp only [setL, List.set] <;> rfl) <| .nil) ?_
  clear Hz Az; intro Az Hz
  refine wpList_plain rfl (fun K hK => ?_)
  refine e_call Hz Tryz.func17 rfl rfl rfl rfl (vnew_yes _ _ _ _ _ _ _ _ place _ _ _ _ _ _ ((h0.now' m2 rfl).any) hn hN) ?_
  rintro e w17 ⟨p17, c17, rfl, hd17, hb17⟩
  have m18 := m2.callF 21 rfl hb17 hd17
  clear m2
  clear hb17 hd17
  refine ⟨_, rfl, ?_⟩; clear Hz Az; intro Az Hz
  refine hK _ _ ?_; clear hK K
  refine goCh Hz (.move rfl <| .extract rfl rfl <| .extract rfl rfl <| .nil) ?_
  clear Hz Az; intro Az Hz
  refine wpList_plain rfl (fun K hK => ?_)
  refine e_alloc Hz m18 22 zc28rt rfl ?_
  clear Hz Az m18; intro g23 Az w24 Hz m24 hB24 hg24
  clear hB24 hg24
  refine hK _ _ ?_; clear hK K
  refine wpList_plain rfl (fun K hK => ?_)
  refine e_storeW Hz m24 22 rfl rfl rfl rfl rfl sz28rt ?_
  clear m24; intro w25 m25 hB25
  clear hB25
  refine hK _ _ ?_; clear hK K
  refine goCh Hz (.assign rfl .nil) ?_
  clear Hz Az; intro Az Hz
  refine wpList_nil ?_
  refine hK1 _ _ ?_; clear hK1; try clear K1
  refine wp_seq_k (fun K2 hK2 => ?_)
  replace Hz : Has 94 [(1, _), (2, _), (4, _)] Az := Hz.only [1, 2, 4]
  refine wp_seq_k (fun K3 hK3 => ?_)
  refine wp_region_lit ?_
  refine goCh Hz (.move rfl <| .neq rfl rfl <| .move rfl <| .nil) ?_
  clear Hz Az; intro Az Hz
  refine bool_cases Hz (t := 26) rfl ?_ ?_
  · intro hb _; exact absurd hb (by simp)
  clear Hz; intro _ Hz
  refine goCh Hz (.fieldAddrZ (off := 6) rfl Tryz.underlying28 rfl (s := 0) (by kernel_rfl) rfl <| .loadB1Z m25 (i := 20) rfl rfl rfl Tryz.underlying3 rfl <| .fieldAddrZ (off := 5) rfl Tryz.underlying28 rfl (s := 0) (by kernel_rfl) rfl <| .loadB1Z m25 (i := 20) rfl rfl rfl Tryz.underlying3 rfl <| .nil) ?_
  clear Hz Az; intro Az Hz
  refine st_ge Hz rfl rfl rfl rfl (fun K hK => ?_)
  refine e_call Hz Tryz.func30 rfl rfl rfl rfl (within_any _ _ _ _) ?_
  rintro e w39 ⟨rfl, hb39⟩
  have m40 := m25.later hb39
  clear m25
  clear hb39
  refine ⟨_, rfl, ?_⟩; clear Hz Az; intro Az Hz
  refine hK _ _ ?_; clear hK K
  refine goCh Hz (.notZ rfl <| .pickF rfl rfl <| .move rfl <| .nil) ?_
  clear Hz Az; intro Az Hz
  refine bool_cases Hz (t := 34) rfl ?_ ?_
  ·
   clear Hz; intro hb45 Hz
   try simp only [Q1x, Q2x, Q3x, Q4x, Q5x, Q6x, Q7x, Q8x, Q9x, Q0x, Qax, Qbx] at hb45
   refine goCh Hz (.sk <| .sk <| .sk <| .nil) ?_
   clear Hz Az; intro Az Hz
   refine st_skipU Hz rfl rfl rfl rfl ?_
   clear Hz Az; intro Az Hz
   refine st_skipU Hz rfl rfl rfl rfl ?_
   clear Hz Az; intro Az Hz
   refine st_skipU Hz rfl rfl rfl rfl ?_
   clear Hz Az; intro Az Hz
   refine goCh Hz (.sk <| .pickT rfl rfl <| .move rfl <| .sk <| .sk <| .sk <| .sk <| .nil) ?_
   clear Hz Az; intro Az Hz
   refine st_skipU Hz rfl rfl rfl rfl ?_
   clear Hz Az; intro Az Hz
   refine st_skipU Hz rfl rfl rfl rfl ?_
   clear Hz Az; intro Az Hz
   refine st_skipU Hz rfl rfl rfl rfl ?_
   clear Hz Az; intro Az Hz
   refine st_skipU Hz rfl rfl rfl rfl ?_
   clear Hz Az; intro Az Hz
   refine st_skipU Hz rfl rfl rfl rfl ?_
   clear Hz Az; intro Az Hz
   refine goCh Hz (.sk <| .pickT rfl rfl <| .nil) ?_
   clear Hz Az; intro Az Hz
   refine wpList_nil ?_
   refine hK3 _ _ ?_; clear hK3; try clear K3
   refine wp_cond_true (Hz.ev (x := .tmp 54) rfl) ?_
   replace Hz : Has 94 [(1, _), (2, _)] Az := Hz.only [1, 2]
   refine regS Hz (.assign rfl <| .nil) ?_
   clear Hz Az; intro Az Hz
   refine wp_ret ?_
   try dsimp only [Exit.then, Exit.inBlock]
   refine (ret1 (fn := Tryz.f19) Hz rfl rfl ?_)
   exact ⟨false, rfl, iff_of_false (by simp) (fun h => by obtain ⟨v1, v2, v3, v4, v5, v6, v7, v8, v9⟩ := h; first | exact hN v1 | omega | (simp_all; done) | (simp_all; omega) | (have v10 := hpb.2 v8; simp_all; done) | (have v10 := v9 k hk; rw [getW hes] at v10; have v11 := hib.2 v10.2; simp_all; done) | (have v10 := v9 k hk; rw [getW hes] at v10; have v12 := v10.1; dsimp only at v12; omega)), m40.below⟩
  ·
   clear Hz; intro hb45 Hz
   try simp only [Q1x, Q2x, Q3x, Q4x, Q5x, Q6x, Q7x, Q8x, Q9x, Q0x, Qax, Qbx] at hb45
   refine goCh Hz (.fieldAddrZ (off := 7) rfl Tryz.underlying28 rfl (s := 0) (by kernel_rfl) rfl <| .loadB1Z m40 (i := 20) rfl rfl rfl Tryz.underlying4 rfl <| .moveZ rfl <| .nil) ?_
   clear Hz Az; intro Az Hz
   refine bool_cases Hz (t := 37) rfl ?_ ?_
   ·
    clear Hz; intro hb71 Hz
    try simp only [Q1x, Q2x, Q3x, Q4x, Q5x, Q6x, Q7x, Q8x, Q9x, Q0x, Qax, Qbx] at hb71
    refine goCh Hz (.fieldAddrZ (off := 5) rfl Tryz.underlying28 rfl (s := 0) (by kernel_rfl) rfl <| .loadB1Z m40 (i := 20) rfl rfl rfl Tryz.underlying3 rfl <| .eqlZ rfl rfl <| .pickTZ rfl rfl <| .pickF rfl rfl <| .move rfl <| .nil) ?_
    clear Hz Az; intro Az Hz
    refine bool_cases Hz (t := 43) rfl ?_ ?_
    ·
     clear Hz; intro hb78 Hz
     try simp only [Q1x, Q2x, Q3x, Q4x, Q5x, Q6x, Q7x, Q8x, Q9x, Q0x, Qax, Qbx] at hb78
     refine goCh Hz (.sk <| .sk <| .sk <| .sk <| .nil) ?_
     clear Hz Az; intro Az Hz
     refine st_skipU Hz rfl rfl rfl rfl ?_
     clear Hz Az; intro Az Hz
     refine st_skipU Hz rfl rfl rfl rfl ?_
     clear Hz Az; intro Az Hz
     refine st_skipU Hz rfl rfl rfl rfl ?_
     clear Hz Az; intro Az Hz
     refine st_skipU Hz rfl rfl rfl rfl ?_
     clear Hz Az; intro Az Hz
     refine st_skipU Hz rfl rfl rfl rfl ?_
     clear Hz Az; intro Az Hz
     refine goCh Hz (.sk <| .pickT rfl rfl <| .nil) ?_
     clear Hz Az; intro Az Hz
     refine wpList_nil ?_
     refine hK3 _ _ ?_; clear hK3; try clear K3
     refine wp_cond_true (Hz.ev (x := .tmp 54) rfl) ?_
     replace Hz : Has 94 [(1, _), (2, _)] Az := Hz.only [1, 2]
     refine regS Hz (.assign rfl <| .nil) ?_
     clear Hz Az; intro Az Hz
     refine wp_ret ?_
     try dsimp only [Exit.then, Exit.inBlock]
     refine (ret1 (fn := Tryz.f19) Hz rfl rfl ?_)
     exact ⟨false, rfl, iff_of_false (by simp) (fun h => by obtain ⟨v1, v2, v3, v4, v5, v6, v7, v8, v9⟩ := h; first | exact hN v1 | omega | (simp_all; done) | (simp_all; omega) | (have v10 := hpb.2 v8; simp_all; done) | (have v10 := v9 k hk; rw [getW hes] at v10; have v11 := hib.2 v10.2; simp_all; done) | (have v10 := v9 k hk; rw [getW hes] at v10; have v12 := v10.1; dsimp only at v12; omega)), m40.below⟩
    ·
     clear Hz; intro hb78 Hz
     try simp only [Q1x, Q2x, Q3x, Q4x, Q5x, Q6x, Q7x, Q8x, Q9x, Q0x, Qax, Qbx] at hb78
     refine goCh Hz (.fieldAddrZ (off := 7) rfl Tryz.underlying28 rfl (s := 0) (by kernel_rfl) rfl <| .loadB1Z m40 (i := 20) rfl rfl rfl Tryz.underlying4 rfl <| .notZ rfl <| .moveZ rfl <| .nil) ?_
     clear Hz Az; intro Az Hz
     refine bool_cases Hz (t := 47) rfl ?_ ?_
     ·
      clear Hz; intro hb96 Hz
      try simp only [Q1x, Q2x, Q3x, Q4x, Q5x, Q6x, Q7x, Q8x, Q9x, Q0x, Qax, Qbx] at hb96
      refine goCh Hz (.fieldAddrZ (off := 6) rfl Tryz.underlying28 rfl (s := 0) (by kernel_rfl) rfl <| .loadB1Z m40 (i := 20) rfl rfl rfl Tryz.underlying3 rfl <| .fieldAddrZ (off := 5) rfl Tryz.underlying28 rfl (s := 0) (by kernel_rfl) rfl <| .loadB1Z m40 (i := 20) rfl rfl rfl Tryz.underlying3 rfl <| .neqZ rfl rfl <| .pickTZ rfl rfl <| .pickF rfl rfl <| .nil) ?_
      clear Hz Az; intro Az Hz
      refine wpList_nil ?_
      refine hK3 _ _ ?_; clear hK3; try clear K3
      refine bool_cases Hz (t := 54) rfl ?_ ?_
      ·
       clear Hz; intro hb104 Hz
       try simp only [Q1x, Q2x, Q3x, Q4x, Q5x, Q6x, Q7x, Q8x, Q9x, Q0x, Qax, Qbx] at hb104
       refine wp_cond_true (Hz.ev (x := .tmp 54) rfl) ?_
       replace Hz : Has 94 [(1, _), (2, _)] Az := Hz.only [1, 2]
       refine regS Hz (.assign rfl <| .nil) ?_
       clear Hz Az; intro Az Hz
       refine wp_ret ?_
       try dsimp only [Exit.then, Exit.inBlock]
       refine (ret1 (fn := Tryz.f19) Hz rfl rfl ?_)
       exact ⟨false, rfl, iff_of_false (by simp) (fun h => by obtain ⟨v1, v2, v3, v4, v5, v6, v7, v8, v9⟩ := h; first | exact hN v1 | omega | (simp_all; done) | (simp_all; omega) | (have v10 := hpb.2 v8; simp_all; done) | (have v10 := v9 k hk; rw [getW hes] at v10; have v11 := hib.2 v10.2; simp_all; done) | (have v10 := v9 k hk; rw [getW hes] at v10; have v12 := v10.1; dsimp only at v12; omega)), m40.below⟩
      ·
       clear Hz; intro hb104 Hz
       try simp only [Q1x, Q2x, Q3x, Q4x, Q5x, Q6x, Q7x, Q8x, Q9x, Q0x, Qax, Qbx] at hb104
       refine wp_cond_false (Hz.ev (x := .tmp 54) rfl) ?_
       refine wp_skip ?_
       refine hK2 _ _ ?_; clear hK2; try clear K2
       refine wp_seq_k (fun K4 hK4 => ?_)
       refine wp_seq_k (fun K5 hK5 => ?_)
       replace Hz : Has 94 [(1, _), (2, _)] Az := Hz.only [1, 2]
       have m108 : MemOk _ _ [(20, _), (21, _), (22, _)] _ := m40.only [20, 21, 22]; clear m40
       refine region_p 15 (B := [(20, _), (21, _), (22, _)]) (m108.to ⟨il, il, il, trivial⟩) m108 (by kernel_rfl) (fun w109 hP109 m109 => ?_); clear m108
       refine goR hP109 [0, 1, 2, 3] [1] 4 0 15 Hz (m109.to ⟨il, il, il, trivial⟩) (.fieldAddr (off := 8) rfl Tryz.underlying28 rfl (s := 0) (by kernel_rfl) rfl <| .loadB1 hh (i := 20) rfl rfl rfl Tryz.underlying2 rfl <| .lss rfl rfl <| .move rfl <| .nil) ?_
       clear Hz Az; intro Az Hz
       refine bool_cases Hz (t := 58) rfl ?_ ?_
       ·
        clear Hz; intro hb114 Hz
        try simp only [Q1x, Q2x, Q3x, Q4x, Q5x, Q6x, Q7x, Q8x, Q9x, Q0x, Qax, Qbx] at hb114
        refine goA hP109 [4, 5, 6, 7, 8, 9, 10, 11, 12, 13, 14] 11 15 32767 Hz (m109.to ⟨il, il, il, trivial⟩) (.s <| .s <| .s <| .s <| .s <| .pickT rfl rfl <| .move rfl <| .s <| .s <| .s <| .pickT rfl rfl <| .nil) ?_
        clear Hz Az; intro Az Hz
        refine wpAnyE_done (by kernel_rfl) ?_ _
        refine hK5 _ _ ?_; clear hK5; try clear K5
        refine wp_cond_true (Hz.ev (x := .tmp 69) rfl) ?_
        replace Hz : Has 94 [(1, _), (2, _)] Az := Hz.only [1, 2]
        refine regS Hz (.assign rfl <| .nil) ?_
        clear Hz Az; intro Az Hz
        refine wp_ret ?_
        try dsimp only [Exit.then, Exit.inBlock]
        refine (ret1 (fn := Tryz.f19) Hz rfl rfl ?_)
        exact ⟨false, rfl, iff_of_false (by simp) (fun h => by obtain ⟨v1, v2, v3, v4, v5, v6, v7, v8, v9⟩ := h; first | exact hN v1 | omega | (simp_all; done) | (simp_all; omega) | (have v10 := hpb.2 v8; simp_all; done) | (have v10 := v9 k hk; rw [getW hes] at v10; have v11 := hib.2 v10.2; simp_all; done) | (have v10 := v9 k hk; rw [getW hes] at v10; have v12 := v10.1; dsimp only at v12; omega)), m109.below⟩
       ·
        clear Hz; intro hb114 Hz
        try simp only [Q1x, Q2x, Q3x, Q4x, Q5x, Q6x, Q7x, Q8x, Q9x, Q0x, Qax, Qbx] at hb114
        refine goR hP109 [4, 5, 6] [5, 6] 3 15 127 Hz (m109.to ⟨il, il, il, trivial⟩) (.fieldAddr (off := 8) rfl Tryz.underlying28 rfl (s := 0) (by kernel_rfl) rfl <| .loadB1 hh (i := 20) rfl rfl rfl Tryz.underlying2 rfl <| .loadBR hh (i := 20) rfl rfl Tryz.underlying28 rfl sz28rt (by simp) (by dsimp only [List.drop, List.take] <;> rfl) <| .nil) ?_
        clear Hz Az; intro Az Hz
        refine stepE_only 7 rfl (by kernel_rfl) (wantedG Hz rfl rfl rfl rfl) (fun K hK => ?_)
        refine e_call Hz Tryz.func18 rfl rfl rfl rfl (vlen_any _ _ _ _ _ _ _ _ _ _ _ _ _ _ _ _ _ _) ?_
        rintro e w131 ⟨rfl, hb131⟩
        have m132 := m109.later hb131
        clear m109
        clear hb131
        refine ⟨_, rfl, ?_⟩; clear Hz Az; intro Az Hz
        refine hK _ _ (m132.to ⟨il, il, il, trivial⟩) ?_; clear hK K
        refine goA hP109 [8, 9, 10] 3 255 2047 Hz (m132.to ⟨il, il, il, trivial⟩) (.gtr rfl rfl <| .pickF rfl rfl <| .move rfl <| .nil) ?_
        clear Hz Az; intro Az Hz
        refine bool_cases Hz (t := 65) rfl ?_ ?_
        ·
         clear Hz; intro hb137 Hz
         try simp only [Q1x, Q2x, Q3x, Q4x, Q5x, Q6x, Q7x, Q8x, Q9x, Q0x, Qax, Qbx] at hb137
         refine goA hP109 [11, 12, 13, 14] 4 2047 32767 Hz (m132.to ⟨il, il, il, trivial⟩) (.s <| .s <| .s <| .pickT rfl rfl <| .nil) ?_
         clear Hz Az; intro Az Hz
         refine wpAnyE_done (by kernel_rfl) ?_ _
         refine hK5 _ _ ?_; clear hK5; try clear K5
         refine wp_cond_true (Hz.ev (x := .tmp 69) rfl) ?_
         replace Hz : Has 94 [(1, _), (2, _)] Az := Hz.only [1, 2]
         refine regS Hz (.assign rfl <| .nil) ?_
         clear Hz Az; intro Az Hz
         refine wp_ret ?_
         try dsimp only [Exit.then, Exit.inBlock]
         refine (ret1 (fn := Tryz.f19) Hz rfl rfl ?_)
         exact ⟨false, rfl, iff_of_false (by simp) (fun h => by obtain ⟨v1, v2, v3, v4, v5, v6, v7, v8, v9⟩ := h; first | exact hN v1 | omega | (simp_all; done) | (simp_all; omega) | (have v10 := hpb.2 v8; simp_all; done) | (have v10 := v9 k hk; rw [getW hes] at v10; have v11 := hib.2 v10.2; simp_all; done) | (have v10 := v9 k hk; rw [getW hes] at v10; have v12 := v10.1; dsimp only at v12; omega)), m132.below⟩
        ·
         clear Hz; intro hb137 Hz
         try simp only [Q1x, Q2x, Q3x, Q4x, Q5x, Q6x, Q7x, Q8x, Q9x, Q0x, Qax, Qbx] at hb137
         refine goR hP109 [11] [11] 1 2047 4095 Hz (m132.to ⟨il, il, il, trivial⟩) (.loadBR hh (i := 20) rfl rfl Tryz.underlying28 rfl sz28rt (by simp) (by dsimp only [List.drop, List.take] <;> rfl) <| .nil) ?_
         clear Hz Az; intro Az Hz
         refine stepE_only 12 rfl (by kernel_rfl) (wantedG Hz rfl rfl rfl rfl) (fun K hK => ?_)
         refine e_call Hz Tryz.func38 rfl rfl rfl rfl (pins_any _ _ _ _ _ _ _ _ place pins ws _ _ _ _ _ _ _ ((h1.now' m132 rfl).any) hp) ?_
         rintro e w145 ⟨pb, rfl, hpb, hb145⟩
         have m146 := m132.later hb145
         clear m132
         clear hb145
         refine ⟨_, rfl, ?_⟩; clear Hz Az; intro Az Hz
         refine hK _ _ (m146.to ⟨il, il, il, trivial⟩) ?_; clear hK K
         refine goA hP109 [13, 14] 2 8191 32767 Hz (m146.to ⟨il, il, il, trivial⟩) (.not rfl <| .pickF rfl rfl <| .nil) ?_
         clear Hz Az; intro Az Hz
         refine wpAnyE_done (by kernel_rfl) ?_ _
         refine hK5 _ _ ?_; clear hK5; try clear K5
         refine bool_cases Hz (t := 69) rfl ?_ ?_
         ·
          clear Hz; intro hb150 Hz
          try simp only [Q1x, Q2x, Q3x, Q4x, Q5x, Q6x, Q7x, Q8x, Q9x, Q0x, Qax, Qbx] at hb150
          refine wp_cond_true (Hz.ev (x := .tmp 69) rfl) ?_
          replace Hz : Has 94 [(1, _), (2, _)] Az := Hz.only [1, 2]
          refine regS Hz (.assign rfl <| .nil) ?_
          clear Hz Az; intro Az Hz
          refine wp_ret ?_
          try dsimp only [Exit.then, Exit.inBlock]
          refine (ret1 (fn := Tryz.f19) Hz rfl rfl ?_)
          exact ⟨false, rfl, iff_of_false (by simp) (fun h => by obtain ⟨v1, v2, v3, v4, v5, v6, v7, v8, v9⟩ := h; first | exact hN v1 | omega | (simp_all; done) | (simp_all; omega) | (have v10 := hpb.2 v8; simp_all; done) | (have v10 := v9 k hk; rw [getW hes] at v10; have v11 := hib.2 v10.2; simp_all; done) | (have v10 := v9 k hk; rw [getW hes] at v10; have v12 := v10.1; dsimp only at v12; omega)), m146.below⟩
         ·
          clear Hz; intro hb150 Hz
          try simp only [Q1x, Q2x, Q3x, Q4x, Q5x, Q6x, Q7x, Q8x, Q9x, Q0x, Qax, Qbx] at hb150
          refine wp_cond_false (Hz.ev (x := .tmp 69) rfl) ?_
          refine wp_skip ?_
          refine hK4 _ _ ?_; clear hK4; try clear K4
          refine wp_seq_k (fun K6 hK6 => ?_)
          replace Hz : Has 94 [(1, _), (2, _)] Az := Hz.only [1, 2]
          refine regS Hz (.fieldAddr (off := 10) rfl Tryz.underlying28 rfl (s := 0) (by kernel_rfl) rfl <| .loadB1 m146 (i := 20) rfl rfl rfl Tryz.underlying26 rfl <| .len rfl Tryz.underlying26 <| .move rfl <| .nil) ?_
          clear Hz Az; intro Az Hz
          refine wp_block ?_
          refine wp_loop_ghost (fun g a w => ∃ (k B : Nat), k ≤ ws.length ∧ g = ws.length - k ∧ WrPre bl sz ws k ∧ Has 94 [(1, .pointer (some ⟨B, 0, none⟩)), (71, .slice pw ws.length cw), (72, .int .i64 ws.length), (73, .int .i64 k)] a ∧ MemOk (cn w0) w0 [(9, .box B 28 [.int .i64 vo, .int .i64 bl, .int .i64 sz, .int .i64 pe, .slice pp place.length cp, .int .i64 to, .int .i64 ne, .bool hi, .int .i64 fl, .slice pn pins.length cn9, .slice pw ws.length cw])] w) (ws.length) ?_ ?_
          · exact ⟨0, _, Nat.zero_le _, rfl, (fun j hj => by omega), Hz.only [1, 71, 72, 73], m146.ren [(9, 20)] (by decide)⟩
          ·
           clear Hz m146
           rintro g Az w158 ⟨k, B, hkl, hg, hall, Hz, m158⟩
           refine regS Hz (.lss rfl rfl <| .nil) ?_
           clear Hz Az; intro Az Hz
           refine wp_seq_k (fun K7 hK7 => ?_)
           refine bool_cases Hz (t := 74) rfl ?_ ?_
           ·
            clear Hz; intro hb160 Hz
            try simp only [Q1x, Q2x, Q3x, Q4x, Q5x, Q6x, Q7x, Q8x, Q9x, Q0x, Qax, Qbx] at hb160
            have hk : k < ws.length := by omega
            obtain ⟨⟨xs, xl⟩, hes⟩ : ∃ e, ws[k]? = some e := ⟨_, List.getElem?_eq_getElem hk⟩
            refine wp_cond_true (Hz.ev (x := .tmp 74) rfl) ?_
            refine wp_skip ?_
            refine hK7 _ _ ?_; clear hK7; try clear K7
            refine wp_seq_k (fun K8 hK8 => ?_)
            refine wp_block ?_
            refine wp_seq_k (fun K9 hK9 => ?_)
            refine wp_region_lit ?_
            refine goCh Hz (.move rfl .nil) ?_
            clear Hz Az; intro Az Hz
            obtain ⟨gx164, ox164, vx164, hp164, hl164, hR164, hrg164⟩ := h2.extA (k) (r := [.v (.int .i64 xs), .l 2 (xl.map itD)]) (wrD_get hes)
            cases hp164; clear hl164
            rcases hR164 with _ | ⟨hd164_0, _ | ⟨hd164_1, _ | _⟩⟩
            obtain rfl := hd164_0.v_out
            clear hd164_0
            obtain ⟨p165, c165, hv165, hw165⟩ := hd164_1.l_shape; subst hv165
            refine goCh Hz (.c rfl (fun _ h => y_idx h rfl rfl Tryz.underlying26 sz58rt (k) rfl hk) <| .loadAt (hrg164 m158 rfl) rfl Tryz.underlying58 rfl sz58rt <| .nil) ?_
            clear Hz Az; intro Az Hz
            refine wpList_plain rfl (fun K hK => ?_)
            refine e_alloc Hz m158 101 zc58rt rfl ?_
            clear Hz Az m158; intro g168 Az w169 Hz m169 hB169 hg169
            clear hB169 hg169
            refine hK _ _ ?_; clear hK K
            refine goCh Hz (.assign rfl .nil) ?_
            clear Hz Az; intro Az Hz
            refine wpList_plain rfl (fun K hK => ?_)
            refine e_storeW Hz m169 101 rfl rfl rfl rfl rfl sz58rt ?_
            clear m169; intro w171 m171 hB171
            clear hB171
            refine hK _ _ ?_; clear hK K
            refine wpList_nil ?_
            refine hK9 _ _ ?_; clear hK9; try clear K9
            refine wp_seq_k (fun K10 hK10 => ?_)
            refine wp_region_lit ?_
            refine goCh Hz (.fieldAddr (off := 0) rfl Tryz.underlying58 rfl (s := 0) (by kernel_rfl) rfl <| .loadB1 m171 (i := 101) rfl rfl rfl Tryz.underlying2 rfl <| .move rfl <| .add rfl rfl (r := ((k : Nat) : Int) + 1) (IntWalk.i64_in _ (by omega)) <| .neq rfl rfl <| .move rfl <| .nil) ?_
            clear Hz Az; intro Az Hz
            refine bool_cases Hz (t := 83) rfl ?_ ?_
            ·
             clear Hz; intro hb184 Hz
             try simp only [Q1x, Q2x, Q3x, Q4x, Q5x, Q6x, Q7x, Q8x, Q9x, Q0x, Qax, Qbx] at hb184
             refine goCh Hz (.sk <| .sk <| .sk <| .sk <| .sk <| .sk <| .sk <| .sk <| .pickT rfl rfl <| .nil) ?_
             clear Hz Az; intro Az Hz
             refine wpList_nil ?_
             refine hK10 _ _ ?_; clear hK10; try clear K10
             refine wp_cond_true (Hz.ev (x := .tmp 92) rfl) ?_
             replace Hz : Has 94 [(1, _), (71, _), (72, _), (73, _)] Az := Hz.only [1, 71, 72, 73]
             refine regS Hz (.assign rfl <| .nil) ?_
             clear Hz Az; intro Az Hz
             refine wp_ret ?_
             try dsimp only [Exit.then, Exit.inBlock]
             refine (ret1 (fn := Tryz.f19) Hz rfl rfl ?_)
             exact ⟨false, rfl, iff_of_false (by simp) (fun h => by obtain ⟨v1, v2, v3, v4, v5, v6, v7, v8, v9⟩ := h; first | exact hN v1 | omega | (simp_all; done) | (simp_all; omega) | (have v10 := hpb.2 v8; simp_all; done) | (have v10 := v9 k hk; rw [getW hes] at v10; have v11 := hib.2 v10.2; simp_all; done) | (have v10 := v9 k hk; rw [getW hes] at v10; have v12 := v10.1; dsimp only at v12; omega)), m171.below⟩
            ·
             clear Hz; intro hb184 Hz
             try simp only [Q1x, Q2x, Q3x, Q4x, Q5x, Q6x, Q7x, Q8x, Q9x, Q0x, Qax, Qbx] at hb184
             refine goCh Hz (.fieldAddrZ (off := 1) rfl Tryz.underlying28 rfl (s := 0) (by kernel_rfl) rfl <| .loadB1Z m171 (i := 9) rfl rfl rfl Tryz.underlying3 rfl <| .fieldAddrZ (off := 2) rfl Tryz.underlying28 rfl (s := 0) (by kernel_rfl) rfl <| .loadB1Z m171 (i := 9) rfl rfl rfl Tryz.underlying3 rfl <| .fieldAddrZ (off := 1) rfl Tryz.underlying58 rfl (s := 0) (by kernel_rfl) rfl <| .loadB1Z m171 (i := 101) rfl rfl rfl Tryz.underlying48 rfl <| .nil) ?_
             clear Hz Az; intro Az Hz
             refine st_ge Hz rfl rfl rfl rfl (fun K hK => ?_)
             refine e_call Hz Tryz.func39 rfl rfl rfl rfl (vitems_nn _ _ xl _ _ _ _ ((hd164_1.now' m171 rfl).any) (hwl _ (List.mem_of_getElem? hes))) ?_
             rintro e w202 ⟨ib, rfl, hib, hb202⟩
             have m203 := m171.later hb202
             clear m171
             clear hb202
             refine ⟨_, rfl, ?_⟩; clear Hz Az; intro Az Hz
             refine hK _ _ ?_; clear hK K
             refine goCh Hz (.notZ rfl <| .pickF rfl rfl <| .nil) ?_
             clear Hz Az; intro Az Hz
             refine wpList_nil ?_
             refine hK10 _ _ ?_; clear hK10; try clear K10
             refine bool_cases Hz (t := 92) rfl ?_ ?_
             ·
              clear Hz; intro hb207 Hz
              try simp only [Q1x, Q2x, Q3x, Q4x, Q5x, Q6x, Q7x, Q8x, Q9x, Q0x, Qax, Qbx] at hb207
              refine wp_cond_true (Hz.ev (x := .tmp 92) rfl) ?_
              replace Hz : Has 94 [(1, _), (71, _), (72, _), (73, _)] Az := Hz.only [1, 71, 72, 73]
              refine regS Hz (.assign rfl <| .nil) ?_
              clear Hz Az; intro Az Hz
              refine wp_ret ?_
              try dsimp only [Exit.then, Exit.inBlock]
              refine (ret1 (fn := Tryz.f19) Hz rfl rfl ?_)
              exact ⟨false, rfl, iff_of_false (by simp) (fun h => by obtain ⟨v1, v2, v3, v4, v5, v6, v7, v8, v9⟩ := h; first | exact hN v1 | omega | (simp_all; done) | (simp_all; omega) | (have v10 := hpb.2 v8; simp_all; done) | (have v10 := v9 k hk; rw [getW hes] at v10; have v11 := hib.2 v10.2; simp_all; done) | (have v10 := v9 k hk; rw [getW hes] at v10; have v12 := v10.1; dsimp only at v12; omega)), m203.below⟩
             ·
              clear Hz; intro hb207 Hz
              try simp only [Q1x, Q2x, Q3x, Q4x, Q5x, Q6x, Q7x, Q8x, Q9x, Q0x, Qax, Qbx] at hb207
              refine wp_cond_false (Hz.ev (x := .tmp 92) rfl) ?_
              refine wp_skip ?_
              refine hK8 _ _ ?_; clear hK8; try clear K8
              replace Hz : Has 94 [(1, _), (71, _), (72, _), (73, _)] Az := Hz.only [1, 71, 72, 73]
              refine wp_region_lit ?_
              refine goCh Hz (.add rfl rfl (r := ((k + 1 : Nat) : Int)) (by rw [IntWalk.i64_in _ (by omega)]; omega) <| .move rfl <| .nil) ?_
              clear Hz Az; intro Az Hz
              refine wpList_nil ?_
              show ∃ n', n' < _ ∧ _
              exact ⟨ws.length - (k + 1), by omega, k + 1, _, by omega, rfl, wr_snoc hall hes (by omega) (hib.1 (by simp_all)), Hz.only [1, 71, 72, 73], m203.only [9]⟩
           ·
            clear Hz; intro hb160 Hz
            try simp only [Q1x, Q2x, Q3x, Q4x, Q5x, Q6x, Q7x, Q8x, Q9x, Q0x, Qax, Qbx] at hb160
            obtain rfl : k = ws.length := by omega
            refine wp_cond_false (Hz.ev (x := .tmp 74) rfl) ?_
            refine wp_exit ?_
            refine hK6 _ _ ?_; clear hK6; try clear K6
            refine regS Hz (.assign rfl <| .nil) ?_
            clear Hz Az; intro Az Hz
            refine wp_ret ?_
            try dsimp only [Exit.then, Exit.inBlock]
            refine (ret1 (fn := Tryz.f19) Hz rfl rfl ?_)
            exact ⟨true, rfl, iff_of_true rfl ⟨hN, by omega, by omega, by simp_all, by simp_all, by omega, by omega, hpb.1 (by simp_all), hall⟩, m158.below⟩
     ·
      clear Hz; intro hb96 Hz
      try simp only [Q1x, Q2x, Q3x, Q4x, Q5x, Q6x, Q7x, Q8x, Q9x, Q0x, Qax, Qbx] at hb96
      refine goCh Hz (.sk <| .sk <| .sk <| .sk <| .sk <| .pickFZ rfl rfl <| .pickF rfl rfl <| .nil) ?_
      clear Hz Az; intro Az Hz
      refine wpList_nil ?_
      refine hK3 _ _ ?_; clear hK3; try clear K3
      refine wp_cond_false (Hz.ev (x := .tmp 54) rfl) ?_
      refine wp_skip ?_
      refine hK2 _ _ ?_; clear hK2; try clear K2
      refine wp_seq_k (fun K11 hK11 => ?_)
      refine wp_seq_k (fun K12 hK12 => ?_)
      replace Hz : Has 94 [(1, _), (2, _)] Az := Hz.only [1, 2]
      have m222 : MemOk _ _ [(20, _), (21, _), (22, _)] _ := m40.only [20, 21, 22]; clear m40
      refine region_p 15 (B := [(20, _), (21, _), (22, _)]) (m222.to ⟨il, il, il, trivial⟩) m222 (by kernel_rfl) (fun w223 hP223 m223 => ?_); clear m222
      refine goR hP223 [0, 1, 2, 3] [1] 4 0 15 Hz (m223.to ⟨il, il, il, trivial⟩) (.fieldAddr (off := 8) rfl Tryz.underlying28 rfl (s := 0) (by kernel_rfl) rfl <| .loadB1 hh (i := 20) rfl rfl rfl Tryz.underlying2 rfl <| .lss rfl rfl <| .move rfl <| .nil) ?_
      clear Hz Az; intro Az Hz
      refine bool_cases Hz (t := 58) rfl ?_ ?_
      ·
       clear Hz; intro hb228 Hz
       try simp only [Q1x, Q2x, Q3x, Q4x, Q5x, Q6x, Q7x, Q8x, Q9x, Q0x, Qax, Qbx] at hb228
       refine goA hP223 [4, 5, 6, 7, 8, 9, 10, 11, 12, 13, 14] 11 15 32767 Hz (m223.to ⟨il, il, il, trivial⟩) (.s <| .s <| .s <| .s <| .s <| .pickT rfl rfl <| .move rfl <| .s <| .s <| .s <| .pickT rfl rfl <| .nil) ?_
       clear Hz Az; intro Az Hz
       refine wpAnyE_done (by kernel_rfl) ?_ _
       refine hK12 _ _ ?_; clear hK12; try clear K12
       refine wp_cond_true (Hz.ev (x := .tmp 69) rfl) ?_
       replace Hz : Has 94 [(1, _), (2, _)] Az := Hz.only [1, 2]
       refine regS Hz (.assign rfl <| .nil) ?_
       clear Hz Az; intro Az Hz
       refine wp_ret ?_
       try dsimp only [Exit.then, Exit.inBlock]
       refine (ret1 (fn := Tryz.f19) Hz rfl rfl ?_)
       exact ⟨false, rfl, iff_of_false (by simp) (fun h => by obtain ⟨v1, v2, v3, v4, v5, v6, v7, v8, v9⟩ := h; first | exact hN v1 | omega | (simp_all; done) | (simp_all; omega) | (have v10 := hpb.2 v8; simp_all; done) | (have v10 := v9 k hk; rw [getW hes] at v10; have v11 := hib.2 v10.2; simp_all; done) | (have v10 := v9 k hk; rw [getW hes] at v10; have v12 := v10.1; dsimp only at v12; omega)), m223.below⟩
      ·
       clear Hz; intro hb228 Hz
       try simp only [Q1x, Q2x, Q3x, Q4x, Q5x, Q6x, Q7x, Q8x, Q9x, Q0x, Qax, Qbx] at hb228
       refine goR hP223 [4, 5, 6] [5, 6] 3 15 127 Hz (m223.to ⟨il, il, il, trivial⟩) (.fieldAddr (off := 8) rfl Tryz.underlying28 rfl (s := 0) (by kernel_rfl) rfl <| .loadB1 hh (i := 20) rfl rfl rfl Tryz.underlying2 rfl <| .loadBR hh (i := 20) rfl rfl Tryz.underlying28 rfl sz28rt (by simp) (by dsimp only [List.drop, List.take] <;> rfl) <| .nil) ?_
       clear Hz Az; intro Az Hz
       refine stepE_only 7 rfl (by kernel_rfl) (wantedG Hz rfl rfl rfl rfl) (fun K hK => ?_)
       refine e_call Hz Tryz.func18 rfl rfl rfl rfl (vlen_any _ _ _ _ _ _ _ _ _ _ _ _ _ _ _ _ _ _) ?_
       rintro e w245 ⟨rfl, hb245⟩
       have m246 := m223.later hb245
       clear m223
       clear hb245
       refine ⟨_, rfl, ?_⟩; clear Hz Az; intro Az Hz
       refine hK _ _ (m246.to ⟨il, il, il, trivial⟩) ?_; clear hK K
       refine goA hP223 [8, 9, 10] 3 255 2047 Hz (m246.to ⟨il, il, il, trivial⟩) (.gtr rfl rfl <| .pickF rfl rfl <| .move rfl <| .nil) ?_
       clear Hz Az; intro Az Hz
       refine bool_cases Hz (t := 65) rfl ?_ ?_
       ·
        clear Hz; intro hb251 Hz
        try simp only [Q1x, Q2x, Q3x, Q4x, Q5x, Q6x, Q7x, Q8x, Q9x, Q0x, Qax, Qbx] at hb251
        refine goA hP223 [11, 12, 13, 14] 4 2047 32767 Hz (m246.to ⟨il, il, il, trivial⟩) (.s <| .s <| .s <| .pickT rfl rfl <| .nil) ?_
        clear Hz Az; intro Az Hz
        refine wpAnyE_done (by kernel_rfl) ?_ _
        refine hK12 _ _ ?_; clear hK12; try clear K12
        refine wp_cond_true (Hz.ev (x := .tmp 69) rfl) ?_
        replace Hz : Has 94 [(1, _), (2, _)] Az := Hz.only [1, 2]
        refine regS Hz (.assign rfl <| .nil) ?_
        clear Hz Az; intro Az Hz
        refine wp_ret ?_
        try dsimp only [Exit.then, Exit.inBlock]
        refine (ret1 (fn := Tryz.f19) Hz rfl rfl ?_)
        exact ⟨false, rfl, iff_of_false (by simp) (fun h => by obtain ⟨v1, v2, v3, v4, v5, v6, v7, v8, v9⟩ := h; first | exact hN v1 | omega | (simp_all; done) | (simp_all; omega) | (have v10 := hpb.2 v8; simp_all; done) | (have v10 := v9 k hk; rw [getW hes] at v10; have v11 := hib.2 v10.2; simp_all; done) | (have v10 := v9 k hk; rw [getW hes] at v10; have v12 := v10.1; dsimp only at v12; omega)), m246.below⟩
       ·
        clear Hz; intro hb251 Hz
        try simp only [Q1x, Q2x, Q3x, Q4x, Q5x, Q6x, Q7x, Q8x, Q9x, Q0x, Qax, Qbx] at hb251
        refine goR hP223 [11] [11] 1 2047 4095 Hz (m246.to ⟨il, il, il, trivial⟩) (.loadBR hh (i := 20) rfl rfl Tryz.underlying28 rfl sz28rt (by simp) (by dsimp only [List.drop, List.take] <;> rfl) <| .nil) ?_
        clear Hz Az; intro Az Hz
        refine stepE_only 12 rfl (by kernel_rfl) (wantedG Hz rfl rfl rfl rfl) (fun K hK => ?_)
        refine e_call Hz Tryz.func38 rfl rfl rfl rfl (pins_any _ _ _ _ _ _ _ _ place pins ws _ _ _ _ _ _ _ ((h1.now' m246 rfl).any) hp) ?_
        rintro e w259 ⟨pb, rfl, hpb, hb259⟩
        have m260 := m246.later hb259
        clear m246
        clear hb259
        refine ⟨_, rfl, ?_⟩; clear Hz Az; intro Az Hz
        refine hK _ _ (m260.to ⟨il, il, il, trivial⟩) ?_; clear hK K
        refine goA hP223 [13, 14] 2 8191 32767 Hz (m260.to ⟨il, il, il, trivial⟩) (.not rfl <| .pickF rfl rfl <| .nil) ?_
        clear Hz Az; intro Az Hz
        refine wpAnyE_done (by kernel_rfl) ?_ _
        refine hK12 _ _ ?_; clear hK12; try clear K12
        refine bool_cases Hz (t := 69) rfl ?_ ?_
        ·
         clear Hz; intro hb264 Hz
         try simp only [Q1x, Q2x, Q3x, Q4x, Q5x, Q6x, Q7x, Q8x, Q9x, Q0x, Qax, Qbx] at hb264
         refine wp_cond_true (Hz.ev (x := .tmp 69) rfl) ?_
         replace Hz : Has 94 [(1, _), (2, _)] Az := Hz.only [1, 2]
         refine regS Hz (.assign rfl <| .nil) ?_
         clear Hz Az; intro Az Hz
         refine wp_ret ?_
         try dsimp only [Exit.then, Exit.inBlock]
         refine (ret1 (fn := Tryz.f19) Hz rfl rfl ?_)
         exact ⟨false, rfl, iff_of_false (by simp) (fun h => by obtain ⟨v1, v2, v3, v4, v5, v6, v7, v8, v9⟩ := h; first | exact hN v1 | omega | (simp_all; done) | (simp_all; omega) | (have v10 := hpb.2 v8; simp_all; done) | (have v10 := v9 k hk; rw [getW hes] at v10; have v11 := hib.2 v10.2; simp_all; done) | (have v10 := v9 k hk; rw [getW hes] at v10; have v12 := v10.1; dsimp only at v12; omega)), m260.below⟩
        ·
         clear Hz; intro hb264 Hz
         try simp only [Q1x, Q2x, Q3x, Q4x, Q5x, Q6x, Q7x, Q8x, Q9x, Q0x, Qax, Qbx] at hb264
         refine wp_cond_false (Hz.ev (x := .tmp 69) rfl) ?_
         refine wp_skip ?_
         refine hK11 _ _ ?_; clear hK11; try clear K11
         refine wp_seq_k (fun K13 hK13 => ?_)
         replace Hz : Has 94 [(1, _), (2, _)] Az := Hz.only [1, 2]
         refine regS Hz (.fieldAddr (off := 10) rfl Tryz.underlying28 rfl (s := 0) (by kernel_rfl) rfl <| .loadB1 m260 (i := 20) rfl rfl rfl Tryz.underlying26 rfl <| .len rfl Tryz.underlying26 <| .move rfl <| .nil) ?_
         clear Hz Az; intro Az Hz
         refine wp_block ?_
         refine wp_loop_ghost (fun g a w => ∃ (k B : Nat), k ≤ ws.length ∧ g = ws.length - k ∧ WrPre bl sz ws k ∧ Has 94 [(1, .pointer (some ⟨B, 0, none⟩)), (71, .slice pw ws.length cw), (72, .int .i64 ws.length), (73, .int .i64 k)] a ∧ MemOk (cn w0) w0 [(9, .box B 28 [.int .i64 vo, .int .i64 bl, .int .i64 sz, .int .i64 pe, .slice pp place.length cp, .int .i64 to, .int .i64 ne, .bool hi, .int .i64 fl, .slice pn pins.length cn9, .slice pw ws.length cw])] w) (ws.length) ?_ ?_
         · exact ⟨0, _, Nat.zero_le _, rfl, (fun j hj => by omega), Hz.only [1, 71, 72, 73], m260.ren [(9, 20)] (by decide)⟩
         ·
          clear Hz m260
          rintro g Az w272 ⟨k, B, hkl, hg, hall, Hz, m272⟩
          refine regS Hz (.lss rfl rfl <| .nil) ?_
          clear Hz Az; intro Az Hz
          refine wp_seq_k (fun K14 hK14 => ?_)
          refine bool_cases Hz (t := 74) rfl ?_ ?_
          ·
           clear Hz; intro hb274 Hz
           try simp only [Q1x, Q2x, Q3x, Q4x, Q5x, Q6x, Q7x, Q8x, Q9x, Q0x, Qax, Qbx] at hb274
           have hk : k < ws.length := by omega
           obtain ⟨⟨xs, xl⟩, hes⟩ : ∃ e, ws[k]? = some e := ⟨_, List.getElem?_eq_getElem hk⟩
           refine wp_cond_true (Hz.ev (x := .tmp 74) rfl) ?_
           refine wp_skip ?_
           refine hK14 _ _ ?_; clear hK14; try clear K14
           refine wp_seq_k (fun K15 hK15 => ?_)
           refine wp_block ?_
           refine wp_seq_k (fun K16 hK16 => ?_)
           refine wp_region_lit ?_
           refine goCh Hz (.move rfl .nil) ?_
           clear Hz Az; intro Az Hz
           obtain ⟨gx278, ox278, vx278, hp278, hl278, hR278, hrg278⟩ := h2.extA (k) (r := [.v (.int .i64 xs), .l 2 (xl.map itD)]) (wrD_get hes)
           cases hp278; clear hl278
           rcases hR278 with _ | ⟨hd278_0, _ | ⟨hd278_1, _ | _⟩⟩
           obtain rfl := hd278_0.v_out
           clear hd278_0
           obtain ⟨p279, c279, hv279, hw279⟩ := hd278_1.l_shape; subst hv279
           refine goCh Hz (.c rfl (fun _ h => y_idx h rfl rfl Tryz.underlying26 sz58rt (k) rfl hk) <| .loadAt (hrg278 m272 rfl) rfl Tryz.underlying58 rfl sz58rt <| .nil) ?_
           clear Hz Az; intro Az Hz
           refine wpList_plain rfl (fun K hK => ?_)
           refine e_alloc Hz m272 101 zc58rt rfl ?_
           clear Hz Az m272; intro g282 Az w283 Hz m283 hB283 hg283
           clear hB283 hg283
           refine hK _ _ ?_; clear hK K
           refine goCh Hz (.assign rfl .nil) ?_
           clear Hz Az; intro Az Hz
           refine wpList_plain rfl (fun K hK => ?_)
           refine e_storeW Hz m283 101 rfl rfl rfl rfl rfl sz58rt ?_
           clear m283; intro w285 m285 hB285
           clear hB285
           refine hK _ _ ?_; clear hK K
           refine wpList_nil ?_
           refine hK16 _ _ ?_; clear hK16; try clear K16
           refine wp_seq_k (fun K17 hK17 => ?_)
           refine wp_region_lit ?_
           refine goCh Hz (.fieldAddr (off := 0) rfl Tryz.underlying58 rfl (s := 0) (by kernel_rfl) rfl <| .loadB1 m285 (i := 101) rfl rfl rfl Tryz.underlying2 rfl <| .move rfl <| .add rfl rfl (r := ((k : Nat) : Int) + 1) (IntWalk.i64_in _ (by omega)) <| .neq rfl rfl <| .move rfl <| .nil) ?_
           clear Hz Az; intro Az Hz
           refine bool_cases Hz (t := 83) rfl ?_ ?_
           ·
            clear Hz; intro hb298 Hz
            try simp only [Q1x, Q2x, Q3x, Q4x, Q5x, Q6x, Q7x, Q8x, Q9x, Q0x, Qax, Qbx] at hb298
            refine goCh Hz (.sk <| .sk <| .sk <| .sk <| .sk <| .sk <| .sk <| .sk <| .pickT rfl rfl <| .nil) ?_
            clear Hz Az; intro Az Hz
            refine wpList_nil ?_
            refine hK17 _ _ ?_; clear hK17; try clear K17
            refine wp_cond_true (Hz.ev (x := .tmp 92) rfl) ?_
            replace Hz : Has 94 [(1, _), (71, _), (72, _), (73, _)] Az := Hz.only [1, 71, 72, 73]
            refine regS Hz (.assign rfl <| .nil) ?_
            clear Hz Az; intro Az Hz
            refine wp_ret ?_
            try dsimp only [Exit.then, Exit.inBlock]
            refine (ret1 (fn := Tryz.f19) Hz rfl rfl ?_)
            exact ⟨false, rfl, iff_of_false (by simp) (fun h => by obtain ⟨v1, v2, v3, v4, v5, v6, v7, v8, v9⟩ := h; first | exact hN v1 | omega | (simp_all; done) | (simp_all; omega) | (have v10 := hpb.2 v8; simp_all; done) | (have v10 := v9 k hk; rw [getW hes] at v10; have v11 := hib.2 v10.2; simp_all; done) | (have v10 := v9 k hk; rw [getW hes] at v10; have v12 := v10.1; dsimp only at v12; omega)), m285.below⟩
           ·
            clear Hz; intro hb298 Hz
            try simp only [Q1x, Q2x, Q3x, Q4x, Q5x, Q6x, Q7x, Q8x, Q9x, Q0x, Qax, Qbx] at hb298
            refine goCh Hz (.fieldAddrZ (off := 1) rfl Tryz.underlying28 rfl (s := 0) (by kernel_rfl) rfl <| .loadB1Z m285 (i := 9) rfl rfl rfl Tryz.underlying3 rfl <| .fieldAddrZ (off := 2) rfl Tryz.underlying28 rfl (s := 0) (by kernel_rfl) rfl <| .loadB1Z m285 (i := 9) rfl rfl rfl Tryz.underlying3 rfl <| .fieldAddrZ (off := 1) rfl Tryz.underlying58 rfl (s := 0) (by kernel_rfl) rfl <| .loadB1Z m285 (i := 101) rfl rfl rfl Tryz.underlying48 rfl <| .nil) ?_
            clear Hz Az; intro Az Hz
            refine st_ge Hz rfl rfl rfl rfl (fun K hK => ?_)
            refine e_call Hz Tryz.func39 rfl rfl rfl rfl (vitems_nn _ _ xl _ _ _ _ ((hd278_1.now' m285 rfl).any) (hwl _ (List.mem_of_getElem? hes))) ?_
            rintro e w316 ⟨ib, rfl, hib, hb316⟩
            have m317 := m285.later hb316
            clear m285
            clear hb316
            refine ⟨_, rfl, ?_⟩; clear Hz Az; intro Az Hz
            refine hK _ _ ?_; clear hK K
            refine goCh Hz (.notZ rfl <| .pickF rfl rfl <| .nil) ?_
            clear Hz Az; intro Az Hz
            refine wpList_nil ?_
            refine hK17 _ _ ?_; clear hK17; try clear K17
            refine bool_cases Hz (t := 92) rfl ?_ ?_
            ·
             clear Hz; intro hb321 Hz
             try simp only [Q1x, Q2x, Q3x, Q4x, Q5x, Q6x, Q7x, Q8x, Q9x, Q0x, Qax, Qbx] at hb321
             refine wp_cond_true (Hz.ev (x := .tmp 92) rfl) ?_
             replace Hz : Has 94 [(1, _), (71, _), (72, _), (73, _)] Az := Hz.only [1, 71, 72, 73]
             refine regS Hz (.assign rfl <| .nil) ?_
             clear Hz Az; intro Az Hz
             refine wp_ret ?_
             try dsimp only [Exit.then, Exit.inBlock]
             refine (ret1 (fn := Tryz.f19) Hz rfl rfl ?_)
             exact ⟨false, rfl, iff_of_false (by simp) (fun h => by obtain ⟨v1, v2, v3, v4, v5, v6, v7, v8, v9⟩ := h; first | exact hN v1 | omega | (simp_all; done) | (simp_all; omega) | (have v10 := hpb.2 v8; simp_all; done) | (have v10 := v9 k hk; rw [getW hes] at v10; have v11 := hib.2 v10.2; simp_all; done) | (have v10 := v9 k hk; rw [getW hes] at v10; have v12 := v10.1; dsimp only at v12; omega)), m317.below⟩
            ·
             clear Hz; intro hb321 Hz
             try simp only [Q1x, Q2x, Q3x, Q4x, Q5x, Q6x, Q7x, Q8x, Q9x, Q0x, Qax, Qbx] at hb321
             refine wp_cond_false (Hz.ev (x := .tmp 92) rfl) ?_
             refine wp_skip ?_
             refine hK15 _ _ ?_; clear hK15; try clear K15
             replace Hz : Has 94 [(1, _), (71, _), (72, _), (73, _)] Az := Hz.only [1, 71, 72, 73]
             refine wp_region_lit ?_
             refine goCh Hz (.add rfl rfl (r := ((k + 1 : Nat) : Int)) (by rw [IntWalk.i64_in _ (by omega)]; omega) <| .move rfl <| .nil) ?_
             clear Hz Az; intro Az Hz
             refine wpList_nil ?_
             show ∃ n', n' < _ ∧ _
             exact ⟨ws.length - (k + 1), by omega, k + 1, _, by omega, rfl, wr_snoc hall hes (by omega) (hib.1 (by simp_all)), Hz.only [1, 71, 72, 73], m317.only [9]⟩
          ·
           clear Hz; intro hb274 Hz
           try simp only [Q1x, Q2x, Q3x, Q4x, Q5x, Q6x, Q7x, Q8x, Q9x, Q0x, Qax, Qbx] at hb274
           obtain rfl : k = ws.length := by omega
           refine wp_cond_false (Hz.ev (x := .tmp 74) rfl) ?_
           refine wp_exit ?_
           refine hK13 _ _ ?_; clear hK13; try clear K13
           refine regS Hz (.assign rfl <| .nil) ?_
           clear Hz Az; intro Az Hz
           refine wp_ret ?_
           try dsimp only [Exit.then, Exit.inBlock]
           refine (ret1 (fn := Tryz.f19) Hz rfl rfl ?_)
           exact ⟨true, rfl, iff_of_true rfl ⟨hN, by omega, by omega, by simp_all, by simp_all, by omega, by omega, hpb.1 (by simp_all), hall⟩, m272.below⟩
   ·
    clear Hz; intro hb71 Hz
    try simp only [Q1x, Q2x, Q3x, Q4x, Q5x, Q6x, Q7x, Q8x, Q9x, Q0x, Qax, Qbx] at hb71
    refine goCh Hz (.sk <| .sk <| .sk <| .pickFZ rfl rfl <| .pickF rfl rfl <| .move rfl <| .fieldAddrZ (off := 7) rfl Tryz.underlying28 rfl (s := 0) (by kernel_rfl) rfl <| .loadB1Z m40 (i := 20) rfl rfl rfl Tryz.underlying4 rfl <| .notZ rfl <| .moveZ rfl <| .nil) ?_
    clear Hz Az; intro Az Hz
    refine bool_cases Hz (t := 47) rfl ?_ ?_
    ·
     clear Hz; intro hb338 Hz
     try simp only [Q1x, Q2x, Q3x, Q4x, Q5x, Q6x, Q7x, Q8x, Q9x, Q0x, Qax, Qbx] at hb338
     refine goCh Hz (.fieldAddrZ (off := 6) rfl Tryz.underlying28 rfl (s := 0) (by kernel_rfl) rfl <| .loadB1Z m40 (i := 20) rfl rfl rfl Tryz.underlying3 rfl <| .fieldAddrZ (off := 5) rfl Tryz.underlying28 rfl (s := 0) (by kernel_rfl) rfl <| .loadB1Z m40 (i := 20) rfl rfl rfl Tryz.underlying3 rfl <| .neqZ rfl rfl <| .pickTZ rfl rfl <| .pickF rfl rfl <| .nil) ?_
     clear Hz Az; intro Az Hz
     refine wpList_nil ?_
     refine hK3 _ _ ?_; clear hK3; try clear K3
     refine bool_cases Hz (t := 54) rfl ?_ ?_
     ·
      clear Hz; intro hb346 Hz
      try simp only [Q1x, Q2x, Q3x, Q4x, Q5x, Q6x, Q7x, Q8x, Q9x, Q0x, Qax, Qbx] at hb346
      refine wp_cond_true (Hz.ev (x := .tmp 54) rfl) ?_
      replace Hz : Has 94 [(1, _), (2, _)] Az := Hz.only [1, 2]
      refine regS Hz (.assign rfl <| .nil) ?_
      clear Hz Az; intro Az Hz
      refine wp_ret ?_
      try dsimp only [Exit.then, Exit.inBlock]
      refine (ret1 (fn := Tryz.f19) Hz rfl rfl ?_)
      exact ⟨false, rfl, iff_of_false (by simp) (fun h => by obtain ⟨v1, v2, v3, v4, v5, v6, v7, v8, v9⟩ := h; first | exact hN v1 | omega | (simp_all; done) | (simp_all; omega) | (have v10 := hpb.2 v8; simp_all; done) | (have v10 := v9 k hk; rw [getW hes] at v10; have v11 := hib.2 v10.2; simp_all; done) | (have v10 := v9 k hk; rw [getW hes] at v10; have v12 := v10.1; dsimp only at v12; omega)), m40.below⟩
     ·
      clear Hz; intro hb346 Hz
      try simp only [Q1x, Q2x, Q3x, Q4x, Q5x, Q6x, Q7x, Q8x, Q9x, Q0x, Qax, Qbx] at hb346
      refine wp_cond_false (Hz.ev (x := .tmp 54) rfl) ?_
      refine wp_skip ?_
      refine hK2 _ _ ?_; clear hK2; try clear K2
      refine wp_seq_k (fun K18 hK18 => ?_)
      refine wp_seq_k (fun K19 hK19 => ?_)
      replace Hz : Has 94 [(1, _), (2, _)] Az := Hz.only [1, 2]
      have m350 : MemOk _ _ [(20, _), (21, _), (22, _)] _ := m40.only [20, 21, 22]; clear m40
      refine region_p 15 (B := [(20, _), (21, _), (22, _)]) (m350.to ⟨il, il, il, trivial⟩) m350 (by kernel_rfl) (fun w351 hP351 m351 => ?_); clear m350
      refine goR hP351 [0, 1, 2, 3] [1] 4 0 15 Hz (m351.to ⟨il, il, il, trivial⟩) (.fieldAddr (off := 8) rfl Tryz.underlying28 rfl (s := 0) (by kernel_rfl) rfl <| .loadB1 hh (i := 20) rfl rfl rfl Tryz.underlying2 rfl <| .lss rfl rfl <| .move rfl <| .nil) ?_
      clear Hz Az; intro Az Hz
      refine bool_cases Hz (t := 58) rfl ?_ ?_
      ·
       clear Hz; intro hb356 Hz
       try simp only [Q1x, Q2x, Q3x, Q4x, Q5x, Q6x, Q7x, Q8x, Q9x, Q0x, Qax, Qbx] at hb356
       refine goA hP351 [4, 5, 6, 7, 8, 9, 10, 11, 12, 13, 14] 11 15 32767 Hz (m351.to ⟨il, il, il, trivial⟩) (.s <| .s <| .s <| .s <| .s <| .pickT rfl rfl <| .move rfl <| .s <| .s <| .s <| .pickT rfl rfl <| .nil) ?_
       clear Hz Az; intro Az Hz
       refine wpAnyE_done (by kernel_rfl) ?_ _
       refine hK19 _ _ ?_; clear hK19; try clear K19
       refine wp_cond_true (Hz.ev (x := .tmp 69) rfl) ?_
       replace Hz : Has 94 [(1, _), (2, _)] Az := Hz.only [1, 2]
       refine regS Hz (.assign rfl <| .nil) ?_
       clear Hz Az; intro Az Hz
       refine wp_ret ?_
       try dsimp only [Exit.then, Exit.inBlock]
       refine (ret1 (fn := Tryz.f19) Hz rfl rfl ?_)
       exact ⟨false, rfl, iff_of_false (by simp) (fun h => by obtain ⟨v1, v2, v3, v4, v5, v6, v7, v8, v9⟩ := h; first | exact hN v1 | omega | (simp_all; done) | (simp_all; omega) | (have v10 := hpb.2 v8; simp_all; done) | (have v10 := v9 k hk; rw [getW hes] at v10; have v11 := hib.2 v10.2; simp_all; done) | (have v10 := v9 k hk; rw [getW hes] at v10; have v12 := v10.1; dsimp only at v12; omega)), m351.below⟩
      ·
       clear Hz; intro hb356 Hz
       try simp only [Q1x, Q2x, Q3x, Q4x, Q5x, Q6x, Q7x, Q8x, Q9x, Q0x, Qax, Qbx] at hb356
       refine goR hP351 [4, 5, 6] [5, 6] 3 15 127 Hz (m351.to ⟨il, il, il, trivial⟩) (.fieldAddr (off := 8) rfl Tryz.underlying28 rfl (s := 0) (by kernel_rfl) rfl <| .loadB1 hh (i := 20) rfl rfl rfl Tryz.underlying2 rfl <| .loadBR hh (i := 20) rfl rfl Tryz.underlying28 rfl sz28rt (by simp) (by dsimp only [List.drop, List.take] <;> rfl) <| .nil) ?_
       clear Hz Az; intro Az Hz
       refine stepE_only 7 rfl (by kernel_rfl) (wantedG Hz rfl rfl rfl rfl) (fun K hK => ?_)
       refine e_call Hz Tryz.func18 rfl rfl rfl rfl (vlen_any _ _ _ _ _ _ _ _ _ _ _ _ _ _ _ _ _ _) ?_
       rintro e w373 ⟨rfl, hb373⟩
       have m374 := m351.later hb373
       clear m351
       clear hb373
       refine ⟨_, rfl, ?_⟩; clear Hz Az; intro Az Hz
       refine hK _ _ (m374.to ⟨il, il, il, trivial⟩) ?_; clear hK K
       refine goA hP351 [8, 9, 10] 3 255 2047 Hz (m374.to ⟨il, il, il, trivial⟩) (.gtr rfl rfl <| .pickF rfl rfl <| .move rfl <| .nil) ?_
       clear Hz Az; intro Az Hz
       refine bool_cases Hz (t := 65) rfl ?_ ?_
       ·
        clear Hz; intro hb379 Hz
        try simp only [Q1x, Q2x, Q3x, Q4x, Q5x, Q6x, Q7x, Q8x, Q9x, Q0x, Qax, Qbx] at hb379
        refine goA hP351 [11, 12, 13, 14] 4 2047 32767 Hz (m374.to ⟨il, il, il, trivial⟩) (.s <| .s <| .s <| .pickT rfl rfl <| .nil) ?_
        clear Hz Az; intro Az Hz
        refine wpAnyE_done (by kernel_rfl) ?_ _
        refine hK19 _ _ ?_; clear hK19; try clear K19
        refine wp_cond_true (Hz.ev (x := .tmp 69) rfl) ?_
        replace Hz : Has 94 [(1, _), (2, _)] Az := Hz.only [1, 2]
        refine regS Hz (.assign rfl <| .nil) ?_
        clear Hz Az; intro Az Hz
        refine wp_ret ?_
        try dsimp only [Exit.then, Exit.inBlock]
        refine (ret1 (fn := Tryz.f19) Hz rfl rfl ?_)
        exact ⟨false, rfl, iff_of_false (by simp) (fun h => by obtain ⟨v1, v2, v3, v4, v5, v6, v7, v8, v9⟩ := h; first | exact hN v1 | omega | (simp_all; done) | (simp_all; omega) | (have v10 := hpb.2 v8; simp_all; done) | (have v10 := v9 k hk; rw [getW hes] at v10; have v11 := hib.2 v10.2; simp_all; done) | (have v10 := v9 k hk; rw [getW hes] at v10; have v12 := v10.1; dsimp only at v12; omega)), m374.below⟩
       ·
        clear Hz; intro hb379 Hz
        try simp only [Q1x, Q2x, Q3x, Q4x, Q5x, Q6x, Q7x, Q8x, Q9x, Q0x, Qax, Qbx] at hb379
        refine goR hP351 [11] [11] 1 2047 4095 Hz (m374.to ⟨il, il, il, trivial⟩) (.loadBR hh (i := 20) rfl rfl Tryz.underlying28 rfl sz28rt (by simp) (by dsimp only [List.drop, List.take] <;> rfl) <| .nil) ?_
        clear Hz Az; intro Az Hz
        refine stepE_only 12 rfl (by kernel_rfl) (wantedG Hz rfl rfl rfl rfl) (fun K hK => ?_)
        refine e_call Hz Tryz.func38 rfl rfl rfl rfl (pins_any _ _ _ _ _ _ _ _ place pins ws _ _ _ _ _ _ _ ((h1.now' m374 rfl).any) hp) ?_
        rintro e w387 ⟨pb, rfl, hpb, hb387⟩
        have m388 := m374.later hb387
        clear m374
        clear hb387
        refine ⟨_, rfl, ?_⟩; clear Hz Az; intro Az Hz
        refine hK _ _ (m388.to ⟨il, il, il, trivial⟩) ?_; clear hK K
        refine goA hP351 [13, 14] 2 8191 32767 Hz (m388.to ⟨il, il, il, trivial⟩) (.not rfl <| .pickF rfl rfl <| .nil) ?_
        clear Hz Az; intro Az Hz
        refine wpAnyE_done (by kernel_rfl) ?_ _
        refine hK19 _ _ ?_; clear hK19; try clear K19
        refine bool_cases Hz (t := 69) rfl ?_ ?_
        ·
         clear Hz; intro hb392 Hz
         try simp only [Q1x, Q2x, Q3x, Q4x, Q5x, Q6x, Q7x, Q8x, Q9x, Q0x, Qax, Qbx] at hb392
         refine wp_cond_true (Hz.ev (x := .tmp 69) rfl) ?_
         replace Hz : Has 94 [(1, _), (2, _)] Az := Hz.only [1, 2]
         refine regS Hz (.assign rfl <| .nil) ?_
         clear Hz Az; intro Az Hz
         refine wp_ret ?_
         try dsimp only [Exit.then, Exit.inBlock]
         refine (ret1 (fn := Tryz.f19) Hz rfl rfl ?_)
         exact ⟨false, rfl, iff_of_false (by simp) (fun h => by obtain ⟨v1, v2, v3, v4, v5, v6, v7, v8, v9⟩ := h; first | exact hN v1 | omega | (simp_all; done) | (simp_all; omega) | (have v10 := hpb.2 v8; simp_all; done) | (have v10 := v9 k hk; rw [getW hes] at v10; have v11 := hib.2 v10.2; simp_all; done) | (have v10 := v9 k hk; rw [getW hes] at v10; have v12 := v10.1; dsimp only at v12; omega)), m388.below⟩
        ·
         clear Hz; intro hb392 Hz
         try simp only [Q1x, Q2x, Q3x, Q4x, Q5x, Q6x, Q7x, Q8x, Q9x, Q0x, Qax, Qbx] at hb392
         refine wp_cond_false (Hz.ev (x := .tmp 69) rfl) ?_
         refine wp_skip ?_
         refine hK18 _ _ ?_; clear hK18; try clear K18
         refine wp_seq_k (fun K20 hK20 => ?_)
         replace Hz : Has 94 [(1, _), (2, _)] Az := Hz.only [1, 2]
         refine regS Hz (.fieldAddr (off := 10) rfl Tryz.underlying28 rfl (s := 0) (by kernel_rfl) rfl <| .loadB1 m388 (i := 20) rfl rfl rfl Tryz.underlying26 rfl <| .len rfl Tryz.underlying26 <| .move rfl <| .nil) ?_
         clear Hz Az; intro Az Hz
         refine wp_block ?_
         refine wp_loop_ghost (fun g a w => ∃ (k B : Nat), k ≤ ws.length ∧ g = ws.length - k ∧ WrPre bl sz ws k ∧ Has 94 [(1, .pointer (some ⟨B, 0, none⟩)), (71, .slice pw ws.length cw), (72, .int .i64 ws.length), (73, .int .i64 k)] a ∧ MemOk (cn w0) w0 [(9, .box B 28 [.int .i64 vo, .int .i64 bl, .int .i64 sz, .int .i64 pe, .slice pp place.length cp, .int .i64 to, .int .i64 ne, .bool hi, .int .i64 fl, .slice pn pins.length cn9, .slice pw ws.length cw])] w) (ws.length) ?_ ?_
         · exact ⟨0, _, Nat.zero_le _, rfl, (fun j hj => by omega), Hz.only [1, 71, 72, 73], m388.ren [(9, 20)] (by decide)⟩
         ·
          clear Hz m388
          rintro g Az w400 ⟨k, B, hkl, hg, hall, Hz, m400⟩
          refine regS Hz (.lss rfl rfl <| .nil) ?_
          clear Hz Az; intro Az Hz
          refine wp_seq_k (fun K21 hK21 => ?_)
          refine bool_cases Hz (t := 74) rfl ?_ ?_
          ·
           clear Hz; intro hb402 Hz
           try simp only [Q1x, Q2x, Q3x, Q4x, Q5x, Q6x, Q7x, Q8x, Q9x, Q0x, Qax, Qbx] at hb402
           have hk : k < ws.length := by omega
           obtain ⟨⟨xs, xl⟩, hes⟩ : ∃ e, ws[k]? = some e := ⟨_, List.getElem?_eq_getElem hk⟩
           refine wp_cond_true (Hz.ev (x := .tmp 74) rfl) ?_
           refine wp_skip ?_
           refine hK21 _ _ ?_; clear hK21; try clear K21
           refine wp_seq_k (fun K22 hK22 => ?_)
           refine wp_block ?_
           refine wp_seq_k (fun K23 hK23 => ?_)
           refine wp_region_lit ?_
           refine goCh Hz (.move rfl .nil) ?_
           clear Hz Az; intro Az Hz
           obtain ⟨gx406, ox406, vx406, hp406, hl406, hR406, hrg406⟩ := h2.extA (k) (r := [.v (.int .i64 xs), .l 2 (xl.map itD)]) (wrD_get hes)
           cases hp406; clear hl406
           rcases hR406 with _ | ⟨hd406_0, _ | ⟨hd406_1, _ | _⟩⟩
           obtain rfl := hd406_0.v_out
           clear hd406_0
           obtain ⟨p407, c407, hv407, hw407⟩ := hd406_1.l_shape; subst hv407
           refine goCh Hz (.c rfl (fun _ h => y_idx h rfl rfl Tryz.underlying26 sz58rt (k) rfl hk) <| .loadAt (hrg406 m400 rfl) rfl Tryz.underlying58 rfl sz58rt <| .nil) ?_
           clear Hz Az; intro Az Hz
           refine wpList_plain rfl (fun K hK => ?_)
           refine e_alloc Hz m400 101 zc58rt rfl ?_
           clear Hz Az m400; intro g410 Az w411 Hz m411 hB411 hg411
           clear hB411 hg411
           refine hK _ _ ?_; clear hK K
           refine goCh Hz (.assign rfl .nil) ?_
           clear Hz Az; intro Az Hz
           refine wpList_plain rfl (fun K hK => ?_)
           refine e_storeW Hz m411 101 rfl rfl rfl rfl rfl sz58rt ?_
           clear m411; intro w413 m413 hB413
           clear hB413
           refine hK _ _ ?_; clear hK K
           refine wpList_nil ?_
           refine hK23 _ _ ?_; clear hK23; try clear K23
           refine wp_seq_k (fun K24 hK24 => ?_)
           refine wp_region_lit ?_
           refine goCh Hz (.fieldAddr (off := 0) rfl Tryz.underlying58 rfl (s := 0) (by kernel_rfl) rfl <| .loadB1 m413 (i := 101) rfl rfl rfl Tryz.underlying2 rfl <| .move rfl <| .add rfl rfl (r := ((k : Nat) : Int) + 1) (IntWalk.i64_in _ (by omega)) <| .neq rfl rfl <| .move rfl <| .nil) ?_
           clear Hz Az; intro Az Hz
           refine bool_cases Hz (t := 83) rfl ?_ ?_
           ·
            clear Hz; intro hb426 Hz
            try simp only [Q1x, Q2x, Q3x, Q4x, Q5x, Q6x, Q7x, Q8x, Q9x, Q0x, Qax, Qbx] at hb426
            refine goCh Hz (.sk <| .sk <| .sk <| .sk <| .sk <| .sk <| .sk <| .sk <| .pickT rfl rfl <| .nil) ?_
            clear Hz Az; intro Az Hz
            refine wpList_nil ?_
            refine hK24 _ _ ?_; clear hK24; try clear K24
            refine wp_cond_true (Hz.ev (x := .tmp 92) rfl) ?_
            replace Hz : Has 94 [(1, _), (71, _), (72, _), (73, _)] Az := Hz.only [1, 71, 72, 73]
            refine regS Hz (.assign rfl <| .nil) ?_
            clear Hz Az; intro Az Hz
            refine wp_ret ?_
            try dsimp only [Exit.then, Exit.inBlock]
            refine (ret1 (fn := Tryz.f19) Hz rfl rfl ?_)
            exact ⟨false, rfl, iff_of_false (by simp) (fun h => by obtain ⟨v1, v2, v3, v4, v5, v6, v7, v8, v9⟩ := h; first | exact hN v1 | omega | (simp_all; done) | (simp_all; omega) | (have v10 := hpb.2 v8; simp_all; done) | (have v10 := v9 k hk; rw [getW hes] at v10; have v11 := hib.2 v10.2; simp_all; done) | (have v10 := v9 k hk; rw [getW hes] at v10; have v12 := v10.1; dsimp only at v12; omega)), m413.below⟩
           ·
            clear Hz; intro hb426 Hz
            try simp only [Q1x, Q2x, Q3x, Q4x, Q5x, Q6x, Q7x, Q8x, Q9x, Q0x, Qax, Qbx] at hb426
            refine goCh Hz (.fieldAddrZ (off := 1) rfl Tryz.underlying28 rfl (s := 0) (by kernel_rfl) rfl <| .loadB1Z m413 (i := 9) rfl rfl rfl Tryz.underlying3 rfl <| .fieldAddrZ (off := 2) rfl Tryz.underlying28 rfl (s := 0) (by kernel_rfl) rfl <| .loadB1Z m413 (i := 9) rfl rfl rfl Tryz.underlying3 rfl <| .fieldAddrZ (off := 1) rfl Tryz.underlying58 rfl (s := 0) (by kernel_rfl) rfl <| .loadB1Z m413 (i := 101) rfl rfl rfl Tryz.underlying48 rfl <| .nil) ?_
            clear Hz Az; intro Az Hz
            refine st_ge Hz rfl rfl rfl rfl (fun K hK => ?_)
            refine e_call Hz Tryz.func39 rfl rfl rfl rfl (vitems_nn _ _ xl _ _ _ _ ((hd406_1.now' m413 rfl).any) (hwl _ (List.mem_of_getElem? hes))) ?_
            rintro e w444 ⟨ib, rfl, hib, hb444⟩
            have m445 := m413.later hb444
            clear m413
            clear hb444
            refine ⟨_, rfl, ?_⟩; clear Hz Az; intro Az Hz
            refine hK _ _ ?_; clear hK K
            refine goCh Hz (.notZ rfl <| .pickF rfl rfl <| .nil) ?_
            clear Hz Az; intro Az Hz
            refine wpList_nil ?_
            refine hK24 _ _ ?_; clear hK24; try clear K24
            refine bool_cases Hz (t := 92) rfl ?_ ?_
            ·
             clear Hz; intro hb449 Hz
             try simp only [Q1x, Q2x, Q3x, Q4x, Q5x, Q6x, Q7x, Q8x, Q9x, Q0x, Qax, Qbx] at hb449
             refine wp_cond_true (Hz.ev (x := .tmp 92) rfl) ?_
             replace Hz : Has 94 [(1, _), (71, _), (72, _), (73, _)] Az := Hz.only [1, 71, 72, 73]
             refine regS Hz (.assign rfl <| .nil) ?_
             clear Hz Az; intro Az Hz
             refine wp_ret ?_
             try dsimp only [Exit.then, Exit.inBlock]
             refine (ret1 (fn := Tryz.f19) Hz rfl rfl ?_)
             exact ⟨false, rfl, iff_of_false (by simp) (fun h => by obtain ⟨v1, v2, v3, v4, v5, v6, v7, v8, v9⟩ := h; first | exact hN v1 | omega | (simp_all; done) | (simp_all; omega) | (have v10 := hpb.2 v8; simp_all; done) | (have v10 := v9 k hk; rw [getW hes] at v10; have v11 := hib.2 v10.2; simp_all; done) | (have v10 := v9 k hk; rw [getW hes] at v10; have v12 := v10.1; dsimp only at v12; omega)), m445.below⟩
            ·
             clear Hz; intro hb449 Hz
             try simp only [Q1x, Q2x, Q3x, Q4x, Q5x, Q6x, Q7x, Q8x, Q9x, Q0x, Qax, Qbx] at hb449
             refine wp_cond_false (Hz.ev (x := .tmp 92) rfl) ?_
             refine wp_skip ?_
             refine hK22 _ _ ?_; clear hK22; try clear K22
             replace Hz : Has 94 [(1, _), (71, _), (72, _), (73, _)] Az := Hz.only [1, 71, 72, 73]
             refine wp_region_lit ?_
             refine goCh Hz (.add rfl rfl (r := ((k + 1 : Nat) : Int)) (by rw [IntWalk.i64_in _ (by omega)]; omega) <| .move rfl <| .nil) ?_
             clear Hz Az; intro Az Hz
             refine wpList_nil ?_
             show ∃ n', n' < _ ∧ _
             exact ⟨ws.length - (k + 1), by omega, k + 1, _, by omega, rfl, wr_snoc hall hes (by omega) (hib.1 (by simp_all)), Hz.only [1, 71, 72, 73], m445.only [9]⟩
          ·
           clear Hz; intro hb402 Hz
           try simp only [Q1x, Q2x, Q3x, Q4x, Q5x, Q6x, Q7x, Q8x, Q9x, Q0x, Qax, Qbx] at hb402
           obtain rfl : k = ws.length := by omega
           refine wp_cond_false (Hz.ev (x := .tmp 74) rfl) ?_
           refine wp_exit ?_
           refine hK20 _ _ ?_; clear hK20; try clear K20
           refine regS Hz (.assign rfl <| .nil) ?_
           clear Hz Az; intro Az Hz
           refine wp_ret ?_
           try dsimp only [Exit.then, Exit.inBlock]
           refine (ret1 (fn := Tryz.f19) Hz rfl rfl ?_)
           exact ⟨true, rfl, iff_of_true rfl ⟨hN, by omega, by omega, by simp_all, by simp_all, by omega, by omega, hpb.1 (by simp_all), hall⟩, m400.below⟩
    ·
     clear Hz; intro hb338 Hz
     try simp only [Q1x, Q2x, Q3x, Q4x, Q5x, Q6x, Q7x, Q8x, Q9x, Q0x, Qax, Qbx] at hb338
     refine goCh Hz (.sk <| .sk <| .sk <| .sk <| .sk <| .pickFZ rfl rfl <| .pickF rfl rfl <| .nil) ?_
     clear Hz Az; intro Az Hz
     refine wpList_nil ?_
     refine hK3 _ _ ?_; clear hK3; try clear K3
     refine wp_cond_false (Hz.ev (x := .tmp 54) rfl) ?_
     refine wp_skip ?_
     refine hK2 _ _ ?_; clear hK2; try clear K2
     refine wp_seq_k (fun K25 hK25 => ?_)
     refine wp_seq_k (fun K26 hK26 => ?_)
     replace Hz : Has 94 [(1, _), (2, _)] Az := Hz.only [1, 2]
     have m464 : MemOk _ _ [(20, _), (21, _), (22, _)] _ := m40.only [20, 21, 22]; clear m40
     refine region_p 15 (B := [(20, _), (21, _), (22, _)]) (m464.to ⟨il, il, il, trivial⟩) m464 (by kernel_rfl) (fun w465 hP465 m465 => ?_); clear m464
     refine goR hP465 [0, 1, 2, 3] [1] 4 0 15 Hz (m465.to ⟨il, il, il, trivial⟩) (.fieldAddr (off := 8) rfl Tryz.underlying28 rfl (s := 0) (by kernel_rfl) rfl <| .loadB1 hh (i := 20) rfl rfl rfl Tryz.underlying2 rfl <| .lss rfl rfl <| .move rfl <| .nil) ?_
     clear Hz Az; intro Az Hz
     refine bool_cases Hz (t := 58) rfl ?_ ?_
     ·
      clear Hz; intro hb470 Hz
      try simp only [Q1x, Q2x, Q3x, Q4x, Q5x, Q6x, Q7x, Q8x, Q9x, Q0x, Qax, Qbx] at hb470
      refine goA hP465 [4, 5, 6, 7, 8, 9, 10, 11, 12, 13, 14] 11 15 32767 Hz (m465.to ⟨il, il, il, trivial⟩) (.s <| .s <| .s <| .s <| .s <| .pickT rfl rfl <| .move rfl <| .s <| .s <| .s <| .pickT rfl rfl <| .nil) ?_
      clear Hz Az; intro Az Hz
      refine wpAnyE_done (by kernel_rfl) ?_ _
      refine hK26 _ _ ?_; clear hK26; try clear K26
      refine wp_cond_true (Hz.ev (x := .tmp 69) rfl) ?_
      replace Hz : Has 94 [(1, _), (2, _)] Az := Hz.only [1, 2]
      refine regS Hz (.assign rfl <| .nil) ?_
      clear Hz Az; intro Az Hz
      refine wp_ret ?_
      try dsimp only [Exit.then, Exit.inBlock]
      refine (ret1 (fn := Tryz.f19) Hz rfl rfl ?_)
      exact ⟨false, rfl, iff_of_false (by simp) (fun h => by obtain ⟨v1, v2, v3, v4, v5, v6, v7, v8, v9⟩ := h; first | exact hN v1 | omega | (simp_all; done) | (simp_all; omega) | (have v10 := hpb.2 v8; simp_all; done) | (have v10 := v9 k hk; rw [getW hes] at v10; have v11 := hib.2 v10.2; simp_all; done) | (have v10 := v9 k hk; rw [getW hes] at v10; have v12 := v10.1; dsimp only at v12; omega)), m465.below⟩
     ·
      clear Hz; intro hb470 Hz
      try simp only [Q1x, Q2x, Q3x, Q4x, Q5x, Q6x, Q7x, Q8x, Q9x, Q0x, Qax, Qbx] at hb470
      refine goR hP465 [4, 5, 6] [5, 6] 3 15 127 Hz (m465.to ⟨il, il, il, trivial⟩) (.fieldAddr (off := 8) rfl Tryz.underlying28 rfl (s := 0) (by kernel_rfl) rfl <| .loadB1 hh (i := 20) rfl rfl rfl Tryz.underlying2 rfl <| .loadBR hh (i := 20) rfl rfl Tryz.underlying28 rfl sz28rt (by simp) (by dsimp only [List.drop, List.take] <;> rfl) <| .nil) ?_
      clear Hz Az; intro Az Hz
      refine stepE_only 7 rfl (by kernel_rfl) (wantedG Hz rfl rfl rfl rfl) (fun K hK => ?_)
      refine e_call Hz Tryz.func18 rfl rfl rfl rfl (vlen_any _ _ _ _ _ _ _ _ _ _ _ _ _ _ _ _ _ _) ?_
      rintro e w487 ⟨rfl, hb487⟩
      have m488 := m465.later hb487
      clear m465
      clear hb487
      refine ⟨_, rfl, ?_⟩; clear Hz Az; intro Az Hz
      refine hK _ _ (m488.to ⟨il, il, il, trivial⟩) ?_; clear hK K
      refine goA hP465 [8, 9, 10] 3 255 2047 Hz (m488.to ⟨il, il, il, trivial⟩) (.gtr rfl rfl <| .pickF rfl rfl <| .move rfl <| .nil) ?_
      clear Hz Az; intro Az Hz
      refine bool_cases Hz (t := 65) rfl ?_ ?_
      ·
       clear Hz; intro hb493 Hz
       try simp only [Q1x, Q2x, Q3x, Q4x, Q5x, Q6x, Q7x, Q8x, Q9x, Q0x, Qax, Qbx] at hb493
       refine goA hP465 [11, 12, 13, 14] 4 2047 32767 Hz (m488.to ⟨il, il, il, trivial⟩) (.s <| .s <| .s <| .pickT rfl rfl <| .nil) ?_
       clear Hz Az; intro Az Hz
       refine wpAnyE_done (by kernel_rfl) ?_ _
       refine hK26 _ _ ?_; clear hK26; try clear K26
       refine wp_cond_true (Hz.ev (x := .tmp 69) rfl) ?_
       replace Hz : Has 94 [(1, _), (2, _)] Az := Hz.only [1, 2]
       refine regS Hz (.assign rfl <| .nil) ?_
       clear Hz Az; intro Az Hz
       refine wp_ret ?_
       try dsimp only [Exit.then, Exit.inBlock]
       refine (ret1 (fn := Tryz.f19) Hz rfl rfl ?_)
       exact ⟨false, rfl, iff_of_false (by simp) (fun h => by obtain ⟨v1, v2, v3, v4, v5, v6, v7, v8, v9⟩ := h; first | exact hN v1 | omega | (simp_all; done) | (simp_all; omega) | (have v10 := hpb.2 v8; simp_all; done) | (have v10 := v9 k hk; rw [getW hes] at v10; have v11 := hib.2 v10.2; simp_all; done) | (have v10 := v9 k hk; rw [getW hes] at v10; have v12 := v10.1; dsimp only at v12; omega)), m488.below⟩
      ·
       clear Hz; intro hb493 Hz
       try simp only [Q1x, Q2x, Q3x, Q4x, Q5x, Q6x, Q7x, Q8x, Q9x, Q0x, Qax, Qbx] at hb493
       refine goR hP465 [11] [11] 1 2047 4095 Hz (m488.to ⟨il, il, il, trivial⟩) (.loadBR hh (i := 20) rfl rfl Tryz.underlying28 rfl sz28rt (by simp) (by dsimp only [List.drop, List.take] <;> rfl) <| .nil) ?_
       clear Hz Az; intro Az Hz
       refine stepE_only 12 rfl (by kernel_rfl) (wantedG Hz rfl rfl rfl rfl) (fun K hK => ?_)
       refine e_call Hz Tryz.func38 rfl rfl rfl rfl (pins_any _ _ _ _ _ _ _ _ place pins ws _ _ _ _ _ _ _ ((h1.now' m488 rfl).any) hp) ?_
       rintro e w501 ⟨pb, rfl, hpb, hb501⟩
       have m502 := m488.later hb501
       clear m488
       clear hb501
       refine ⟨_, rfl, ?_⟩; clear Hz Az; intro Az Hz
       refine hK _ _ (m502.to ⟨il, il, il, trivial⟩) ?_; clear hK K
       refine goA hP465 [13, 14] 2 8191 32767 Hz (m502.to ⟨il, il, il, trivial⟩) (.not rfl <| .pickF rfl rfl <| .nil) ?_
       clear Hz Az; intro Az Hz
       refine wpAnyE_done (by kernel_rfl) ?_ _
       refine hK26 _ _ ?_; clear hK26; try clear K26
       refine bool_cases Hz (t := 69) rfl ?_ ?_
       ·
        clear Hz; intro hb506 Hz
        try simp only [Q1x, Q2x, Q3x, Q4x, Q5x, Q6x, Q7x, Q8x, Q9x, Q0x, Qax, Qbx] at hb506
        refine wp_cond_true (Hz.ev (x := .tmp 69) rfl) ?_
        replace Hz : Has 94 [(1, _), (2, _)] Az := Hz.only [1, 2]
        refine regS Hz (.assign rfl <| .nil) ?_
        clear Hz Az; intro Az Hz
        refine wp_ret ?_
        try dsimp only [Exit.then, Exit.inBlock]
        refine (ret1 (fn := Tryz.f19) Hz rfl rfl ?_)
        exact ⟨false, rfl, iff_of_false (by simp) (fun h => by obtain ⟨v1, v2, v3, v4, v5, v6, v7, v8, v9⟩ := h; first | exact hN v1 | omega | (simp_all; done) | (simp_all; omega) | (have v10 := hpb.2 v8; simp_all; done) | (have v10 := v9 k hk; rw [getW hes] at v10; have v11 := hib.2 v10.2; simp_all; done) | (have v10 := v9 k hk; rw [getW hes] at v10; have v12 := v10.1; dsimp only at v12; omega)), m502.below⟩
       ·
        clear Hz; intro hb506 Hz
        try simp only [Q1x, Q2x, Q3x, Q4x, Q5x, Q6x, Q7x, Q8x, Q9x, Q0x, Qax, Qbx] at hb506
        refine wp_cond_false (Hz.ev (x := .tmp 69) rfl) ?_
        refine wp_skip ?_
        refine hK25 _ _ ?_; clear hK25; try clear K25
        refine wp_seq_k (fun K27 hK27 => ?_)
        replace Hz : Has 94 [(1, _), (2, _)] Az := Hz.only [1, 2]
        refine regS Hz (.fieldAddr (off := 10) rfl Tryz.underlying28 rfl (s := 0) (by kernel_rfl) rfl <| .loadB1 m502 (i := 20) rfl rfl rfl Tryz.underlying26 rfl <| .len rfl Tryz.underlying26 <| .move rfl <| .nil) ?_
        clear Hz Az; intro Az Hz
        refine wp_block ?_
        refine wp_loop_ghost (fun g a w => ∃ (k B : Nat), k ≤ ws.length ∧ g = ws.length - k ∧ WrPre bl sz ws k ∧ Has 94 [(1, .pointer (some ⟨B, 0, none⟩)), (71, .slice pw ws.length cw), (72, .int .i64 ws.length), (73, .int .i64 k)] a ∧ MemOk (cn w0) w0 [(9, .box B 28 [.int .i64 vo, .int .i64 bl, .int .i64 sz, .int .i64 pe, .slice pp place.length cp, .int .i64 to, .int .i64 ne, .bool hi, .int .i64 fl, .slice pn pins.length cn9, .slice pw ws.length cw])] w) (ws.length) ?_ ?_
        · exact ⟨0, _, Nat.zero_le _, rfl, (fun j hj => by omega), Hz.only [1, 71, 72, 73], m502.ren [(9, 20)] (by decide)⟩
        ·
         clear Hz m502
         rintro g Az w514 ⟨k, B, hkl, hg, hall, Hz, m514⟩
         refine regS Hz (.lss rfl rfl <| .nil) ?_
         clear Hz Az; intro Az Hz
         refine wp_seq_k (fun K28 hK28 => ?_)
         refine bool_cases Hz (t := 74) rfl ?_ ?_
         ·
          clear Hz; intro hb516 Hz
          try simp only [Q1x, Q2x, Q3x, Q4x, Q5x, Q6x, Q7x, Q8x, Q9x, Q0x, Qax, Qbx] at hb516
          have hk : k < ws.length := by omega
          obtain ⟨⟨xs, xl⟩, hes⟩ : ∃ e, ws[k]? = some e := ⟨_, List.getElem?_eq_getElem hk⟩
          refine wp_cond_true (Hz.ev (x := .tmp 74) rfl) ?_
          refine wp_skip ?_
          refine hK28 _ _ ?_; clear hK28; try clear K28
          refine wp_seq_k (fun K29 hK29 => ?_)
          refine wp_block ?_
          refine wp_seq_k (fun K30 hK30 => ?_)
          refine wp_region_lit ?_
          refine goCh Hz (.move rfl .nil) ?_
          clear Hz Az; intro Az Hz
          obtain ⟨gx520, ox520, vx520, hp520, hl520, hR520, hrg520⟩ := h2.extA (k) (r := [.v (.int .i64 xs), .l 2 (xl.map itD)]) (wrD_get hes)
          cases hp520; clear hl520
          rcases hR520 with _ | ⟨hd520_0, _ | ⟨hd520_1, _ | _⟩⟩
          obtain rfl := hd520_0.v_out
          clear hd520_0
          obtain ⟨p521, c521, hv521, hw521⟩ := hd520_1.l_shape; subst hv521
          refine goCh Hz (.c rfl (fun _ h => y_idx h rfl rfl Tryz.underlying26 sz58rt (k) rfl hk) <| .loadAt (hrg520 m514 rfl) rfl Tryz.underlying58 rfl sz58rt <| .nil) ?_
          clear Hz Az; intro Az Hz
          refine wpList_plain rfl (fun K hK => ?_)
          refine e_alloc Hz m514 101 zc58rt rfl ?_
          clear Hz Az m514; intro g524 Az w525 Hz m525 hB525 hg525
          clear hB525 hg525
          refine hK _ _ ?_; clear hK K
          refine goCh Hz (.assign rfl .nil) ?_
          clear Hz Az; intro Az Hz
          refine wpList_plain rfl (fun K hK => ?_)
          refine e_storeW Hz m525 101 rfl rfl rfl rfl rfl sz58rt ?_
          clear m525; intro w527 m527 hB527
          clear hB527
          refine hK _ _ ?_; clear hK K
          refine wpList_nil ?_
          refine hK30 _ _ ?_; clear hK30; try clear K30
          refine wp_seq_k (fun K31 hK31 => ?_)
          refine wp_region_lit ?_
          refine goCh Hz (.fieldAddr (off := 0) rfl Tryz.underlying58 rfl (s := 0) (by kernel_rfl) rfl <| .loadB1 m527 (i := 101) rfl rfl rfl Tryz.underlying2 rfl <| .move rfl <| .add rfl rfl (r := ((k : Nat) : Int) + 1) (IntWalk.i64_in _ (by omega)) <| .neq rfl rfl <| .move rfl <| .nil) ?_
          clear Hz Az; intro Az Hz
          refine bool_cases Hz (t := 83) rfl ?_ ?_
          ·
           clear Hz; intro hb540 Hz
           try simp only [Q1x, Q2x, Q3x, Q4x, Q5x, Q6x, Q7x, Q8x, Q9x, Q0x, Qax, Qbx] at hb540
           refine goCh Hz (.sk <| .sk <| .sk <| .sk <| .sk <| .sk <| .sk <| .sk <| .pickT rfl rfl <| .nil) ?_
           clear Hz Az; intro Az Hz
           refine wpList_nil ?_
           refine hK31 _ _ ?_; clear hK31; try clear K31
           refine wp_cond_true (Hz.ev (x := .tmp 92) rfl) ?_
           replace Hz : Has 94 [(1, _), (71, _), (72, _), (73, _)] Az := Hz.only [1, 71, 72, 73]
           refine regS Hz (.assign rfl <| .nil) ?_
           clear Hz Az; intro Az Hz
           refine wp_ret ?_
           try dsimp only [Exit.then, Exit.inBlock]
           refine (ret1 (fn := Tryz.f19) Hz rfl rfl ?_)
           exact ⟨false, rfl, iff_of_false (by simp) (fun h => by obtain ⟨v1, v2, v3, v4, v5, v6, v7, v8, v9⟩ := h; first | exact hN v1 | omega | (simp_all; done) | (simp_all; omega) | (have v10 := hpb.2 v8; simp_all; done) | (have v10 := v9 k hk; rw [getW hes] at v10; have v11 := hib.2 v10.2; simp_all; done) | (have v10 := v9 k hk; rw [getW hes] at v10; have v12 := v10.1; dsimp only at v12; omega)), m527.below⟩
          ·
           clear Hz; intro hb540 Hz
           try simp only [Q1x, Q2x, Q3x, Q4x, Q5x, Q6x, Q7x, Q8x, Q9x, Q0x, Qax, Qbx] at hb540
           refine goCh Hz (.fieldAddrZ (off := 1) rfl Tryz.underlying28 rfl (s := 0) (by kernel_rfl) rfl <| .loadB1Z m527 (i := 9) rfl rfl rfl Tryz.underlying3 rfl <| .fieldAddrZ (off := 2) rfl Tryz.underlying28 rfl (s := 0) (by kernel_rfl) rfl <| .loadB1Z m527 (i := 9) rfl rfl rfl Tryz.underlying3 rfl <| .fieldAddrZ (off := 1) rfl Tryz.underlying58 rfl (s := 0) (by kernel_rfl) rfl <| .loadB1Z m527 (i := 101) rfl rfl rfl Tryz.underlying48 rfl <| .nil) ?_
           clear Hz Az; intro Az Hz
           refine st_ge Hz rfl rfl rfl rfl (fun K hK => ?_)
           refine e_call Hz Tryz.func39 rfl rfl rfl rfl (vitems_nn _ _ xl _ _ _ _ ((hd520_1.now' m527 rfl).any) (hwl _ (List.mem_of_getElem? hes))) ?_
           rintro e w558 ⟨ib, rfl, hib, hb558⟩
           have m559 := m527.later hb558
           clear m527
           clear hb558
           refine ⟨_, rfl, ?_⟩; clear Hz Az; intro Az Hz
           refine hK _ _ ?_; clear hK K
           refine goCh Hz (.notZ rfl <| .pickF rfl rfl <| .nil) ?_
           clear Hz Az; intro Az Hz
           refine wpList_nil ?_
           refine hK31 _ _ ?_; clear hK31; try clear K31
           refine bool_cases Hz (t := 92) rfl ?_ ?_
           ·
            clear Hz; intro hb563 Hz
            try simp only [Q1x, Q2x, Q3x, Q4x, Q5x, Q6x, Q7x, Q8x, Q9x, Q0x, Qax, Qbx] at hb563
            refine wp_cond_true (Hz.ev (x := .tmp 92) rfl) ?_
            replace Hz : Has 94 [(1, _), (71, _), (72, _), (73, _)] Az := Hz.only [1, 71, 72, 73]
            refine regS Hz (.assign rfl <| .nil) ?_
            clear Hz Az; intro Az Hz
            refine wp_ret ?_
            try dsimp only [Exit.then, Exit.inBlock]
            refine (ret1 (fn := Tryz.f19) Hz rfl rfl ?_)
            exact ⟨false, rfl, iff_of_false (by simp) (fun h => by obtain ⟨v1, v2, v3, v4, v5, v6, v7, v8, v9⟩ := h; first | exact hN v1 | omega | (simp_all; done) | (simp_all; omega) | (have v10 := hpb.2 v8; simp_all; done) | (have v10 := v9 k hk; rw [getW hes] at v10; have v11 := hib.2 v10.2; simp_all; done) | (have v10 := v9 k hk; rw [getW hes] at v10; have v12 := v10.1; dsimp only at v12; omega)), m559.below⟩
           ·
            clear Hz; intro hb563 Hz
            try simp only [Q1x, Q2x, Q3x, Q4x, Q5x, Q6x, Q7x, Q8x, Q9x, Q0x, Qax, Qbx] at hb563
            refine wp_cond_false (Hz.ev (x := .tmp 92) rfl) ?_
            refine wp_skip ?_
            refine hK29 _ _ ?_; clear hK29; try clear K29
            replace Hz : Has 94 [(1, _), (71, _), (72, _), (73, _)] Az := Hz.only [1, 71, 72, 73]
            refine wp_region_lit ?_
            refine goCh Hz (.add rfl rfl (r := ((k + 1 : Nat) : Int)) (by rw [IntWalk.i64_in _ (by omega)]; omega) <| .move rfl <| .nil) ?_
            clear Hz Az; intro Az Hz
            refine wpList_nil ?_
            show ∃ n', n' < _ ∧ _
            exact ⟨ws.length - (k + 1), by omega, k + 1, _, by omega, rfl, wr_snoc hall hes (by omega) (hib.1 (by simp_all)), Hz.only [1, 71, 72, 73], m559.only [9]⟩
         ·
          clear Hz; intro hb516 Hz
          try simp only [Q1x, Q2x, Q3x, Q4x, Q5x, Q6x, Q7x, Q8x, Q9x, Q0x, Qax, Qbx] at hb516
          obtain rfl : k = ws.length := by omega
          refine wp_cond_false (Hz.ev (x := .tmp 74) rfl) ?_
          refine wp_exit ?_
          refine hK27 _ _ ?_; clear hK27; try clear K27
          refine regS Hz (.assign rfl <| .nil) ?_
          clear Hz Az; intro Az Hz
          refine wp_ret ?_
          try dsimp only [Exit.then, Exit.inBlock]
          refine (ret1 (fn := Tryz.f19) Hz rfl rfl ?_)
          exact ⟨true, rfl, iff_of_true rfl ⟨hN, by omega, by omega, by simp_all, by simp_all, by omega, by omega, hpb.1 (by simp_all), hall⟩, m514.below⟩
 ·
  refine wp_region_lit ?_
  refine goCh Hz (.fieldAddr (off := 0) rfl Tryz.underlying28 rfl (s := 0) (by kernel_rfl) rfl <| .loadB1 m2 (i := 20) rfl rfl rfl Tryz.underlying3 rfl <| .fieldAddr (off := 1) rfl Tryz.underlying28 rfl (s := 0) (by kernel_rfl) rfl <| .loadB1 m2 (i := 20) rfl rfl rfl Tryz.underlying3 rfl <| .fieldAddr (off := 2) rfl Tryz.underlying28 rfl (s := 0) (by kernel_rfl) rfl <| .loadB1 m2 (i := 20) rfl rfl rfl Tryz.underlying3 rfl <| .fieldAddr (off := 3) rfl Tryz.underlying28 rfl (s := 0) (by kernel_rfl) rfl <| .loadB1 m2 (i := 20) rfl rfl rfl Tryz.underlying3 rfl <| .fieldAddr (off := 4) rfl Tryz.underlying28 rfl (s := 0) (by kernel_rfl) rfl <| .loadB1 m2 (i := 20) rfl rfl rfl Tryz.underlying24 rfl <| .fieldAddr (off := 5) rfl Tryz.underlying28 rfl (s := 0) (by kernel_rfl) rfl <| .loadB1 m2 (i := 20) rfl rfl rfl Tryz.underlying3 rfl <| .build rfl zc50rt fl50rt rfl (by dsimp only [setL, List.set] <;> rfl) <| .nil) ?_
  clear Hz Az; intro Az Hz
  refine wpList_plain rfl (fun K hK => ?_)
  refine e_call Hz Tryz.func17 rfl rfl rfl rfl (vnew_no _ _ _ _ _ _ _ _ place _ _ _ _ _ _ ((h0.now' m2 rfl).any) hn hN) ?_
  rintro e w583 ⟨rfl, hb583⟩
  have m584 := m2.later hb583
  clear m2
  clear hb583
  refine ⟨_, rfl, ?_⟩; clear Hz Az; intro Az Hz
  refine hK _ _ ?_; clear hK K
  refine goCh Hz (.move rfl <| .extract rfl rfl <| .extract rfl rfl <| .nil) ?_
  clear Hz Az; intro Az Hz
  refine wpList_plain rfl (fun K hK => ?_)
  refine e_alloc Hz m584 21 zc28rt rfl ?_
  clear Hz Az m584; intro g589 Az w590 Hz m590 hB590 hg590
  clear hB590 hg590
  refine hK _ _ ?_; clear hK K
  refine wpList_plain rfl (fun K hK => ?_)
  refine e_storeW Hz m590 21 rfl rfl rfl rfl rfl sz28rt ?_
  clear m590; intro w591 m591 hB591
  clear hB591
  refine hK _ _ ?_; clear hK K
  refine goCh Hz (.assign rfl .nil) ?_
  clear Hz Az; intro Az Hz
  refine wpList_nil ?_
  refine hK1 _ _ ?_; clear hK1; try clear K1
  refine wp_seq_k (fun K32 hK32 => ?_)
  replace Hz : Has 94 [(1, _), (2, _), (4, _)] Az := Hz.only [1, 2, 4]
  refine wp_seq_k (fun K33 hK33 => ?_)
  refine wp_region_lit ?_
  refine goCh Hz (.move rfl <| .neq rfl rfl <| .move rfl <| .nil) ?_
  clear Hz Az; intro Az Hz
  refine bool_cases Hz (t := 26) rfl ?_ ?_
  rotate_left
  · intro hb _; exact absurd hb (by simp)
  clear Hz; intro _ Hz
  refine goCh Hz (.sk <| .sk <| .sk <| .sk <| .sk <| .sk <| .pickT rfl rfl <| .move rfl <| .sk <| .sk <| .sk <| .nil) ?_
  clear Hz Az; intro Az Hz
  refine st_skipU Hz rfl rfl rfl rfl ?_
  clear Hz Az; intro Az Hz
  refine st_skipU Hz rfl rfl rfl rfl ?_
  clear Hz Az; intro Az Hz
  refine st_skipU Hz rfl rfl rfl rfl ?_
  clear Hz Az; intro Az Hz
  refine goCh Hz (.sk <| .pickT rfl rfl <| .move rfl <| .sk <| .sk <| .sk <| .sk <| .nil) ?_
  clear Hz Az; intro Az Hz
  refine st_skipU Hz rfl rfl rfl rfl ?_
  clear Hz Az; intro Az Hz
  refine st_skipU Hz rfl rfl rfl rfl ?_
  clear Hz Az; intro Az Hz
  refine st_skipU Hz rfl rfl rfl rfl ?_
  clear Hz Az; intro Az Hz
  refine st_skipU Hz rfl rfl rfl rfl ?_
  clear Hz Az; intro Az Hz
  refine st_skipU Hz rfl rfl rfl rfl ?_
  clear Hz Az; intro Az Hz
  refine goCh Hz (.sk <| .pickT rfl rfl <| .nil) ?_
  clear Hz Az; intro Az Hz
  refine wpList_nil ?_
  refine hK33 _ _ ?_; clear hK33; try clear K33
  refine wp_cond_true (Hz.ev (x := .tmp 54) rfl) ?_
  replace Hz : Has 94 [(1, _), (2, _)] Az := Hz.only [1, 2]
  refine regS Hz (.assign rfl <| .nil) ?_
  clear Hz Az; intro Az Hz
  refine wp_ret ?_
  try dsimp only [Exit.then, Exit.inBlock]
  refine (ret1 (fn := Tryz.f19) Hz rfl rfl ?_)
  exact ⟨false, rfl, iff_of_false (by simp) (fun h => by obtain ⟨v1, v2, v3, v4, v5, v6, v7, v8, v9⟩ := h; first | exact hN v1 | omega | (simp_all; done) | (simp_all; omega) | (have v10 := hpb.2 v8; simp_all; done) | (have v10 := v9 k hk; rw [getW hes] at v10; have v11 := hib.2 v10.2; simp_all; done) | (have v10 := v9 k hk; rw [getW hes] at v10; have v12 := v10.1; dsimp only at v12; omega)), m591.below⟩
end Go.Proofs.YtocfbocdnklllaaGreat.K
