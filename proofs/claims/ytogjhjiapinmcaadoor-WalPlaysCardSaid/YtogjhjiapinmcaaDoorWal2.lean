/- wal: part. -/
import Derived.Test.YtogjhjiapinmcaaDoorWal1
namespace Go.Proofs.YtogjhjiapinmcaaDoor.K
open Go.ChangeShapes Go.WideShapes Go.ChangeAt Go.RowKit
set_option linter.unusedVariables false
set_option linter.unusedSimpArgs false

theorem sz5wp1 : (Tryd.prog.info? 5).map (·.size) = some 1 := by kernel_rfl


set_option maxRecDepth 100000
set_option maxHeartbeats 4000000
theorem kread_x {B S : Nat} {vu : Value} {secs : List (List Int)} {uns : List Un} {l : Int} {w : World} (h : IsDisk w B S vu secs uns l) (n : Nat) (hn : n < secs.length) (i : Int) (hi : i = n) :
   Calls Tryd.prog 57 #[.pointer (some ⟨B, 0, none⟩), .int .i64 i] w fun e w' => ∃ (p : Option Addr) (c : Nat), e = .returned (.slice p (secs.getD n []).length c) ∧ w'.ownsRow w.heap.size 5 1 (.slice p (secs.getD n []).length c) (secs.getD n []).length ((secs.getD n []).map (Value.int .u8)) ∧ (secs.getD n []).length ≤ c ∧ Below w.heap.size w w' := by
 subst hi
 refine (read_disk h n hn).mono fun e w' hh => ?_
 obtain ⟨u, rfl, hown, hb⟩ := hh
 have hs : (secs.getD n []).length = 64 := (sec_get h.secs_ok hn).1
 rw [← hs] at hown
 obtain ⟨p, c, rfl⟩ := ownsRow_shape hown
 refine ⟨p, c, rfl, hown, ?_, hb⟩
 rcases hown.2 with ⟨e1, e2⟩ | ⟨g, cap, cur, e1, _, _, h3, _⟩
 · omega
 · injection e1 with _ _ e3; omega
theorem kread_no {B S : Nat} {vu : Value} {secs : List (List Int)} {uns : List Un} {l : Int} {w : World} (h : IsDisk w B S vu secs uns l) (i : Int) (hi : ¬ (0 ≤ i ∧ i < secs.length)) :
   Calls Tryd.prog 57 #[.pointer (some ⟨B, 0, none⟩), .int .i64 i] w fun e w' => e = .returned (.slice none 0 0) ∧ Below w.heap.size w w' := by
 refine (read_none h i hi).mono fun e w' hh => ?_
 obtain ⟨rfl, rfl⟩ := hh
 exact ⟨rfl, Below.refl _ _⟩
theorem equal_x {S1 S2 : Nat → Prop} (xs ys : List Int) (u v : Value) (w : World) (hu : NumsS S1 .u8 w u xs) (hv : NumsS S2 .u8 w v ys) (hx : ∀ x ∈ xs, 0 ≤ x ∧ x ≤ 255) (hy : ∀ x ∈ ys, 0 ≤ x ∧ x ≤ 255) :
   Calls Tryd.prog 58 #[u, v] w fun e w' => e = .returned (.bool (decide (xs = ys))) ∧ Below w.heap.size w w' := by
 refine (equal_any w u v xs ys hu.nums hv.nums hx hy).mono fun e w' hh => ?_
 obtain ⟨rfl, rfl⟩ := hh
 exact ⟨rfl, Below.refl _ _⟩
theorem y_sliceLHn {P : Program} {n : Nat} {T : List (Nat × Value)} {a : Act} {w : World} {d : Option Tmp} {tt : TypeId} {pos : String} {af : Array Edge} {gd : Option (Nat × Bool)} (h : Has n T a) {t e : TypeId} {x y z : Operand} {p : Option Addr} {l c : Nat} {k k2 : IntKind} {q r : Int} (i j : Nat) (hx : evT T x = some (.slice p l c)) (hy : evT T y = some (.int k q)) (hz : evT T z = some (.int k2 r)) (hu : P.underlying t = some (.slice e)) {s : Nat} (hs : (P.info? e).map (·.size) = some s) (hq : q = i) (hr : r = j) (h1 : i ≤ j) (h2 : j ≤ c) : Yl P a w ⟨d, .slice t x (some y) (some z) none, tt, pos, af, gd⟩ (.slice (if c = i then p else p.map (·.add (i * s))) (j - i) (c - i)) := by
 subst hq; subst hr
 have := y_sliceLH (P := P) (w := w) (d := d) (tt := tt) (pos := pos) (af := af) (gd := gd) h hx hy hz hu hs (by omega) (by omega) (by omega)
 simpa using this
def partV (secs : List (List Int)) (i gn : Int) : Option (List Int) :=
 if 0 ≤ i ∧ i < secs.length ∧ (secs.getD i.toNat []).take 8 = genB gn ∧ (secs.getD i.toNat []).drop 56 = genB gn then some (((secs.getD i.toNat []).take 56).drop 8) else none
def PartR (w0 w' : World) (e : Ending) : Option (List Int) → Prop
 | none => e = .returned (.tuple #[.slice none 0 0, .bool false])
 | some x => ∃ (p : Option Addr) (c : Nat), e = .returned (.tuple #[.slice p x.length c, .bool true]) ∧ OwnsAt w' w0.heap.size 5 1 (.slice p x.length c) x.length (x.map (Value.int .u8))
theorem MemOk.ownB {S : Nat → Prop} {w0 w1 w : World} {M : Mm} (m : MemOk (cx S w1) w0 M w) {i : Nat} {v : Value} {e : TypeId} {zs : List Int} (h : lk M i = some (.seg v e 1 (zs.map nB))) : OwnsAt w w0.heap.size e 1 v zs.length (zs.map (Value.int .u8)) := by
 obtain ⟨h1, h2⟩ := m.ok i _ h
 have h3 := seg_numsB h1
 refine ⟨h3.1, ?_⟩
 rcases h3.2 with h4 | ⟨g, off, cap, cur, rfl, _, rest⟩
 · exact .inl h4
 · refine .inr ⟨g, off, cap, cur, rfl, ?_, rest⟩
   rcases h2 g rfl with h5 | h5
   · exact h5
   · simp [cx] at h5
theorem part_ret {S : Nat → Prop} {w0 w1 w : World} {M : Mm} (hb : Below w0.heap.size w0 w) {i : Nat} (m : MemOk (cx S w1) w0 M w) {p : Option Addr} {c : Nat} {zs : List Int} (h : lk M i = some (.seg (.slice p zs.length c) 5 1 (zs.map nB))) (hl : zs.length = 64) (hc : zs.length ≤ c) :
   Below w0.heap.size w0 w ∧ PartR w0 w (.returned (.tuple #[.slice (if c = 8 then p else p.map (·.add (8 * 1))) (56 - 8) (c - 8), .bool true])) (some ((zs.take 56).drop 8)) := by
 have h1 := (m.ownB h).part 8 56 (by omega) (by omega)
 have hx : ((zs.take 56).drop 8).length = 56 - 8 := by rw [List.length_drop, List.length_take]; omega
 refine ⟨hb, _, _, by rw [hx], ?_⟩
 rw [if_neg (by omega)]
 rw [← hx] at h1
 exact h1
theorem part_in {B S : Nat} {vu : Value} {secs : List (List Int)} {uns : List Un} {l : Int} (i gn : Int) (w0 : World) (hD : IsDisk w0 B S vu secs uns l) (hi : 0 ≤ i ∧ i < secs.length) (hS : Sec (secs.getD i.toNat [])) :
   Calls Tryd.prog 43 #[.pointer (some ⟨B, 0, none⟩), .int .i64 i, .int .u64 gn] w0 fun e w' => Below w0.heap.size w0 w' ∧ PartR w0 w' e (partV secs i gn) := by
 have h64 := hS.1
 refine enter (fn := Tryd.f43) Tryd.func43 rfl Tryd.ntmps43 rfl (fun Az Hz => ?_)
 simp only [List.zipIdx_cons, List.zipIdx_nil, List.map_cons, List.map_nil, Nat.reduceAdd, Nat.zero_add] at Hz
 have m0 := MemOk.start (fun _ => False) w0
 refine regS Hz (.assign rfl <| .assign rfl <| .nil) ?_
 clear Hz Az; intro Az Hz
 refine wp_seq_k (fun K0 hK0 => ?_)
 refine wp_region_lit ?_
 refine goCh Hz (.move rfl <| .move rfl <| .nil) ?_
 clear Hz Az; intro Az Hz
 refine wpList_plain rfl (fun K hK => ?_)
 refine e_call Hz Tryd.func57 rfl rfl rfl rfl (kread_x hD i.toNat (by omega) i (by omega)) ?_
 rintro e w7 ⟨p9, c9, rfl, ho9, hcap9, hb7⟩
 have m8 := m0.newN 20 hb7 ho9
 clear m0
 clear hb7 ho9
 refine ⟨_, rfl, ?_⟩; clear Hz Az; intro Az Hz
 refine hK _ _ ?_; clear hK K
 refine goCh Hz (.move rfl .nil) ?_
 clear Hz Az; intro Az Hz
 refine wpList_plain rfl (fun K hK => ?_)
 refine e_call Hz Tryd.func24 rfl rfl rfl rfl (gens_x gn _) ?_
 rintro e w11 ⟨p11, c11, rfl, ho11, hb11⟩
 have m12 := m8.newN 21 hb11 ho11
 clear m8
 clear hb11 ho11
 refine ⟨_, rfl, ?_⟩; clear Hz Az; intro Az Hz
 refine hK _ _ ?_; clear hK K
 have m14 := m12.freezeN 21 rfl; clear m12
 have m15 := m14.numSB 20 rfl; clear m14
 refine goCh Hz (.assign rfl <| .assign rfl <| .nil) ?_
 clear Hz Az; intro Az Hz
 refine wpList_nil ?_
 refine hK0 _ _ ?_; clear hK0; try clear K0
 refine wp_seq_k (fun K1 hK1 => ?_)
 replace Hz : Has 34 [(6, _), (7, _), (8, _), (9, _)] Az := Hz.only [6, 7, 8, 9]
 refine wp_seq_k (fun K2 hK2 => ?_)
 refine wp_region_lit ?_
 refine goCh Hz (.move rfl <| .len rfl Tryd.underlying24 <| .eql rfl rfl <| .move rfl <| .nil) ?_
 clear Hz Az; intro Az Hz
 refine bool_cases Hz (t := 18) rfl ?_ ?_
 · intro hb _; exact absurd hb (by rw [decide_eq_true_eq]; omega)
 clear Hz; intro _ Hz
 refine goCh Hz (.moveZ rfl <| .g rfl rfl rfl rfl (fun _ h => y_sliceHn h (8) rfl rfl Tryd.underlying24 sz5wp1 rfl (show 8 ≤ c9 by omega)) <| .moveZ rfl <| .nil) ?_
 clear Hz Az; intro Az Hz
 refine st_ge Hz rfl rfl rfl rfl (fun K hK => ?_)
 refine e_call Hz Tryd.func58 rfl rfl rfl rfl (equal_x ((secs.getD i.toNat []).take 8) (genB gn) _ _ _ ((m15.rdNB (i := 20) rfl).ns_out.take 8 (by omega)) (m15.rd (i := 21) rfl).ns_out (fun x hx => hS.2 x (List.mem_of_mem_take hx)) (genB_bytes gn)) ?_
 rintro e w31 ⟨rfl, hb31⟩
 have m32 := m15.later hb31
 clear m15
 clear hb31
 refine ⟨_, rfl, ?_⟩; clear Hz Az; intro Az Hz
 refine hK _ _ ?_; clear hK K
 refine goCh Hz (.notZ rfl <| .pickF rfl rfl <| .move rfl <| .nil) ?_
 clear Hz Az; intro Az Hz
 refine bool_cases Hz (t := 25) rfl ?_ ?_
 ·
  clear Hz; intro hb37 Hz
  try simp only [Q1x, Q2x, Q3x, Q4x, Q5x, Q6x, Q7x, Q8x, Q9x, Q0x, Qax, Qbx] at hb37
  have hA : ¬ ((secs.getD i.toNat []).take 8 = genB gn) := by simpa using hb37
  refine goCh Hz (.sk <| .sk <| .sk <| .sk <| .sk <| .pickT rfl rfl <| .nil) ?_
  clear Hz Az; intro Az Hz
  refine wpList_nil ?_
  refine hK2 _ _ ?_; clear hK2; try clear K2
  refine wp_cond_true (Hz.ev (x := .tmp 31) rfl) ?_
  replace Hz : Has 34 [(6, _), (7, _), (8, _)] Az := Hz.only [6, 7, 8]
  refine regS Hz (.assign rfl <| .assign rfl <| .nil) ?_
  clear Hz Az; intro Az Hz
  refine wp_ret ?_
  try dsimp only [Exit.then, Exit.inBlock]
  refine (ret2 (fn := Tryd.f43) Hz rfl rfl rfl ?_)
  rw [show partV secs i gn = none from if_neg (by rintro ⟨-, -, h1, h2⟩; first | exact hA h1 | exact hC h2)]
  exact ⟨m32.below, rfl⟩
 ·
  clear Hz; intro hb37 Hz
  try simp only [Q1x, Q2x, Q3x, Q4x, Q5x, Q6x, Q7x, Q8x, Q9x, Q0x, Qax, Qbx] at hb37
  have hA : (secs.getD i.toNat []).take 8 = genB gn := by simpa using hb37
  refine goCh Hz (.moveZ rfl <| .g rfl rfl rfl rfl (fun _ h => y_sliceLn h (56) rfl rfl Tryd.underlying24 sz5wp1 rfl (show 56 ≤ (secs.getD i.toNat []).length by omega)) <| .moveZ rfl <| .nil) ?_
  clear Hz Az; intro Az Hz
  refine st_ge Hz rfl rfl rfl rfl (fun K hK => ?_)
  refine e_call Hz Tryd.func58 rfl rfl rfl rfl (equal_x ((secs.getD i.toNat []).drop 56) (genB gn) _ _ _ ((m32.rdNB (i := 20) rfl).ns_out.drop 56 (by omega)) (m32.rd (i := 21) rfl).ns_out (fun x hx => hS.2 x (List.mem_of_mem_drop hx)) (genB_bytes gn)) ?_
  rintro e w50 ⟨rfl, hb50⟩
  have m51 := m32.later hb50
  clear m32
  clear hb50
  refine ⟨_, rfl, ?_⟩; clear Hz Az; intro Az Hz
  refine hK _ _ ?_; clear hK K
  refine goCh Hz (.notZ rfl <| .pickF rfl rfl <| .nil) ?_
  clear Hz Az; intro Az Hz
  refine wpList_nil ?_
  refine hK2 _ _ ?_; clear hK2; try clear K2
  refine bool_cases Hz (t := 31) rfl ?_ ?_
  ·
   clear Hz; intro hb55 Hz
   try simp only [Q1x, Q2x, Q3x, Q4x, Q5x, Q6x, Q7x, Q8x, Q9x, Q0x, Qax, Qbx] at hb55
   have hC : ¬ ((secs.getD i.toNat []).drop 56 = genB gn) := by simpa using hb55
   refine wp_cond_true (Hz.ev (x := .tmp 31) rfl) ?_
   replace Hz : Has 34 [(6, _), (7, _), (8, _)] Az := Hz.only [6, 7, 8]
   refine regS Hz (.assign rfl <| .assign rfl <| .nil) ?_
   clear Hz Az; intro Az Hz
   refine wp_ret ?_
   try dsimp only [Exit.then, Exit.inBlock]
   refine (ret2 (fn := Tryd.f43) Hz rfl rfl rfl ?_)
   rw [show partV secs i gn = none from if_neg (by rintro ⟨-, -, h1, h2⟩; first | exact hA h1 | exact hC h2)]
   exact ⟨m51.below, rfl⟩
  ·
   clear Hz; intro hb55 Hz
   try simp only [Q1x, Q2x, Q3x, Q4x, Q5x, Q6x, Q7x, Q8x, Q9x, Q0x, Qax, Qbx] at hb55
   have hC : (secs.getD i.toNat []).drop 56 = genB gn := by simpa using hb55
   refine wp_cond_false (Hz.ev (x := .tmp 31) rfl) ?_
   refine wp_skip ?_
   refine hK1 _ _ ?_; clear hK1; try clear K1
   replace Hz : Has 34 [(6, _), (7, _), (8, _)] Az := Hz.only [6, 7, 8]
   refine regS Hz (.move rfl <| .c rfl (fun _ h => y_sliceLHn h (8) (56) rfl rfl rfl Tryd.underlying24 sz5wp1 rfl rfl (by decide) (show 56 ≤ c9 by omega)) <| .assign rfl <| .assign rfl <| .nil) ?_
   clear Hz Az; intro Az Hz
   refine wp_ret ?_
   try dsimp only [Exit.then, Exit.inBlock]
   refine (ret2 (fn := Tryd.f43) Hz rfl rfl rfl ?_)
   rw [show partV secs i gn = some (((secs.getD i.toNat []).take 56).drop 8) from if_pos ⟨hi.1, hi.2, hA, hC⟩]
   exact part_ret m51.below (i := 20) m51 rfl hS.1 hcap9
theorem part_out {B S : Nat} {vu : Value} {secs : List (List Int)} {uns : List Un} {l : Int} (i gn : Int) (w0 : World) (hD : IsDisk w0 B S vu secs uns l) (hi : ¬ (0 ≤ i ∧ i < secs.length)) :
   Calls Tryd.prog 43 #[.pointer (some ⟨B, 0, none⟩), .int .i64 i, .int .u64 gn] w0 fun e w' => Below w0.heap.size w0 w' ∧ PartR w0 w' e (partV secs i gn) := by
 refine enter (fn := Tryd.f43) Tryd.func43 rfl Tryd.ntmps43 rfl (fun Az Hz => ?_)
 simp only [List.zipIdx_cons, List.zipIdx_nil, List.map_cons, List.map_nil, Nat.reduceAdd, Nat.zero_add] at Hz
 have m0 := MemOk.start (fun _ => False) w0
 refine regS Hz (.assign rfl <| .assign rfl <| .nil) ?_
 clear Hz Az; intro Az Hz
 refine wp_seq_k (fun K0 hK0 => ?_)
 refine wp_region_lit ?_
 refine goCh Hz (.move rfl <| .move rfl <| .nil) ?_
 clear Hz Az; intro Az Hz
 refine wpList_plain rfl (fun K hK => ?_)
 refine e_call Hz Tryd.func57 rfl rfl rfl rfl (kread_no hD i hi) ?_
 rintro e w7 ⟨rfl, hb7⟩
 have m8 := m0.later hb7
 clear m0
 clear hb7
 refine ⟨_, rfl, ?_⟩; clear Hz Az; intro Az Hz
 refine hK _ _ ?_; clear hK K
 refine goCh Hz (.move rfl .nil) ?_
 clear Hz Az; intro Az Hz
 refine wpList_plain rfl (fun K hK => ?_)
 refine e_call Hz Tryd.func24 rfl rfl rfl rfl (gens_x gn _) ?_
 rintro e w11 ⟨p11, c11, rfl, ho11, hb11⟩
 have m12 := m8.newN 20 hb11 ho11
 clear m8
 clear hb11 ho11
 refine ⟨_, rfl, ?_⟩; clear Hz Az; intro Az Hz
 refine hK _ _ ?_; clear hK K
 have m14 := m12.freezeN 20 rfl; clear m12
 refine goCh Hz (.assign rfl <| .assign rfl <| .nil) ?_
 clear Hz Az; intro Az Hz
 refine wpList_nil ?_
 refine hK0 _ _ ?_; clear hK0; try clear K0
 refine wp_seq_k (fun K1 hK1 => ?_)
 replace Hz : Has 34 [(6, _), (7, _), (8, _), (9, _)] Az := Hz.only [6, 7, 8, 9]
 refine wp_seq_k (fun K2 hK2 => ?_)
 refine wp_region_lit ?_
 refine goCh Hz (.move rfl <| .len rfl Tryd.underlying24 <| .eql rfl rfl <| .move rfl <| .nil) ?_
 clear Hz Az; intro Az Hz
 refine bool_cases Hz (t := 18) rfl ?_ ?_
 rotate_left
 · intro hb _; exact absurd hb (by simp)
 clear Hz; intro _ Hz
 refine goCh Hz (.sk <| .sk <| .sk <| .sk <| .sk <| .pickT rfl rfl <| .move rfl <| .sk <| .sk <| .sk <| .sk <| .sk <| .pickT rfl rfl <| .nil) ?_
 clear Hz Az; intro Az Hz
 refine wpList_nil ?_
 refine hK2 _ _ ?_; clear hK2; try clear K2
 refine wp_cond_true (Hz.ev (x := .tmp 31) rfl) ?_
 replace Hz : Has 34 [(6, _), (7, _), (8, _)] Az := Hz.only [6, 7, 8]
 refine regS Hz (.assign rfl <| .assign rfl <| .nil) ?_
 clear Hz Az; intro Az Hz
 refine wp_ret ?_
 try dsimp only [Exit.then, Exit.inBlock]
 refine (ret2 (fn := Tryd.f43) Hz rfl rfl rfl ?_)
 rw [show partV secs i gn = none from if_neg (fun h => hi ⟨h.1, h.2.1⟩)]
 exact ⟨m14.below, rfl⟩
theorem part_x {B S : Nat} {vu : Value} {secs : List (List Int)} {uns : List Un} {l : Int} (i gn : Int) (w0 : World) (hD : IsDisk w0 B S vu secs uns l) :
   Calls Tryd.prog 43 #[.pointer (some ⟨B, 0, none⟩), .int .i64 i, .int .u64 gn] w0 fun e w' => Below w0.heap.size w0 w' ∧ PartR w0 w' e (partV secs i gn) := by
 by_cases hi : 0 ≤ i ∧ i < secs.length
 · exact part_in i gn w0 hD hi (sec_get hD.secs_ok (by omega))
 · exact part_out i gn w0 hD hi
end Go.Proofs.YtogjhjiapinmcaaDoor.K
