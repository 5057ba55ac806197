/- wal: read. -/
import Derived.Test.YtogjhjiapinmcaaDoorWal2
import Derived.Test.YtogjhjiapinmcaaDoorWalO
namespace Go.Proofs.YtogjhjiapinmcaaDoor.K
open Go.ChangeShapes Go.WideShapes Go.ChangeAt Go.RowKit
set_option linter.unusedVariables false
set_option linter.unusedSimpArgs false

theorem fl100pnh : flatS Tryd.prog 100 [.slice none 0 0, .int .i64 0] = true := by kernel_rfl
theorem inf24pnh : (Tryd.prog.info? 24).map (fun i => (i.zero, i.size, i.bytes)) = some (some (.slice none 0 0), 1, 24) := by kernel_rfl
theorem ps102pnh : placesS Tryd.prog 102 = some [(0, 2)] := by kernel_rfl
theorem zc100pnh : ((Tryd.prog.info? 100).bind (·.zero)).map (·.cells.toList) = some [.slice none 0 0, .int .i64 0] := by kernel_rfl
theorem zc102pnh : ((Tryd.prog.info? 102).bind (·.zero)).map (·.cells.toList) = some [.slice none 0 0, .int .i64 0] := by kernel_rfl
theorem inf5wre : (Tryd.prog.info? 5).map (fun i => (i.zero, i.size, i.bytes)) = some (some (.int .u8 0), 1, 1) := by kernel_rfl
theorem sz5wre : (Tryd.prog.info? 5).map (·.size) = some 1 := by kernel_rfl

set_option maxRecDepth 100000
set_option maxHeartbeats 4000000
theorem part_no {B S : Nat} {vu : Value} {secs : List (List Int)} {uns : List Un} {l : Int} {i gn : Int} {w0 : World} (hP : partV secs i gn = none) (hD : IsDisk w0 B S vu secs uns l) :
   Calls Tryd.prog 43 #[.pointer (some ⟨B, 0, none⟩), .int .i64 i, .int .u64 gn] w0 fun e w' => e = .returned (.tuple #[.slice none 0 0, .bool false]) ∧ Below w0.heap.size w0 w' := by
 refine (part_x i gn w0 hD).mono fun e w' h => ?_
 rw [hP] at h
 exact ⟨h.2, h.1⟩
theorem part_yes {B S : Nat} {vu : Value} {secs : List (List Int)} {uns : List Un} {l : Int} {i gn : Int} {w0 : World} {x : List Int} (hP : partV secs i gn = some x) (hD : IsDisk w0 B S vu secs uns l) :
   Calls Tryd.prog 43 #[.pointer (some ⟨B, 0, none⟩), .int .i64 i, .int .u64 gn] w0 fun e w' => ∃ (p : Option Addr) (c : Nat), e = .returned (.tuple #[.slice p x.length c, .bool true]) ∧ OwnsAt w' w0.heap.size 5 1 (.slice p x.length c) x.length (x.map (Value.int .u8)) ∧ Below w0.heap.size w0 w' := by
 refine (part_x i gn w0 hD).mono fun e w' h => ?_
 rw [hP] at h
 obtain ⟨hb, p, c, e1, ho⟩ := h
 exact ⟨p, c, e1, ho, hb⟩
theorem partV_ok {secs : List (List Int)} {i gn : Int} {x : List Int} (h : partV secs i gn = some x) (hs : ∀ s ∈ secs, Sec s) : x.length = 48 ∧ BytesL x := by
 unfold partV at h
 split at h
 · rename_i hc
   have h1 := sec_get hs (i := i.toNat) (by omega)
   injection h with h
   subst h
   refine ⟨by rw [List.length_drop, List.length_take, h1.1]; decide, fun z hz => h1.2 z (List.mem_of_mem_take (List.mem_of_mem_drop hz))⟩
 · cases h
theorem partV_at {secs : List (List Int)} {i gn : Int} {x : List Int} (h : partV secs i gn = some x) : 0 ≤ i ∧ i < secs.length := by
 unfold partV at h
 split at h
 · rename_i hc
   exact ⟨hc.1, hc.2.1⟩
 · cases h
def partsK (secs : List (List Int)) (f gn : Int) : Nat → Option (List Int)
 | 0 => some []
 | k + 1 => (partsK secs f gn k).bind fun a => (partV secs (f + k) gn).map fun b => a ++ b
theorem partsK_one {secs : List (List Int)} {f gn : Int} {b : List Int} (h : partV secs f gn = some b) : partsK secs f gn 1 = some b := by
 have e : f + ((0 : Nat) : Int) = f := by omega
 simp only [partsK, Option.bind_some]
 rw [e, h]; rfl
theorem partsK_snoc {secs : List (List Int)} {f gn : Int} {k : Nat} {a b : List Int} (h : partsK secs f gn k = some a) (hb : partV secs (f + k) gn = some b) : partsK secs f gn (k + 1) = some (a ++ b) := by
 simp only [partsK]
 rw [h, hb]; rfl
theorem partsK_none {secs : List (List Int)} {f gn : Int} {k : Nat} : ∀ {n : Nat}, k < n → partV secs (f + k) gn = none → partsK secs f gn n = none
 | n + 1, hk, h => by
   simp only [partsK]
   rcases Nat.lt_or_ge k n with h1 | h1
   · rw [partsK_none h1 h]; rfl
   · obtain rfl : k = n := by omega
     rw [h]
     cases partsK secs f gn k <;> rfl
theorem partsK_le {secs : List (List Int)} {f gn : Int} : ∀ {k : Nat} {x : List Int}, partsK secs f gn k = some x → 1 ≤ k → (∀ s ∈ secs, Sec s) → (k : Int) ≤ secs.length
 | k + 1, x, h, _, hs => by
   simp only [partsK] at h
   cases hk : partsK secs f gn k with
   | none => rw [hk] at h; cases h
   | some a =>
     cases hp : partV secs (f + k) gn with
     | none => rw [hk, hp] at h; cases h
     | some b =>
       have h1 := partV_at hp
       cases k with
       | zero => omega
       | succ j =>
         have h2 := partsK_first hk
         omega
where partsK_first {secs : List (List Int)} {f gn : Int} : ∀ {j : Nat} {a : List Int}, partsK secs f gn (j + 1) = some a → 0 ≤ f
 | 0, a, h => by
   simp only [partsK, Option.bind_some] at h
   cases hp : partV secs (f + ((0 : Nat) : Int)) gn with
   | none => rw [hp] at h; cases h
   | some b => have := partV_at hp; omega
 | j + 1, a, h => by
   rw [partsK] at h
   cases hk : partsK secs f gn (j + 1) with
   | none => rw [hk] at h; cases h
   | some a => exact partsK_first hk
def readV (secs : List (List Int)) (f to gn : Int) : Option (List Int × Nat) :=
 match partV secs f gn with
 | none => none
 | some b => if (numR b 0 65535).2.2 ≠ 0 then none else
   if (secN (48 - (numR b 0 65535).2.1.length + (numR b 0 65535).1.toNat + 4) : Int) > to - f then none else
   match partsK secs f gn (secN (48 - (numR b 0 65535).2.1.length + (numR b 0 65535).1.toNat + 4)) with
   | none => none
   | some x => if openB (x.take (48 - (numR b 0 65535).2.1.length + (numR b 0 65535).1.toNat + 4)) = true then some ((openC (x.take (48 - (numR b 0 65535).2.1.length + (numR b 0 65535).1.toNat + 4))).drop (48 - (numR b 0 65535).2.1.length), secN (48 - (numR b 0 65535).2.1.length + (numR b 0 65535).1.toNat + 4)) else none
theorem readV_some {secs : List (List Int)} {f to gn : Int} {b y : List Int} {n : Nat} {er2 : Int} (hP : partV secs f gn = some b) (hN : numR b 0 65535 = ((n : Int), y, er2)) (hb : b.length = 48) :
   readV secs f to gn = if er2 ≠ 0 then none else if (secN (48 - y.length + n + 4) : Int) > to - f then none else
     match partsK secs f gn (secN (48 - y.length + n + 4)) with
     | none => none
     | some x => if openB (x.take (48 - y.length + n + 4)) = true then some ((openC (x.take (48 - y.length + n + 4))).drop (48 - y.length), secN (48 - y.length + n + 4)) else none := by
 unfold readV
 rw [hP]
 dsimp only
 rw [hN]
 simp only [Int.toNat_natCast]
theorem MemOk.newBN {X : Cx} {M : Mm} {w0 w w' : World} (m : MemOk X w0 M w) (i j : Nat) (hij : i ≠ j) (hb : Below w.heap.size w w') {B : Nat} {t e : TypeId} {cs : List Value} {v : Value} {k : IntKind} {zs : List Int} (h1 : Blk w' B t cs) (h2 : w.heap.size ≤ B) (h3 : w'.ownsRow w.heap.size e 1 v zs.length (zs.map (Value.int k))) (h4 : v.ownBlock ≠ some B) : MemOk X w0 ([(i, .box B t cs), (j, .num v e k zs)] ++ M) w' := by
 have hs0 := m.keep.2.2.2.1
 have hlt := fun b hv => (World.ownsRow.lt h3 b hv).1
 have hcase : ∀ q r, lk [(i, Res.box B t cs), (j, Res.num v e k zs)] q = some r → (q = i ∧ r = .box B t cs) ∨ (q = j ∧ r = .num v e k zs) := by
   intro q r hq
   rw [lk_cons] at hq
   split at hq
   · exact .inl ⟨by omega, by injection hq with hq; exact hq.symm⟩
   · rw [lk_cons] at hq
     split at hq
     · exact .inr ⟨by omega, by injection hq with hq; exact hq.symm⟩
     · cases hq
 refine m.newL hb _ (fun q r hq => ?_) (fun q k2 r s b hq hk hr hs => ?_)
 · rcases hcase q r hq with ⟨rfl, rfl⟩ | ⟨rfl, rfl⟩
   · exact ⟨fun b hb => by injection hb with hb; omega, h1, .inl (by omega)⟩
   · refine ⟨fun b hb => hlt b hb, ⟨h3.1, ?_⟩⟩
     rcases h3.2 with h5 | ⟨g, cap, cur, e1, e2, rest⟩
     · exact .inl h5
     · exact .inr ⟨g, cap, cur, e1, Nat.le_trans hs0 e2, rest⟩
 · rcases hcase q r hq with ⟨rfl, rfl⟩ | ⟨rfl, rfl⟩ <;> rcases hcase k2 s hk with ⟨rfl, rfl⟩ | ⟨rfl, rfl⟩
   · rfl
   · exact absurd (by injection hr with hr; rw [hr]; exact hs) h4
   · exact absurd (by injection hs with hs; rw [hs]; exact hr) h4
   · rfl
def ReadR (w0 w' : World) (e : Ending) : Option (List Int × Nat) → Prop
 | none => e = .returned (.tuple #[.slice none 0 0, .int .i64 0, .bool false])
 | some (x, n) => ∃ (p : Option Addr) (c : Nat), e = .returned (.tuple #[.slice p x.length c, .int .i64 (n : Int), .bool true]) ∧ Rd (New w0) w' (.slice p x.length c) (.ns .u8 x)
theorem MemOk.rdTake {X : Cx} {M : Mm} {w0 w : World} (m : MemOk X w0 M w) {i : Nat} {p : Option Addr} {c : Nat} {e : TypeId} {zs : List Int} (h : lk M i = some (.seg (.slice p zs.length c) e 1 (zs.map nB))) (j : Nat) (hj : j ≤ zs.length) : Rd (fun _ => True) w (.slice p (zs.take j).length c) (.ns .u8 (zs.take j)) := by
 have h1 := (m.rdNB h).ns_out.take j hj
 rw [show (zs.take j).length = j by rw [List.length_take]; omega]
 exact .ns h1
theorem pnew_h (b : List Int) (p : Option Addr) (c : Nat) (w0 : World) (hb : b.length ≤ 1000000) (h0 : Rd (fun _ => True) w0 (.slice p b.length c) (.ns .u8 b)) :
   Calls Tryd.prog 44 #[.slice p b.length c] w0 fun e w' => ∃ (B : Nat) (p' : Option Addr) (c' : Nat), e = .returned (.pointer (some ⟨B, 0, none⟩)) ∧ Blk w' B 102 [.slice p' b.length c', .int .i64 0] ∧ w0.heap.size ≤ B ∧ w'.ownsRow w0.heap.size 5 1 (.slice p' b.length c') b.length (b.map (Value.int .u8)) ∧ (Value.slice p' b.length c').ownBlock ≠ some B ∧ Below w0.heap.size w0 w' := by
 refine enter (fn := Tryd.f44) Tryd.func44 rfl Tryd.ntmps44 rfl (fun Az Hz => ?_)
 simp only [List.zipIdx_cons, List.zipIdx_nil, List.map_cons, List.map_nil, Nat.reduceAdd, Nat.zero_add] at Hz
 have m0 := MemOk.start (fun _ => True) w0
 refine regS Hz (.assign rfl <| .nil) ?_
 clear Hz Az; intro Az Hz
 refine wp_seq_k (fun K0 hK0 => ?_)
 refine wp_region_lit ?_
 refine goCh Hz (.move rfl .nil) ?_
 clear Hz Az; intro Az Hz
 refine wpList_plain rfl (fun K hK => ?_)
 refine e_litR Hz m0 20 (mm := 1) rfl (.cons rfl rfl (.cons (m0.old h0) .nil) <| .nil) Tryd.underlying22 inf24pnh rfl rfl rfl rfl rfl ?_
 clear Hz Az m0; intro g4 Az w5 Hz m5
 refine hK _ _ ?_; clear hK K
 have m6 := m5.freezeR 20 rfl; clear m5
 refine wpList_plain rfl (fun K hK => ?_)
 refine e_call Hz Tryd.func27 rfl rfl rfl rfl (pjoin_is (ls := [b]) (S := b) ((m6.rd (i := 20) rfl).any) (by simp) (by simp [sumLen]; omega) (by simp)) ?_
 rintro e w7 ⟨p7, c7, rfl, ho7, hb7⟩
 have m8 := m6.newN 21 hb7 ho7
 clear m6
 clear hb7 ho7
 refine ⟨_, rfl, ?_⟩; clear Hz Az; intro Az Hz
 refine hK _ _ ?_; clear hK K
 refine goCh Hz (.build rfl zc100pnh fl100pnh rfl (by dsimp only [setL, List.set] <;> rfl) <| .buildG rfl zc102pnh ps102pnh rfl <| .nil) ?_
 clear Hz Az; intro Az Hz
 refine wpList_plain rfl (fun K hK => ?_)
 refine e_box Hz m8 22 (cs := [_, _]) rfl rfl rfl ?_
 clear Hz Az m8; intro g12 Az w13 Hz m13 hB13 hg13
 clear hB13 hg13
 refine hK _ _ ?_; clear hK K
 refine goCh Hz (.assign rfl .nil) ?_
 clear Hz Az; intro Az Hz
 refine wpList_nil ?_
 refine hK0 _ _ ?_; clear hK0; try clear K0
 refine wp_ret ?_
 try dsimp only [Exit.then, Exit.inBlock]
 refine (ret1 (fn := Tryd.f44) Hz rfl rfl ?_)
 exact ⟨_, _, _, rfl, (m13.ok 22 _ rfl).1, m13.own_new (b := _) ⟨22, _, rfl, rfl⟩, m13.ok 21 _ rfl, fun h => absurd (m13.sep 22 21 _ _ _ rfl rfl rfl h) (by decide), m13.below⟩
theorem read_x {B S : Nat} {vu : Value} {secs : List (List Int)} {uns : List Un} {l : Int} (f to gn : Int) (w0 : World) (hD : IsDisk w0 B S vu secs uns l) (hT : TabOk w0) (h01 : 1 ≤ w0.heap.size) (hf0 : -1000000000 ≤ f) (hf1 : f ≤ 1000000000) (ht0 : -1000000000 ≤ to) (ht1 : to ≤ 9223372036854775807) (hsl : secs.length ≤ 100) :
   Calls Tryd.prog 31 #[.pointer (some ⟨B, 0, none⟩), .int .i64 f, .int .i64 to, .int .u64 gn] w0 fun e w' => Below w0.heap.size w0 w' ∧ ReadR w0 w' e (readV secs f to gn) := by
 refine enter (fn := Tryd.f31) Tryd.func31 rfl Tryd.ntmps31 rfl (fun Az Hz => ?_)
 simp only [List.zipIdx_cons, List.zipIdx_nil, List.map_cons, List.map_nil, Nat.reduceAdd, Nat.zero_add] at Hz
 have m0 := MemOk.start (fun _ => False) w0
 refine regS Hz (.assign rfl <| .assign rfl <| .assign rfl <| .nil) ?_
 clear Hz Az; intro Az Hz
 refine wp_seq_k (fun K0 hK0 => ?_)
 rcases hP : partV secs f gn with _ | b
 ·
  refine wp_region_lit ?_
  refine goCh Hz (.move rfl <| .move rfl <| .move rfl <| .nil) ?_
  clear Hz Az; intro Az Hz
  refine wpList_plain rfl (fun K hK => ?_)
  refine e_call Hz Tryd.func43 rfl rfl rfl rfl (part_no hP (hD.later m0.below)) ?_
  rintro e w7 ⟨rfl, hb7⟩
  have m8 := m0.later hb7
  clear m0
  clear hb7
  refine ⟨_, rfl, ?_⟩; clear Hz Az; intro Az Hz
  refine hK _ _ ?_; clear hK K
  refine goCh Hz (.move rfl <| .extract rfl rfl <| .extract rfl rfl <| .assign rfl <| .assign rfl <| .nil) ?_
  clear Hz Az; intro Az Hz
  refine wpList_nil ?_
  refine hK0 _ _ ?_; clear hK0; try clear K0
  refine wp_seq_k (fun K1 hK1 => ?_)
  replace Hz : Has 87 [(0, _), (1, _), (2, _), (3, _), (8, _), (9, _), (10, _), (11, _), (12, _)] Az := Hz.only [0, 1, 2, 3, 8, 9, 10, 11, 12]
  refine regS Hz (.move rfl <| .not rfl <| .nil) ?_
  clear Hz Az; intro Az Hz
  refine wp_cond_true (Hz.ev (x := .tmp 30) rfl) ?_
  refine regS Hz (.assign rfl <| .assign rfl <| .assign rfl <| .nil) ?_
  clear Hz Az; intro Az Hz
  refine wp_ret ?_
  try dsimp only [Exit.then, Exit.inBlock]
  refine (ret3 (fn := Tryd.f31) Hz rfl rfl rfl rfl ?_)
  have hR : readV secs f to gn = none := by unfold readV; rw [hP]
  rw [hR]
  exact ⟨m8.below, rfl⟩
 ·
  obtain ⟨hb48, hbb⟩ := partV_ok hP hD.secs_ok
  have hP0 := partV_at hP
  obtain ⟨⟨a1, y, er2⟩, hN⟩ : ∃ z, numR b 0 65535 = z := ⟨_, rfl⟩
  obtain ⟨⟨ha0, ha1⟩, hy48, hyl, hyb, -⟩ := numR_all hN hbb (by omega) (by decide)
  obtain ⟨n, rfl⟩ : ∃ n : Nat, a1 = (n : Int) := ⟨a1.toNat, by omega⟩
  have hRV := readV_some (to := to) hP hN hb48
  refine wp_region_lit ?_
  refine goCh Hz (.move rfl <| .move rfl <| .move rfl <| .nil) ?_
  clear Hz Az; intro Az Hz
  refine wpList_plain rfl (fun K hK => ?_)
  refine e_call Hz Tryd.func43 rfl rfl rfl rfl (part_yes hP (hD.later m0.below)) ?_
  rintro e w24 ⟨p24, c24, rfl, ho24, hb24⟩
  have m25 := m0.newO 20 hb24 ho24
  clear m0
  clear hb24 ho24
  refine ⟨_, rfl, ?_⟩; clear Hz Az; intro Az Hz
  refine hK _ _ ?_; clear hK K
  refine goCh Hz (.move rfl <| .extract rfl rfl <| .extract rfl rfl <| .assign rfl <| .assign rfl <| .nil) ?_
  clear Hz Az; intro Az Hz
  refine wpList_nil ?_
  refine hK0 _ _ ?_; clear hK0; try clear K0
  refine wp_seq_k (fun K2 hK2 => ?_)
  replace Hz : Has 87 [(0, _), (1, _), (2, _), (3, _), (8, _), (9, _), (10, _), (11, _), (12, _)] Az := Hz.only [0, 1, 2, 3, 8, 9, 10, 11, 12]
  refine regS Hz (.move rfl <| .not rfl <| .nil) ?_
  clear Hz Az; intro Az Hz
  refine wp_cond_false (Hz.ev (x := .tmp 30) rfl) ?_
  refine wp_skip ?_
  refine hK2 _ _ ?_; clear hK2; try clear K2
  refine wp_seq_k (fun K3 hK3 => ?_)
  refine wp_region_lit ?_
  refine goCh Hz (.move rfl .nil) ?_
  clear Hz Az; intro Az Hz
  refine wpList_plain rfl (fun K hK => ?_)
  refine e_call Hz Tryd.func44 rfl rfl rfl rfl (pnew_h b _ _ _ (by omega) (m25.rdNB (i := 20) rfl)) ?_
  rintro e w37 ⟨B37, p37, c37, rfl, h137, h237, h337, h437, hb37⟩
  have m38 := m25.newBN 21 22 (by decide) hb37 h137 h237 h337 h437
  clear m25
  clear hb37 h137 h237 h337 h437
  refine ⟨_, rfl, ?_⟩; clear Hz Az; intro Az Hz
  refine hK _ _ ?_; clear hK K
  have m40 := m38.freezeN 22 rfl; clear m38
  refine goCh Hz (.assign rfl .nil) ?_
  clear Hz Az; intro Az Hz
  refine wpList_nil ?_
  refine hK3 _ _ ?_; clear hK3; try clear K3
  refine wp_seq_k (fun K4 hK4 => ?_)
  refine wp_region_lit ?_
  refine goCh Hz (.move rfl .nil) ?_
  clear Hz Az; intro Az Hz
  refine wpList_plain rfl (fun K hK => ?_)
  refine e_call Hz Tryd.func45 rfl rfl rfl rfl (pnum_e (hN := hN) _ _ _ _ _ (by omega) hbb (m40.into [(1, 21), (2, 22)] (by decide) rfl)) ?_
  rintro e w44 ⟨p44, c44, rfl, hm44⟩
  have mx44 := m40.back hm44 [(21, 1), (22, 2)] (by decide); clear hm44 m40
  have m44 : MemOk _ _ [(21, _), (22, _), (20, _)] _ := mx44.only [21, 22, 20]; clear mx44
  refine ⟨_, rfl, ?_⟩; clear Hz Az; intro Az Hz
  refine hK _ _ ?_; clear hK K
  refine goCh Hz (.conv rfl Tryd.underlying32 Tryd.underlying3 (r := (n : Int)) (IntWalk.i64_in _ (by omega)) <| .assign rfl <| .nil) ?_
  clear Hz Az; intro Az Hz
  refine wpList_nil ?_
  refine hK4 _ _ ?_; clear hK4; try clear K4
  refine wp_seq_k (fun K5 hK5 => ?_)
  replace Hz : Has 87 [(0, _), (1, _), (2, _), (3, _), (8, _), (9, _), (10, _), (11, _), (12, _), (13, _), (14, _)] Az := Hz.only [0, 1, 2, 3, 8, 9, 10, 11, 12, 13, 14]
  refine wp_seq_k (fun K6 hK6 => ?_)
  refine wp_region_lit ?_
  refine goCh Hz (.move rfl .nil) ?_
  clear Hz Az; intro Az Hz
  refine wpList_plain rfl (fun K hK => ?_)
  refine e_call Hz Tryd.func46 rfl rfl rfl rfl (perr_x _ _ _ _ _ _ _ (m44.into [(1, 21), (2, 22)] (by decide) rfl)) ?_
  rintro e w51 ⟨rfl, hm51⟩
  have mx51 := m44.back hm51 [(21, 1), (22, 2)] (by decide); clear hm51 m44
  have m51 : MemOk _ _ [(21, _), (22, _), (20, _)] _ := mx51.only [21, 22, 20]; clear mx51
  refine ⟨_, rfl, ?_⟩; clear Hz Az; intro Az Hz
  refine hK _ _ ?_; clear hK K
  refine goCh Hz (.neq rfl rfl .nil) ?_
  clear Hz Az; intro Az Hz
  refine wpList_nil ?_
  refine hK6 _ _ ?_; clear hK6; try clear K6
  refine bool_cases Hz (t := 38) rfl ?_ ?_
  ·
   clear Hz; intro hb54 Hz
   try simp only [Q1x, Q2x, Q3x, Q4x, Q5x, Q6x, Q7x, Q8x, Q9x, Q0x, Qax, Qbx] at hb54
   have hE : er2 ≠ 0 := by have := hb54; simpa using this
   refine wp_cond_true (Hz.ev (x := .tmp 38) rfl) ?_
   refine regS Hz (.assign rfl <| .assign rfl <| .assign rfl <| .nil) ?_
   clear Hz Az; intro Az Hz
   refine wp_ret ?_
   try dsimp only [Exit.then, Exit.inBlock]
   refine (ret3 (fn := Tryd.f31) Hz rfl rfl rfl rfl ?_)
   have hR : readV secs f to gn = none := by first | rw [hRV, if_pos hE] | rw [hRV, if_neg (by simpa using hE), if_pos hG]
   rw [hR]
   exact ⟨m51.below, rfl⟩
  ·
   clear Hz; intro hb54 Hz
   try simp only [Q1x, Q2x, Q3x, Q4x, Q5x, Q6x, Q7x, Q8x, Q9x, Q0x, Qax, Qbx] at hb54
   have hE : er2 = 0 := by have := hb54; simpa using this
   refine wp_cond_false (Hz.ev (x := .tmp 38) rfl) ?_
   refine wp_skip ?_
   refine hK5 _ _ ?_; clear hK5; try clear K5
   refine wp_seq_k (fun K7 hK7 => ?_)
   refine wp_region_lit ?_
   refine goCh Hz (.move rfl <| .len rfl Tryd.underlying24 <| .move rfl <| .nil) ?_
   clear Hz Az; intro Az Hz
   refine wpList_plain rfl (fun K hK => ?_)
   refine e_call Hz Tryd.func47 rfl rfl rfl rfl (pleft_x _ _ _ _ _ _ _ (m51.into [(1, 21), (2, 22)] (by decide) rfl)) ?_
   rintro e w64 ⟨rfl, hm64⟩
   have mx64 := m51.back hm64 [(21, 1), (22, 2)] (by decide); clear hm64 m51
   have m64 : MemOk _ _ [(21, _), (22, _), (20, _)] _ := mx64.only [21, 22, 20]; clear mx64
   refine ⟨_, rfl, ?_⟩; clear Hz Az; intro Az Hz
   refine hK _ _ ?_; clear hK K
   refine goCh Hz (.sub rfl rfl (r := ((48 - y.length) : Nat)) (by rw [hb48, IntWalk.i64_in _ (by omega)]; omega) <| .assign rfl <| .nil) ?_
   clear Hz Az; intro Az Hz
   refine wpList_nil ?_
   refine hK7 _ _ ?_; clear hK7; try clear K7
   replace Hz : Has 87 [(0, _), (1, _), (2, _), (3, _), (8, _), (9, _), (10, _), (11, _), (12, _), (14, _), (15, _)] Az := Hz.only [0, 1, 2, 3, 8, 9, 10, 11, 12, 14, 15]
   refine regS Hz (.move rfl <| .move rfl <| .add rfl rfl (r := ((48 - y.length) + n : Nat)) (by rw [IntWalk.i64_in _ (by omega)]; omega) <| .add rfl rfl (r := (((48 - y.length) + n + 4) : Nat)) (by rw [IntWalk.i64_in _ (by omega)]; omega) <| .assign rfl <| .nil) ?_
   clear Hz Az; intro Az Hz
   refine wp_seq_k (fun K8 hK8 => ?_)
   refine wp_region_lit ?_
   refine goCh Hz (.move rfl .nil) ?_
   clear Hz Az; intro Az Hz
   refine wpList_plain rfl (fun K hK => ?_)
   refine e_call Hz Tryd.func29 rfl rfl rfl rfl (sectors_x ((48 - y.length) + n + 4) _ (by omega)) ?_
   rintro e w76 ⟨rfl, hb76⟩
   have m77 := m64.later hb76
   clear m64
   clear hb76
   refine ⟨_, rfl, ?_⟩; clear Hz Az; intro Az Hz
   refine hK _ _ ?_; clear hK K
   refine goCh Hz (.assign rfl .nil) ?_
   clear Hz Az; intro Az Hz
   refine wpList_nil ?_
   refine hK8 _ _ ?_; clear hK8; try clear K8
   refine wp_seq_k (fun K9 hK9 => ?_)
   replace Hz : Has 87 [(0, _), (1, _), (2, _), (3, _), (8, _), (9, _), (10, _), (11, _), (12, _), (15, _), (16, _), (17, _)] Az := Hz.only [0, 1, 2, 3, 8, 9, 10, 11, 12, 15, 16, 17]
   refine regS Hz (.move rfl <| .move rfl <| .move rfl <| .sub rfl rfl (r := to - f) (IntWalk.i64_in _ (by omega)) <| .gtr rfl rfl <| .nil) ?_
   clear Hz Az; intro Az Hz
   refine bool_cases Hz (t := 54) rfl ?_ ?_
   ·
    clear Hz; intro hb86 Hz
    try simp only [Q1x, Q2x, Q3x, Q4x, Q5x, Q6x, Q7x, Q8x, Q9x, Q0x, Qax, Qbx] at hb86
    have hG : ((secN ((48 - y.length) + n + 4)) : Int) > to - f := by have := hb86; simpa using this
    refine wp_cond_true (Hz.ev (x := .tmp 54) rfl) ?_
    replace Hz : Has 87 [(0, _), (1, _), (3, _), (8, _), (9, _), (10, _), (11, _), (12, _), (15, _), (16, _), (17, _)] Az := Hz.only [0, 1, 3, 8, 9, 10, 11, 12, 15, 16, 17]
    refine regS Hz (.assign rfl <| .assign rfl <| .assign rfl <| .nil) ?_
    clear Hz Az; intro Az Hz
    refine wp_ret ?_
    try dsimp only [Exit.then, Exit.inBlock]
    refine (ret3 (fn := Tryd.f31) Hz rfl rfl rfl rfl ?_)
    have hR : readV secs f to gn = none := by first | rw [hRV, if_pos hE] | rw [hRV, if_neg (by simpa using hE), if_pos hG]
    rw [hR]
    exact ⟨m77.below, rfl⟩
   ·
    clear Hz; intro hb86 Hz
    try simp only [Q1x, Q2x, Q3x, Q4x, Q5x, Q6x, Q7x, Q8x, Q9x, Q0x, Qax, Qbx] at hb86
    have hG : ¬ (((secN ((48 - y.length) + n + 4)) : Int) > to - f) := by have := hb86; simpa using this
    have hND1 : 1 ≤ (secN ((48 - y.length) + n + 4)) := by unfold secN; omega
    have hNDm : (secN ((48 - y.length) + n + 4)) ≤ 100000 := by unfold secN; omega
    refine wp_cond_false (Hz.ev (x := .tmp 54) rfl) ?_
    refine wp_skip ?_
    refine hK9 _ _ ?_; clear hK9; try clear K9
    refine wp_seq_k (fun K10 hK10 => ?_)
    replace Hz : Has 87 [(0, _), (1, _), (3, _), (8, _), (9, _), (10, _), (11, _), (12, _), (15, _), (16, _), (17, _)] Az := Hz.only [0, 1, 3, 8, 9, 10, 11, 12, 15, 16, 17]
    refine regS Hz (.assign rfl <| .nil) ?_
    clear Hz Az; intro Az Hz
    refine wp_block ?_
    refine wp_loop_ghost (fun g a w => ∃ (k : Nat) (xs : List Int) (p : Option Addr) (c : Nat), 1 ≤ k ∧ k ≤ (secN ((48 - y.length) + n + 4)) ∧ g = (secN ((48 - y.length) + n + 4)) - k ∧ partsK secs f gn k = some xs ∧ xs.length = 48 * k ∧ BytesL xs ∧ Has 87 [(0, .pointer (some ⟨B, 0, none⟩)), (1, .int .i64 f), (3, .int .u64 gn), (11, .slice p xs.length c), (15, .int .i64 ((48 - y.length) : Nat)), (16, .int .i64 (((48 - y.length) + n + 4) : Nat)), (17, .int .i64 ((secN ((48 - y.length) + n + 4)) : Nat)), (18, .int .i64 k)] a ∧ MemOk (cn w0) w0 [(20, .seg (.slice p xs.length c) 5 1 (xs.map nB))] w) ((secN ((48 - y.length) + n + 4)) - 1) ?_ ?_
    · exact ⟨1, b, _, _, by omega, hND1, rfl, partsK_one hP, by omega, hbb, Hz.only [0, 1, 3, 11, 15, 16, 17, 18], m77.only [20]⟩
    ·
     clear Hz m77
     rintro g Az w93 ⟨k, xs, p, c, hk1, hkl, hg, hK, hxl, hxb, Hz, m93⟩
     refine wp_seq_k (fun K11 hK11 => ?_)
     refine regS Hz (.move rfl <| .move rfl <| .lss rfl rfl <| .nil) ?_
     clear Hz Az; intro Az Hz
     refine bool_cases Hz (t := 57) rfl ?_ ?_
     ·
      clear Hz; intro hb97 Hz
      try simp only [Q1x, Q2x, Q3x, Q4x, Q5x, Q6x, Q7x, Q8x, Q9x, Q0x, Qax, Qbx] at hb97
      have hkn : k < (secN ((48 - y.length) + n + 4)) := by have := hb97; first | omega | (simp at this; omega)
      refine wp_cond_true (Hz.ev (x := .tmp 57) rfl) ?_
      refine wp_skip ?_
      refine hK11 _ _ ?_; clear hK11; try clear K11
      refine wp_seq_k (fun K12 hK12 => ?_)
      refine wp_block ?_
      refine wp_seq_k (fun K13 hK13 => ?_)
      rcases hQ : partV secs (f + k) gn with _ | z
      ·
       refine wp_region_lit ?_
       refine goCh Hz (.move rfl <| .move rfl <| .move rfl <| .add rfl rfl (r := f + k) (IntWalk.i64_in _ (by omega)) <| .move rfl <| .nil) ?_
       clear Hz Az; intro Az Hz
       refine wpList_plain rfl (fun K hK => ?_)
       refine e_call Hz Tryd.func43 rfl rfl rfl rfl (part_no hQ (hD.later m93.below)) ?_
       rintro e w103 ⟨rfl, hb103⟩
       have m104 := m93.later hb103
       clear m93
       clear hb103
       refine ⟨_, rfl, ?_⟩; clear Hz Az; intro Az Hz
       refine hK _ _ ?_; clear hK K
       refine goCh Hz (.move rfl <| .extract rfl rfl <| .extract rfl rfl <| .assign rfl <| .assign rfl <| .nil) ?_
       clear Hz Az; intro Az Hz
       refine wpList_nil ?_
       refine hK13 _ _ ?_; clear hK13; try clear K13
       refine wp_seq_k (fun K14 hK14 => ?_)
       replace Hz : Has 87 [(0, _), (1, _), (3, _), (11, _), (15, _), (16, _), (17, _), (18, _), (19, _), (20, _)] Az := Hz.only [0, 1, 3, 11, 15, 16, 17, 18, 19, 20]
       refine regS Hz (.move rfl <| .not rfl <| .nil) ?_
       clear Hz Az; intro Az Hz
       refine wp_cond_true (Hz.ev (x := .tmp 70) rfl) ?_
       refine regS Hz (.assign rfl <| .assign rfl <| .assign rfl <| .nil) ?_
       clear Hz Az; intro Az Hz
       refine wp_ret ?_
       try dsimp only [Exit.then, Exit.inBlock]
       refine (ret3 (fn := Tryd.f31) Hz rfl rfl rfl rfl ?_)
       have hR : readV secs f to gn = none := by rw [hRV, if_neg (by simpa using hE), if_neg hG, partsK_none hkn hQ]
       rw [hR]
       exact ⟨m104.below, rfl⟩
      ·
       obtain ⟨hx48, hxb2⟩ := partV_ok hQ hD.secs_ok
       refine wp_region_lit ?_
       refine goCh Hz (.move rfl <| .move rfl <| .move rfl <| .add rfl rfl (r := f + k) (IntWalk.i64_in _ (by omega)) <| .move rfl <| .nil) ?_
       clear Hz Az; intro Az Hz
       refine wpList_plain rfl (fun K hK => ?_)
       refine e_call Hz Tryd.func43 rfl rfl rfl rfl (part_yes hQ (hD.later m93.below)) ?_
       rintro e w122 ⟨p122, c122, rfl, ho122, hb122⟩
       have m123 := m93.newO 100 hb122 ho122
       clear m93
       clear hb122 ho122
       refine ⟨_, rfl, ?_⟩; clear Hz Az; intro Az Hz
       refine hK _ _ ?_; clear hK K
       refine goCh Hz (.move rfl <| .extract rfl rfl <| .extract rfl rfl <| .assign rfl <| .assign rfl <| .nil) ?_
       clear Hz Az; intro Az Hz
       refine wpList_nil ?_
       refine hK13 _ _ ?_; clear hK13; try clear K13
       refine wp_seq_k (fun K15 hK15 => ?_)
       replace Hz : Has 87 [(0, _), (1, _), (3, _), (11, _), (15, _), (16, _), (17, _), (18, _), (19, _), (20, _)] Az := Hz.only [0, 1, 3, 11, 15, 16, 17, 18, 19, 20]
       refine regS Hz (.move rfl <| .not rfl <| .nil) ?_
       clear Hz Az; intro Az Hz
       refine wp_cond_false (Hz.ev (x := .tmp 70) rfl) ?_
       refine wp_skip ?_
       refine hK15 _ _ ?_; clear hK15; try clear K15
       refine wp_region_lit ?_
       refine goCh Hz (.move rfl <| .move rfl <| .nil) ?_
       clear Hz Az; intro Az Hz
       refine wpList_plain rfl (fun K hK => ?_)
       refine e_appSA Hz m123 20 rfl rfl rfl (m123.srcS (i := 100) rfl) Tryd.underlying24 inf5wre rfl rfl (by decide) (by rw [List.length_map, List.length_map]; omega) rfl ?_
       clear Hz Az m123; intro p135 c135 Az w136 Hz m136
       refine hK _ _ ?_; clear hK K
       refine goCh Hz (.assign rfl .nil) ?_
       clear Hz Az; intro Az Hz
       refine wpList_nil ?_
       refine hK12 _ _ ?_; clear hK12; try clear K12
       replace Hz : Has 87 [(0, _), (1, _), (3, _), (11, _), (15, _), (16, _), (17, _), (18, _)] Az := Hz.only [0, 1, 3, 11, 15, 16, 17, 18]
       refine wp_region_lit ?_
       refine goCh Hz (.move rfl <| .add rfl rfl (r := ((k + 1 : Nat) : Int)) (by rw [IntWalk.i64_in _ (by omega)]; omega) <| .assign rfl <| .nil) ?_
       clear Hz Az; intro Az Hz
       refine wpList_nil ?_
       show ∃ n', n' < _ ∧ _
       have e9 : xs.map nB ++ z.map nB = (xs ++ z).map nB := (List.map_append ..).symm
       rw [e9, List.length_map] at Hz m136
       exact ⟨(secN ((48 - y.length) + n + 4)) - (k + 1), by omega, k + 1, xs ++ z, _, _, by omega, by omega, rfl, partsK_snoc hK hQ, by rw [List.length_append]; omega, bytesApp hxb hxb2, Hz.only [0, 1, 3, 11, 15, 16, 17, 18], m136.only [20]⟩
     ·
      clear Hz; intro hb97 Hz
      try simp only [Q1x, Q2x, Q3x, Q4x, Q5x, Q6x, Q7x, Q8x, Q9x, Q0x, Qax, Qbx] at hb97
      obtain rfl : k = (secN ((48 - y.length) + n + 4)) := by have := hb97; first | omega | (simp at this; omega)
      refine wp_cond_false (Hz.ev (x := .tmp 57) rfl) ?_
      refine wp_exit ?_
      refine hK10 _ _ ?_; clear hK10; try clear K10
      refine wp_seq_k (fun K16 hK16 => ?_)
      have hall : ((48 - y.length) + n + 4) ≤ xs.length := by rw [hxl]; unfold secN; omega
      have hta : (xs.take ((48 - y.length) + n + 4)).length = ((48 - y.length) + n + 4) := by rw [List.length_take]; omega
      have hxs9 := partsK_le hK hk1 hD.secs_ok
      rcases hO : openB (xs.take ((48 - y.length) + n + 4)) with _ | _
      ·
       refine wp_region_lit ?_
       refine goCh Hz (.move rfl <| .move rfl <| .nil) ?_
       clear Hz Az; intro Az Hz
       have hcap144 := m93.capS (i := 20) rfl; rw [List.length_map] at hcap144
       refine goCh Hz (.c rfl (fun _ h => y_sliceHn h (xs.take ((48 - y.length) + n + 4)).length rfl rfl Tryd.underlying24 sz5wre (by rw [hta]) (by omega)) .nil) ?_
       clear Hz Az; intro Az Hz
       refine wpList_plain rfl (fun K hK => ?_)
       refine e_call Hz Tryd.func48 rfl rfl rfl rfl (open_x (o := false) (xs.take ((48 - y.length) + n + 4)) _ _ _ (hT.below m93.below h01) (Nat.le_trans h01 m93.below.size) (m93.rdTake (i := 20) rfl _ hall) (fun x hx => hxb x (List.mem_of_mem_take hx)) (by omega) (by omega) hO) ?_
       rintro e w146 ⟨p146, c146, rfl, ho146, hb146⟩
       have m147 := m93.newN 100 hb146 ho146
       clear m93
       clear hb146 ho146
       refine ⟨_, rfl, ?_⟩; clear Hz Az; intro Az Hz
       refine hK _ _ ?_; clear hK K
       refine goCh Hz (.move rfl <| .extract rfl rfl <| .extract rfl rfl <| .assign rfl <| .assign rfl <| .nil) ?_
       clear Hz Az; intro Az Hz
       refine wpList_nil ?_
       refine hK16 _ _ ?_; clear hK16; try clear K16
       refine wp_seq_k (fun K17 hK17 => ?_)
       replace Hz : Has 87 [(0, _), (1, _), (3, _), (11, _), (15, _), (16, _), (17, _), (18, _), (21, _), (12, _)] Az := Hz.only [0, 1, 3, 11, 15, 16, 17, 18, 21, 12]
       refine regS Hz (.move rfl <| .not rfl <| .nil) ?_
       clear Hz Az; intro Az Hz
       refine wp_cond_true (Hz.ev (x := .tmp 82) rfl) ?_
       refine regS Hz (.assign rfl <| .assign rfl <| .assign rfl <| .nil) ?_
       clear Hz Az; intro Az Hz
       refine wp_ret ?_
       try dsimp only [Exit.then, Exit.inBlock]
       refine (ret3 (fn := Tryd.f31) Hz rfl rfl rfl rfl ?_)
       have hR : readV secs f to gn = none := by rw [hRV, if_neg (by simpa using hE), if_neg hG, hK]; dsimp only; rw [if_neg (by rw [hO]; decide)]
       rw [hR]
       exact ⟨m147.below, rfl⟩
      ·
       refine wp_region_lit ?_
       refine goCh Hz (.move rfl <| .move rfl <| .nil) ?_
       clear Hz Az; intro Az Hz
       have hcap162 := m93.capS (i := 20) rfl; rw [List.length_map] at hcap162
       refine goCh Hz (.c rfl (fun _ h => y_sliceHn h (xs.take ((48 - y.length) + n + 4)).length rfl rfl Tryd.underlying24 sz5wre (by rw [hta]) (by omega)) .nil) ?_
       clear Hz Az; intro Az Hz
       refine wpList_plain rfl (fun K hK => ?_)
       refine e_call Hz Tryd.func48 rfl rfl rfl rfl (open_x (o := true) (xs.take ((48 - y.length) + n + 4)) _ _ _ (hT.below m93.below h01) (Nat.le_trans h01 m93.below.size) (m93.rdTake (i := 20) rfl _ hall) (fun x hx => hxb x (List.mem_of_mem_take hx)) (by omega) (by omega) hO) ?_
       rintro e w164 ⟨p164, c164, rfl, ho164, hb164⟩
       have m165 := m93.newN 100 hb164 ho164
       clear m93
       clear hb164 ho164
       refine ⟨_, rfl, ?_⟩; clear Hz Az; intro Az Hz
       refine hK _ _ ?_; clear hK K
       refine goCh Hz (.move rfl <| .extract rfl rfl <| .extract rfl rfl <| .assign rfl <| .assign rfl <| .nil) ?_
       clear Hz Az; intro Az Hz
       refine wpList_nil ?_
       refine hK16 _ _ ?_; clear hK16; try clear K16
       refine wp_seq_k (fun K18 hK18 => ?_)
       replace Hz : Has 87 [(0, _), (1, _), (3, _), (11, _), (15, _), (16, _), (17, _), (18, _), (21, _), (12, _)] Az := Hz.only [0, 1, 3, 11, 15, 16, 17, 18, 21, 12]
       refine regS Hz (.move rfl <| .not rfl <| .nil) ?_
       clear Hz Az; intro Az Hz
       refine wp_cond_false (Hz.ev (x := .tmp 82) rfl) ?_
       refine wp_skip ?_
       refine hK18 _ _ ?_; clear hK18; try clear K18
       refine wp_seq_k (fun K19 hK19 => ?_)
       refine wp_region_lit ?_
       refine goCh Hz (.move rfl <| .move rfl <| .nil) ?_
       clear Hz Az; intro Az Hz
       have m180 := m165.freezeN 100 rfl; clear m165
       have m181 := m180.dropN (i := 100) rfl (48 - y.length) (show (48 - y.length) ≤ (openC (xs.take (48 - y.length + n + 4))).length by unfold openC; rw [if_pos hO, List.length_take]; omega) 101 rfl; clear m180
       refine goCh Hz (.c rfl (fun _ h => y_sliceLn h (48 - y.length) rfl rfl Tryd.underlying24 sz5wre rfl (show (48 - y.length) ≤ (openC (xs.take (48 - y.length + n + 4))).length by unfold openC; rw [if_pos hO, List.length_take]; omega)) <| .move rfl <| .assign rfl <| .assign rfl <| .assign rfl <| .nil) ?_
       clear Hz Az; intro Az Hz
       refine wpList_nil ?_
       refine hK19 _ _ ?_; clear hK19; try clear K19
       refine wp_ret ?_
       try dsimp only [Exit.then, Exit.inBlock]
       refine (ret3 (fn := Tryd.f31) Hz rfl rfl rfl rfl ?_)
       have hR : readV secs f to gn = some ((openC (xs.take ((48 - y.length) + n + 4))).drop (48 - y.length), (secN ((48 - y.length) + n + 4))) := by rw [hRV, if_neg (by simpa using hE), if_neg hG, hK]; dsimp only; rw [if_pos hO]
       rw [hR]
       have hl9 : (openC (xs.take ((48 - y.length) + n + 4))).length - (48 - y.length) = ((openC (xs.take ((48 - y.length) + n + 4))).drop (48 - y.length)).length := by rw [List.length_drop]
       rw [hl9] at m181
       rw [hl9]
       exact ⟨m181.below, _, _, rfl, m181.outF (i := 101) rfl⟩
end Go.Proofs.YtogjhjiapinmcaaDoor.K
