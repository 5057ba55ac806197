/- raft: what is done with messages: onPreOk, onVoteOk, newer, onPreVote (refused), onAppend (of none), onInstall. -/
import Derived.Test.YtndnnlbdnjndiaaGreatRafF
namespace Go.Proofs.YtndnnlbdnjndiaaGreat.K
open Go.ChangeShapes Go.WideShapes Go.ChangeAt Go.RowKit
set_option linter.unusedVariables false
set_option linter.unusedSimpArgs false

theorem sz26rop : (Tryz.prog.info? 26).map (·.size) = some 1 := by kernel_rfl
theorem sz26rov : (Tryz.prog.info? 26).map (·.size) = some 1 := by kernel_rfl

abbrev mS (k gm f t te ix lt co : Int) (ok : Bool) : RM := ⟨k, gm, f, t, te, ix, lt, co, ok, [], 0, 0, [], [], [], 0, 0, 0, 0⟩
def withY (ys : List Int) (f : Int) : List Int := canon (canon ys ++ [f])
theorem withY_len (ys : List Int) (f : Int) : (withY ys f).length ≤ 7 := canon_len _
theorem ROk.yes {s : RS} (h : ROk s) (f : Int) : ROk { s with ys := withY s.ys f } := ⟨h.l, h.n, h.co, h.ld, h.ms, h.rs, h.te, h.id, h.si, h.be, Nat.le_trans (withY_len _ _) (by decide)⟩
def preOkS (s : RS) (f te : Int) : RS :=
 if s.x.ro = 1 ∧ te = s.x.te + 1 then (if favS { s with ys := withY s.ys f } then standS { s with ys := withY s.ys f } else { s with ys := withY s.ys f }) else s
theorem preOk_no (s : RS) (f te : Int) (h : ¬ s.x.ro = 1 ∨ ¬ te = s.x.te + 1) : preOkS s f te = s := by unfold preOkS; exact if_neg fun h9 => h.elim (fun h => h h9.1) (fun h => h h9.2)
theorem preOk_yes (s : RS) (f te : Int) (h : s.x.ro = 1) (h2 : te = s.x.te + 1) (h3 : favS { s with ys := withY s.ys f } = true) : preOkS s f te = standS { s with ys := withY s.ys f } := by unfold preOkS; rw [if_pos ⟨h, h2⟩, if_pos h3]
theorem preOk_wait (s : RS) (f te : Int) (h : s.x.ro = 1) (h2 : te = s.x.te + 1) (h3 : favS { s with ys := withY s.ys f } = false) : preOkS s f te = { s with ys := withY s.ys f } := by unfold preOkS; rw [if_pos ⟨h, h2⟩, if_neg (by rw [h3]; decide)]
def voteOkS (s : RS) (f : Int) (ok : Bool) : RS :=
 if ok = true ∧ s.x.ro = 2 then (if favS { s with ys := withY s.ys f } then winS { s with ys := withY s.ys f } else { s with ys := withY s.ys f }) else s
theorem voteOk_no (s : RS) (f : Int) (ok : Bool) (h : ok = false ∨ ¬ s.x.ro = 2) : voteOkS s f ok = s := by unfold voteOkS; exact if_neg fun h9 => h.elim (fun h => by rw [h] at h9; exact absurd h9.1 (by decide)) (fun h => h h9.2)
theorem voteOk_yes (s : RS) (f : Int) (ok : Bool) (h : ok = true) (h2 : s.x.ro = 2) (h3 : favS { s with ys := withY s.ys f } = true) : voteOkS s f ok = winS { s with ys := withY s.ys f } := by unfold voteOkS; rw [if_pos ⟨h, h2⟩, if_pos h3]
theorem voteOk_wait (s : RS) (f : Int) (ok : Bool) (h : ok = true) (h2 : s.x.ro = 2) (h3 : favS { s with ys := withY s.ys f } = false) : voteOkS s f ok = { s with ys := withY s.ys f } := by unfold voteOkS; rw [if_pos ⟨h, h2⟩, if_neg (by rw [h3]; decide)]
abbrev replyS (s : RS) (f kd : Int) (ok : Bool) (ix : Int) : RS := addM s [toM s f (replyR s.x kd ok ix)]
abbrev instS (s : RS) (f bi bt : Int) (cf bd : List Int) : RS := { s with x := { s.x with ro := 0, le := f, si := 0, ap := bi, co := bi }, bi := bi, bt := bt, cf := cf, bd := bd, es := [], rs := s.rs ++ [{ baseR bi bt cf bd with g := s.x.gr }], re := true }
set_option maxRecDepth 100000
set_option maxHeartbeats 4000000
theorem ronPreOk_s (X : Cx) (R : Nat) (s : RS) (p : RP) (k gm f t te ix lt co : Int) (w0 : World) (hk : ROk s) (m0 : MemOk X w0 (rfM R s p) w0) :
   Calls Tryz.prog 97 #[.pointer (some ⟨R, 0, none⟩), .agg #[.int .i64 k, .int .i64 gm, .int .i64 f, .int .i64 t, .int .i64 te, .int .i64 ix, .int .i64 lt, .int .i64 co, .bool true, .slice none 0 0, .int .i64 0, .int .i64 0, .slice none 0 0, .slice none 0 0, .slice none 0 0, .int .i64 0, .int .i64 0, .int .i64 0, .int .i64 0]] w0 fun e w' => ∃ p', e = .returned (.tuple #[]) ∧ MemOk X w0 (rfM R (preOkS s f te) p') w' := by
 refine enter (fn := Tryz.f97) Tryz.func97 rfl Tryz.ntmps97 rfl (fun Az Hz => ?_)
 simp only [List.zipIdx_cons, List.zipIdx_nil, List.map_cons, List.map_nil, Nat.reduceAdd, Nat.zero_add] at Hz
 have hte := hk.te
 have hys : s.ys.length ≤ 900 := Nat.le_trans hk.ys (by decide)
 refine wp_seq_k (fun K0 hK0 => ?_)
 refine wp_region_lit ?_
 refine wpList_plain rfl (fun K hK => ?_)
 refine e_box Hz m0 50 (cs := [_, _, _, _, _, _, _, _, _, _, _, _, _, _, _, _, _, _, _]) rfl rfl rfl ?_
 clear Hz Az m0; intro g1 Az w2 Hz m2 hB2 hg2
 clear hB2 hg2
 refine hK _ _ ?_; clear hK K
 refine wpList_nil ?_
 refine hK0 _ _ ?_; clear hK0; try clear K0
 refine wp_seq_k (fun K1 hK1 => ?_)
 refine regS Hz (.fieldAddr (off := 8) rfl Tryz.underlying55 rfl (s := 0) (by kernel_rfl) rfl <| .loadB1 m2 (i := 50) rfl rfl rfl Tryz.underlying4 rfl <| .not rfl <| .nil) ?_
 clear Hz Az; intro Az Hz
 refine wp_cond_false (Hz.ev (x := .tmp 6) rfl) ?_
 refine wp_skip ?_
 refine hK1 _ _ ?_; clear hK1; try clear K1
 refine wp_seq_k (fun K2 hK2 => ?_)
 refine wp_seq_k (fun K3 hK3 => ?_)
 have m6 : MemOk _ _ [(1, _), (2, _), (3, _), (4, _), (5, _), (6, _), (7, _), (8, _), (50, _)] _ := m2.only [1, 2, 3, 4, 5, 6, 7, 8, 50]; clear m2
 refine region_p 17 (B := [(1, _), (2, _), (3, _), (4, _), (5, _), (6, _), (7, _), (8, _), (50, _)]) (m6.to ⟨il, il, il, il, il, il, il, il, il, trivial⟩) m6 (by kernel_rfl) (fun w7 hP7 m7 => ?_); clear m6
 refine goR hP7 [0, 1, 2, 3, 4, 5] [3] 6 0 63 Hz (m7.to ⟨il, il, il, il, il, il, il, il, il, trivial⟩) (.move rfl <| .nilCheck rfl <| .fieldAddr (off := 20) rfl Tryz.underlying86 rfl (s := 0) (by kernel_rfl) rfl <| .loadB1 hh (i := 1) rfl rfl rfl Tryz.underlying3 rfl <| .neq rfl rfl <| .move rfl <| .nil) ?_
 clear Hz Az; intro Az Hz
 refine bool_cases Hz (t := 25) rfl ?_ ?_
 ·
  clear Hz; intro hb14 Hz
  try simp only [Q1x, Q2x, Q3x, Q4x, Q5x, Q6x, Q7x, Q8x, Q9x, Q0x, Qax, Qbx] at hb14
  refine goA hP7 [6, 7, 8, 9, 10, 11, 12, 13, 14, 15, 16] 11 63 131071 Hz (m7.to ⟨il, il, il, il, il, il, il, il, il, trivial⟩) (.s <| .s <| .s <| .s <| .s <| .s <| .s <| .s <| .s <| .s <| .pickT rfl rfl <| .nil) ?_
  clear Hz Az; intro Az Hz
  refine wpAnyE_done (by kernel_rfl) ?_ _
  refine hK3 _ _ ?_; clear hK3; try clear K3
  refine wp_cond_true (Hz.ev (x := .tmp 36) rfl) ?_
  refine wp_ret ?_
  try dsimp only [Exit.then, Exit.inBlock]
  refine (ret0r (fn := Tryz.f97) Hz rfl ?_)
  rw [preOk_no s f te (.inl hb14)]
  exact ⟨p, rfl, m7.only [1, 2, 3, 4, 5, 6, 7, 8]⟩
 ·
  clear Hz; intro hb14 Hz
  try simp only [Q1x, Q2x, Q3x, Q4x, Q5x, Q6x, Q7x, Q8x, Q9x, Q0x, Qax, Qbx] at hb14
  refine goR hP7 [6, 7, 8, 9, 10, 11, 12, 13, 14, 15, 16] [7, 13] 11 63 131071 Hz (m7.to ⟨il, il, il, il, il, il, il, il, il, trivial⟩) (.fieldAddr (off := 4) rfl Tryz.underlying55 rfl (s := 0) (by kernel_rfl) rfl <| .loadB1 hh (i := 50) rfl rfl rfl Tryz.underlying3 rfl <| .move rfl <| .nilCheck rfl <| .fieldAddr (off := 0) rfl Tryz.underlying86 rfl (s := 4) (by kernel_rfl) rfl <| .fieldAddr (off := 2) rfl Tryz.underlying81 rfl (s := 1) (by kernel_rfl) rfl <| .fieldAddr (off := 2) rfl Tryz.underlying25 rfl (s := 0) (by kernel_rfl) rfl <| .loadB1 hh (i := 1) rfl rfl rfl Tryz.underlying3 rfl <| .add rfl rfl (r := s.x.te + 1) (IntWalk.i64_in _ (by omega)) <| .neq rfl rfl <| .pickF rfl rfl <| .nil) ?_
  clear Hz Az; intro Az Hz
  refine wpAnyE_done (by kernel_rfl) ?_ _
  refine hK3 _ _ ?_; clear hK3; try clear K3
  refine bool_cases Hz (t := 36) rfl ?_ ?_
  ·
   clear Hz; intro hb37 Hz
   try simp only [Q1x, Q2x, Q3x, Q4x, Q5x, Q6x, Q7x, Q8x, Q9x, Q0x, Qax, Qbx] at hb37
   refine wp_cond_true (Hz.ev (x := .tmp 36) rfl) ?_
   refine wp_ret ?_
   try dsimp only [Exit.then, Exit.inBlock]
   refine (ret0r (fn := Tryz.f97) Hz rfl ?_)
   rw [preOk_no s f te (.inr hb37)]
   exact ⟨p, rfl, m7.only [1, 2, 3, 4, 5, 6, 7, 8]⟩
  ·
   clear Hz; intro hb37 Hz
   try simp only [Q1x, Q2x, Q3x, Q4x, Q5x, Q6x, Q7x, Q8x, Q9x, Q0x, Qax, Qbx] at hb37
   refine wp_cond_false (Hz.ev (x := .tmp 36) rfl) ?_
   refine wp_skip ?_
   refine hK2 _ _ ?_; clear hK2; try clear K2
   refine wp_seq_k (fun K4 hK4 => ?_)
   replace Hz : Has 51 [(0, _), (3, _), (25, _), (36, _)] Az := Hz.only [0, 3, 25, 36]
   have m39 : MemOk _ _ [(1, _), (2, _), (3, _), (4, _), (5, _), (6, _), (7, _), (8, _), (50, _)] _ := m7.only [1, 2, 3, 4, 5, 6, 7, 8, 50]; clear m7
   refine region_p 7 (B := [(1, _), (2, _), (3, _), (4, _), (5, _), (6, _), (7, _), (8, _), (50, _)]) (m39.to ⟨il, il, il, il, il, il, il, il, il, trivial⟩) m39 (by kernel_rfl) (fun w40 hP40 m40 => ?_); clear m39
   refine goR hP40 [0, 1, 2, 3, 4, 5, 6] [4, 6] 7 0 127 Hz (m40.to ⟨il, il, il, il, il, il, il, il, il, trivial⟩) (.move rfl <| .move rfl <| .nilCheck rfl <| .fieldAddr (off := 25) rfl Tryz.underlying86 rfl (s := 0) (by kernel_rfl) rfl <| .loadB1 hh (i := 1) rfl rfl rfl Tryz.underlying26 rfl <| .fieldAddr (off := 2) rfl Tryz.underlying55 rfl (s := 0) (by kernel_rfl) rfl <| .loadB1 hh (i := 50) rfl rfl rfl Tryz.underlying3 rfl <| .nil) ?_
   clear Hz Az; intro Az Hz
   refine stepE_end 7 rfl (by kernel_rfl) rfl (by rfl) (fun K hK => ?_)
   refine e_call Hz Tryz.func141 rfl rfl rfl rfl (withc_any _ s.ys f _ (m40.nums (i := 6) rfl) hys) ?_
   rintro e w48 ⟨u48, rfl, ho48, hb48⟩
   obtain ⟨py9, cy9, hu48⟩ := ownsRow_shape ho48
   subst hu48
   have m49 := m40.newN 51 hb48 ho48
   clear m40
   clear hb48 ho48
   refine ⟨_, rfl, ?_⟩; clear Hz Az; intro Az Hz
   refine hK _ _ ?_; clear hK K
   refine goB hP40 [8, 9] 2 255 1023 Hz (.nilCheck rfl <| .fieldAddr (off := 25) rfl Tryz.underlying86 rfl (s := 0) (by kernel_rfl) rfl <| .nil) ?_
   clear Hz Az; intro Az Hz
   refine stepE_end 10 rfl (by kernel_rfl) rfl (by rfl) (fun K hK => ?_)
   refine e_store1 Hz m49 1 rfl rfl rfl rfl rfl sz26rop (by dsimp only [List.set] <;> rfl) ?_
   clear m49; intro w53 m53 hB53
   clear hB53
   refine hK _ _ ?_; clear hK K
   refine wpAnyE_done (by kernel_rfl) ?_ _
   refine hK4 _ _ ?_; clear hK4; try clear K4
   replace Hz : Has 51 [(0, _), (25, _), (36, _)] Az := Hz.only [0, 25, 36]
   refine wp_seq_k (fun K5 hK5 => ?_)
   refine wp_region_lit ?_
   refine goCh Hz (.move rfl .nil) ?_
   clear Hz Az; intro Az Hz
   have m57 := m53.freezeN 51 rfl; clear m53
   have m58 := m57.ren [(1, 1), (2, 2), (3, 3), (4, 4), (5, 5), (7, 7), (8, 8), (50, 50), (6, 51)] (by decide); clear m57
   refine wpList_plain rfl (fun K hK => ?_)
   refine e_call Hz Tryz.func90 rfl rfl rfl rfl (rfav_s R { s with ys := withY s.ys f } { p with py := py9, cy := cy9 } _ (rfM_is { s with ys := withY s.ys f } { p with py := py9, cy := cy9 } (m58.into [(1, 1), (2, 2), (3, 3), (4, 4), (5, 5), (6, 6), (7, 7), (8, 8)] (by decide) rfl)) hk.l (Nat.le_trans (canon_len _) (by decide))) ?_
   rintro e w59 ⟨rfl, hb59⟩
   have m60 := m58.later hb59
   clear m58
   clear hb59
   refine ⟨_, rfl, ?_⟩; clear Hz Az; intro Az Hz
   refine hK _ _ ?_; clear hK K
   refine wpList_nil ?_
   refine hK5 _ _ ?_; clear hK5; try clear K5
   refine bool_cases Hz (t := 48) rfl ?_ ?_
   ·
    clear Hz; intro hb62 Hz
    try simp only [Q1x, Q2x, Q3x, Q4x, Q5x, Q6x, Q7x, Q8x, Q9x, Q0x, Qax, Qbx] at hb62
    refine wp_cond_true (Hz.ev (x := .tmp 48) rfl) ?_
    refine wp_region_lit ?_
    refine goCh Hz (.move rfl .nil) ?_
    clear Hz Az; intro Az Hz
    refine wpList_plain rfl (fun K hK => ?_)
    refine e_call Hz Tryz.func91 rfl rfl rfl rfl (rstand_s _ R { s with ys := withY s.ys f } { p with py := py9, cy := cy9 } _ (hk.yes f) (m60.into [(1, 1), (2, 2), (3, 3), (4, 4), (5, 5), (6, 6), (7, 7), (8, 8)] (by decide) rfl)) ?_
    rintro e w64 ⟨p2, rfl, hm64⟩
    have mx64 := m60.back hm64 [(1, 1), (2, 2), (3, 3), (4, 4), (5, 5), (6, 6), (7, 7), (8, 8)] (by decide); clear hm64 m60
    have m64 : MemOk _ _ [(1, _), (2, _), (3, _), (4, _), (5, _), (6, _), (7, _), (8, _), (50, _)] _ := mx64.only [1, 2, 3, 4, 5, 6, 7, 8, 50]; clear mx64
    refine ⟨_, rfl, ?_⟩; clear Hz Az; intro Az Hz
    refine hK _ _ ?_; clear hK K
    refine wpList_nil ?_
    try dsimp only [Exit.then]
    try refine out_here ?_
    refine (ret0 (fn := Tryz.f97) Hz rfl ?_)
    rw [preOk_yes s f te hb14 hb37 hb62]
    exact ⟨p2, rfl, m64.only [1, 2, 3, 4, 5, 6, 7, 8]⟩
   ·
    clear Hz; intro hb62 Hz
    try simp only [Q1x, Q2x, Q3x, Q4x, Q5x, Q6x, Q7x, Q8x, Q9x, Q0x, Qax, Qbx] at hb62
    refine wp_cond_false (Hz.ev (x := .tmp 48) rfl) ?_
    refine wp_skip ?_
    try dsimp only [Exit.then]
    try refine out_here ?_
    refine (ret0 (fn := Tryz.f97) Hz rfl ?_)
    rw [preOk_wait s f te hb14 hb37 hb62]
    exact ⟨{ p with py := py9, cy := cy9 }, rfl, m60.only [1, 2, 3, 4, 5, 6, 7, 8]⟩
theorem ronVoteOk_s (X : Cx) (R : Nat) (s : RS) (p : RP) (k gm f t te ix lt co : Int) (ok : Bool) (w0 : World) (hk : ROk s) (m0 : MemOk X w0 (rfM R s p) w0) :
   Calls Tryz.prog 100 #[.pointer (some ⟨R, 0, none⟩), .agg #[.int .i64 k, .int .i64 gm, .int .i64 f, .int .i64 t, .int .i64 te, .int .i64 ix, .int .i64 lt, .int .i64 co, .bool ok, .slice none 0 0, .int .i64 0, .int .i64 0, .slice none 0 0, .slice none 0 0, .slice none 0 0, .int .i64 0, .int .i64 0, .int .i64 0, .int .i64 0]] w0 fun e w' => ∃ p', e = .returned (.tuple #[]) ∧ MemOk X w0 (rfM R (voteOkS s f ok) p') w' := by
 refine enter (fn := Tryz.f100) Tryz.func100 rfl Tryz.ntmps100 rfl (fun Az Hz => ?_)
 simp only [List.zipIdx_cons, List.zipIdx_nil, List.map_cons, List.map_nil, Nat.reduceAdd, Nat.zero_add] at Hz
 have hys : s.ys.length ≤ 900 := Nat.le_trans hk.ys (by decide)
 refine wp_seq_k (fun K0 hK0 => ?_)
 refine wp_region_lit ?_
 refine wpList_plain rfl (fun K hK => ?_)
 refine e_box Hz m0 50 (cs := [_, _, _, _, _, _, _, _, _, _, _, _, _, _, _, _, _, _, _]) rfl rfl rfl ?_
 clear Hz Az m0; intro g1 Az w2 Hz m2 hB2 hg2
 clear hB2 hg2
 refine hK _ _ ?_; clear hK K
 refine wpList_nil ?_
 refine hK0 _ _ ?_; clear hK0; try clear K0
 refine wp_seq_k (fun K1 hK1 => ?_)
 refine wp_seq_k (fun K2 hK2 => ?_)
 refine wp_region_lit ?_
 refine goCh Hz (.fieldAddr (off := 8) rfl Tryz.underlying55 rfl (s := 0) (by kernel_rfl) rfl <| .loadB1 m2 (i := 50) rfl rfl rfl Tryz.underlying4 rfl <| .not rfl <| .move rfl <| .nil) ?_
 clear Hz Az; intro Az Hz
 refine bool_cases Hz (t := 7) rfl ?_ ?_
 ·
  clear Hz; intro hb11 Hz
  try simp only [Q1x, Q2x, Q3x, Q4x, Q5x, Q6x, Q7x, Q8x, Q9x, Q0x, Qax, Qbx] at hb11
  refine goCh Hz (.sk <| .sk <| .sk <| .sk <| .sk <| .pickT rfl rfl <| .nil) ?_
  clear Hz Az; intro Az Hz
  refine wpList_nil ?_
  refine hK2 _ _ ?_; clear hK2; try clear K2
  refine wp_cond_true (Hz.ev (x := .tmp 13) rfl) ?_
  refine wp_ret ?_
  try dsimp only [Exit.then, Exit.inBlock]
  refine (ret0r (fn := Tryz.f100) Hz rfl ?_)
  rw [voteOk_no s f ok (.inl hb11)]
  exact ⟨p, rfl, m2.only [1, 2, 3, 4, 5, 6, 7, 8]⟩
 ·
  clear Hz; intro hb11 Hz
  try simp only [Q1x, Q2x, Q3x, Q4x, Q5x, Q6x, Q7x, Q8x, Q9x, Q0x, Qax, Qbx] at hb11
  refine goCh Hz (.moveZ rfl <| .nilCheckZ rfl <| .fieldAddrZ (off := 20) rfl Tryz.underlying86 rfl (s := 0) (by kernel_rfl) rfl <| .loadB1Z m2 (i := 1) rfl rfl rfl Tryz.underlying3 rfl <| .neqZ rfl rfl <| .pickF rfl rfl <| .nil) ?_
  clear Hz Az; intro Az Hz
  refine wpList_nil ?_
  refine hK2 _ _ ?_; clear hK2; try clear K2
  refine bool_cases Hz (t := 13) rfl ?_ ?_
  ·
   clear Hz; intro hb24 Hz
   try simp only [Q1x, Q2x, Q3x, Q4x, Q5x, Q6x, Q7x, Q8x, Q9x, Q0x, Qax, Qbx] at hb24
   refine wp_cond_true (Hz.ev (x := .tmp 13) rfl) ?_
   refine wp_ret ?_
   try dsimp only [Exit.then, Exit.inBlock]
   refine (ret0r (fn := Tryz.f100) Hz rfl ?_)
   rw [voteOk_no s f ok (.inr hb24)]
   exact ⟨p, rfl, m2.only [1, 2, 3, 4, 5, 6, 7, 8]⟩
  ·
   clear Hz; intro hb24 Hz
   try simp only [Q1x, Q2x, Q3x, Q4x, Q5x, Q6x, Q7x, Q8x, Q9x, Q0x, Qax, Qbx] at hb24
   refine wp_cond_false (Hz.ev (x := .tmp 13) rfl) ?_
   refine wp_skip ?_
   refine hK1 _ _ ?_; clear hK1; try clear K1
   refine wp_seq_k (fun K3 hK3 => ?_)
   replace Hz : Has 28 [(0, _), (3, _), (7, _), (13, _)] Az := Hz.only [0, 3, 7, 13]
   have m26 : MemOk _ _ [(1, _), (2, _), (3, _), (4, _), (5, _), (6, _), (7, _), (8, _), (50, _)] _ := m2.only [1, 2, 3, 4, 5, 6, 7, 8, 50]; clear m2
   refine region_p 7 (B := [(1, _), (2, _), (3, _), (4, _), (5, _), (6, _), (7, _), (8, _), (50, _)]) (m26.to ⟨il, il, il, il, il, il, il, il, il, trivial⟩) m26 (by kernel_rfl) (fun w27 hP27 m27 => ?_); clear m26
   refine goR hP27 [0, 1, 2, 3, 4, 5, 6] [4, 6] 7 0 127 Hz (m27.to ⟨il, il, il, il, il, il, il, il, il, trivial⟩) (.move rfl <| .move rfl <| .nilCheck rfl <| .fieldAddr (off := 25) rfl Tryz.underlying86 rfl (s := 0) (by kernel_rfl) rfl <| .loadB1 hh (i := 1) rfl rfl rfl Tryz.underlying26 rfl <| .fieldAddr (off := 2) rfl Tryz.underlying55 rfl (s := 0) (by kernel_rfl) rfl <| .loadB1 hh (i := 50) rfl rfl rfl Tryz.underlying3 rfl <| .nil) ?_
   clear Hz Az; intro Az Hz
   refine stepE_end 7 rfl (by kernel_rfl) rfl (by rfl) (fun K hK => ?_)
   refine e_call Hz Tryz.func141 rfl rfl rfl rfl (withc_any _ s.ys f _ (m27.nums (i := 6) rfl) hys) ?_
   rintro e w35 ⟨u35, rfl, ho35, hb35⟩
   obtain ⟨py9, cy9, hu35⟩ := ownsRow_shape ho35
   subst hu35
   have m36 := m27.newN 51 hb35 ho35
   clear m27
   clear hb35 ho35
   refine ⟨_, rfl, ?_⟩; clear Hz Az; intro Az Hz
   refine hK _ _ ?_; clear hK K
   refine goB hP27 [8, 9] 2 255 1023 Hz (.nilCheck rfl <| .fieldAddr (off := 25) rfl Tryz.underlying86 rfl (s := 0) (by kernel_rfl) rfl <| .nil) ?_
   clear Hz Az; intro Az Hz
   refine stepE_end 10 rfl (by kernel_rfl) rfl (by rfl) (fun K hK => ?_)
   refine e_store1 Hz m36 1 rfl rfl rfl rfl rfl sz26rov (by dsimp only [List.set] <;> rfl) ?_
   clear m36; intro w40 m40 hB40
   clear hB40
   refine hK _ _ ?_; clear hK K
   refine wpAnyE_done (by kernel_rfl) ?_ _
   refine hK3 _ _ ?_; clear hK3; try clear K3
   replace Hz : Has 28 [(0, _), (7, _), (13, _)] Az := Hz.only [0, 7, 13]
   refine wp_seq_k (fun K4 hK4 => ?_)
   refine wp_region_lit ?_
   refine goCh Hz (.move rfl .nil) ?_
   clear Hz Az; intro Az Hz
   have m44 := m40.freezeN 51 rfl; clear m40
   have m45 := m44.ren [(1, 1), (2, 2), (3, 3), (4, 4), (5, 5), (7, 7), (8, 8), (50, 50), (6, 51)] (by decide); clear m44
   refine wpList_plain rfl (fun K hK => ?_)
   refine e_call Hz Tryz.func90 rfl rfl rfl rfl (rfav_s R { s with ys := withY s.ys f } { p with py := py9, cy := cy9 } _ (rfM_is { s with ys := withY s.ys f } { p with py := py9, cy := cy9 } (m45.into [(1, 1), (2, 2), (3, 3), (4, 4), (5, 5), (6, 6), (7, 7), (8, 8)] (by decide) rfl)) hk.l (Nat.le_trans (canon_len _) (by decide))) ?_
   rintro e w46 ⟨rfl, hb46⟩
   have m47 := m45.later hb46
   clear m45
   clear hb46
   refine ⟨_, rfl, ?_⟩; clear Hz Az; intro Az Hz
   refine hK _ _ ?_; clear hK K
   refine wpList_nil ?_
   refine hK4 _ _ ?_; clear hK4; try clear K4
   refine bool_cases Hz (t := 25) rfl ?_ ?_
   ·
    clear Hz; intro hb49 Hz
    try simp only [Q1x, Q2x, Q3x, Q4x, Q5x, Q6x, Q7x, Q8x, Q9x, Q0x, Qax, Qbx] at hb49
    refine wp_cond_true (Hz.ev (x := .tmp 25) rfl) ?_
    refine wp_region_lit ?_
    refine goCh Hz (.move rfl .nil) ?_
    clear Hz Az; intro Az Hz
    refine wpList_plain rfl (fun K hK => ?_)
    refine e_call Hz Tryz.func136 rfl rfl rfl rfl (rwin_s _ R { s with ys := withY s.ys f } { p with py := py9, cy := cy9 } _ hk.l (Nat.lt_of_lt_of_le hk.n (by decide)) (by have := hk.rs; show s.rs.length ≤ _; omega) hk.co hk.ld (by have := hk.ms; show s.ms.length ≤ _; omega) (m47.into [(1, 1), (2, 2), (3, 3), (4, 4), (5, 5), (6, 6), (7, 7), (8, 8)] (by decide) rfl)) ?_
    rintro e w51 ⟨p2, rfl, hm51⟩
    have mx51 := m47.back hm51 [(1, 1), (2, 2), (3, 3), (4, 4), (5, 5), (6, 6), (7, 7), (8, 8)] (by decide); clear hm51 m47
    have m51 : MemOk _ _ [(1, _), (2, _), (3, _), (4, _), (5, _), (6, _), (7, _), (8, _), (50, _)] _ := mx51.only [1, 2, 3, 4, 5, 6, 7, 8, 50]; clear mx51
    refine ⟨_, rfl, ?_⟩; clear Hz Az; intro Az Hz
    refine hK _ _ ?_; clear hK K
    refine wpList_nil ?_
    try dsimp only [Exit.then]
    try refine out_here ?_
    refine (ret0 (fn := Tryz.f100) Hz rfl ?_)
    rw [voteOk_yes s f ok hb11 hb24 hb49]
    exact ⟨p2, rfl, m51.only [1, 2, 3, 4, 5, 6, 7, 8]⟩
   ·
    clear Hz; intro hb49 Hz
    try simp only [Q1x, Q2x, Q3x, Q4x, Q5x, Q6x, Q7x, Q8x, Q9x, Q0x, Qax, Qbx] at hb49
    refine wp_cond_false (Hz.ev (x := .tmp 25) rfl) ?_
    refine wp_skip ?_
    try dsimp only [Exit.then]
    try refine out_here ?_
    refine (ret0 (fn := Tryz.f100) Hz rfl ?_)
    rw [voteOk_wait s f ok hb11 hb24 hb49]
    exact ⟨{ p with py := py9, cy := cy9 }, rfl, m47.only [1, 2, 3, 4, 5, 6, 7, 8]⟩
end Go.Proofs.YtndnnlbdnjndiaaGreat.K
