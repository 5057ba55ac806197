/- General laws of walks. -/
import Derived.Test.YtndnnlbdnjndiaaGreatG20
import Derived.Test.YtndnnlbdnjndiaaGreatG21
import Derived.Test.YtndnnlbdnjndiaaGreatG4
import Derived.OpenShut
import Derived.Test.YtndnnlbdnjndiaaGreatG13
import Derived.Deep.Grids
section
namespace Go.Proofs.YtndnnlbdnjndiaaGreat.K
open Go.ChangeShapes Go.WideShapes Go.ChangeAt Go.RowKit Go.Sort
set_option linter.unusedVariables false
set_option linter.unusedSimpArgs false

theorem scanC_in (t c : Int) (m ts : List Int) : ∀ k : Nat, c ≤ scanC t c m ts k ∧ scanC t c m ts k ≤ c + k
 | 0 => ⟨Int.le_refl _, by show c ≤ c + ((0 : Nat) : Int); omega⟩
 | k + 1 => by
   have ih := scanC_in t c m ts k
   rw [scanC]; split <;> omega
theorem commitC_in (t c : Int) (m ts : List Int) : c ≤ commitC t c m ts ∧ commitC t c m ts ≤ c + ts.length := by
 unfold commitC; split
 · omega
 · exact scanC_in t c m ts ts.length
theorem commS_in (s : RS) : s.x.co ≤ commS s ∧ commS s ≤ max s.x.co (lastS s) := by
 have h := commitC_in s.x.te s.x.co (matchL s) (termsL s)
 rw [termsL_len] at h
 unfold commS; omega
structure VS (N T : Nat) (s : RS) : Prop where
 bi : s.bi = 0
 bt : s.bt = 0
 cf : s.cf = [0, 1, 2, 3]
 bd : s.bd = []
 n : s.es.length ≤ N
 e : ∀ e ∈ s.es, e.2.2.1 = 0 ∧ e.2.2.2 = [] ∧ 0 ≤ e.2.1 ∧ e.2.1 ≤ T
 q : Seq s.bi s.es
 te : 0 ≤ s.x.te ∧ s.x.te ≤ T
 id : 0 ≤ s.x.id ∧ s.x.id ≤ 2
 gr : s.x.gr = 1
 co : 0 ≤ s.x.co ∧ s.x.co ≤ N
 si : 0 ≤ s.x.si ∧ s.x.si ≤ N
 be : 0 ≤ s.x.be ∧ s.x.be ≤ N
 ys : s.ys.length ≤ N + 7
 nxs : s.x.ro = 3 → ∀ n, 0 < nx s.x n ∧ nx s.x n ≤ N + 1
theorem VS.last {N T : Nat} {s : RS} (h : VS N T s) : lastS s = s.es.length := by show s.bi + (s.es.length : Int) = _; rw [h.bi]; omega
theorem VS.mono {N T M U : Nat} {s : RS} (h : VS N T s) (hm : N ≤ M) (ht : T ≤ U) : VS M U s :=
 ⟨h.bi, h.bt, h.cf, h.bd, Nat.le_trans h.n hm, fun e he => ⟨(h.e e he).1, (h.e e he).2.1, (h.e e he).2.2.1, by have := (h.e e he).2.2.2; omega⟩, h.q, by have := h.te; omega, h.id, h.gr, by have := h.co; omega, by have := h.si; omega, by have := h.be; omega, by have := h.ys; omega, fun hr n => by have := h.nxs hr n; omega⟩
theorem VS.w {N T : Nat} {s : RS} (h : VS N T s) : WLS s :=
 ⟨fun e he h2 => by rw [(h.e e he).1] at h2; exact absurd h2 (by decide), h.q, by rw [h.cf]; decide⟩
theorem VS.l {N T : Nat} {s : RS} (h : VS N T s) (hN : N ≤ 800) : RLS s :=
 ⟨by rw [h.bi]; omega, by rw [h.cf]; decide, by rw [h.bd]; decide, by have := h.n; omega, fun e he => by rw [(h.e e he).2.1]; exact ⟨by decide, fun z hz => by cases hz⟩⟩
theorem VS.ok {N T : Nat} {s : RS} (h : VS N T s) (hN : N ≤ 790) (hT : T ≤ 100000) (hm : s.ms.length ≤ 100) (hr : s.rs.length ≤ 100) : ROk s :=
 ⟨h.l (by omega), by have := h.n; omega, by have := h.co; omega, by rw [h.last]; have := h.n; have := h.co; omega, by omega, by omega, by have := h.te; omega, by have := h.id; omega, by have := h.si; omega, by have := h.be; omega, by have := h.ys; omega⟩
theorem VS.clr {N T : Nat} {s : RS} (h : VS N T s) : VS N T (clrS s) := ⟨h.bi, h.bt, h.cf, h.bd, h.n, h.e, h.q, h.te, h.id, h.gr, h.co, h.si, h.be, h.ys, h.nxs⟩
theorem VS.am {N T : Nat} {s : RS} (h : VS N T s) (l : List RM) : VS N T (addM s l) := ⟨h.bi, h.bt, h.cf, h.bd, h.n, h.e, h.q, h.te, h.id, h.gr, h.co, h.si, h.be, h.ys, h.nxs⟩
theorem VS.hard {N T : Nat} {s : RS} (h : VS N T s) : VS N T (hardS s) := ⟨h.bi, h.bt, h.cf, h.bd, h.n, h.e, h.q, h.te, h.id, h.gr, h.co, h.si, h.be, h.ys, h.nxs⟩
theorem VS.wy {N T : Nat} {s : RS} (h : VS N T s) {ys : List Int} (hy : ys.length ≤ N + 7) : VS N T { s with ys := ys } := ⟨h.bi, h.bt, h.cf, h.bd, h.n, h.e, h.q, h.te, h.id, h.gr, h.co, h.si, h.be, hy, h.nxs⟩
theorem VS.down {N T : Nat} {s : RS} (h : VS N T s) {te : Int} (ht : te ≤ T) : VS N T (dnS s te) := by
 unfold dnS; split
 · exact ⟨h.bi, h.bt, h.cf, h.bd, h.n, h.e, h.q, by show 0 ≤ te ∧ te ≤ (T : Int); have := h.te; omega, h.id, h.gr, h.co, h.si, h.be, h.ys, fun hr => absurd hr (show ¬ ((0 : Int) = 3) by decide)⟩
 · exact h
theorem VS.run {N T : Nat} {s : RS} (h : VS N T s) {ro : Int} (hro : ro ≠ 3) : VS N T (runS s ro) := ⟨h.bi, h.bt, h.cf, h.bd, h.n, h.e, h.q, h.te, h.id, h.gr, h.co, h.si, h.be, by show 1 ≤ N + 7; omega, fun hr => absurd hr hro⟩
theorem VS.win {N T : Nat} {s : RS} (h : VS N T s) : VS (N + 1) T (winS s) := by
 have hl := h.last
 have hn := h.n
 have hc := commS_in (addE (withX s (begX { s.x with ro := 3, le := s.x.id } (lastS s))) 0 [])
 rw [add_last] at hc
 have hc : s.x.co ≤ commS (addE (withX s (begX { s.x with ro := 3, le := s.x.id } (lastS s))) 0 []) ∧ commS (addE (withX s (begX { s.x with ro := 3, le := s.x.id } (lastS s))) 0 []) ≤ max s.x.co (lastS s + 1) := hc
 have hco := h.co
 have hte := h.te
 refine ⟨h.bi, h.bt, h.cf, h.bd, ?_, ?_, (h.w.snoc0 s.x.te []).q, ?_, h.id, h.gr, ?_, ?_, ?_, ?_, ?_⟩
 · show (s.es ++ [_]).length ≤ N + 1
   rw [List.length_append]; simp; omega
 · intro e he
   have he : e ∈ s.es ++ [newE (withX s (begX { s.x with ro := 3, le := s.x.id } (lastS s))) 0 []] := he
   rcases List.mem_append.1 he with he | he
   · have := h.e e he
     refine ⟨this.1, this.2.1, this.2.2.1, ?_⟩
     have := this.2.2.2; omega
   · rw [List.mem_singleton] at he; subst he
     refine ⟨rfl, rfl, ?_, ?_⟩
     · show 0 ≤ s.x.te; omega
     · show s.x.te ≤ (T : Int); omega
 · show 0 ≤ s.x.te ∧ s.x.te ≤ (T : Int); omega
 · show 0 ≤ commS (addE (withX s (begX { s.x with ro := 3, le := s.x.id } (lastS s))) 0 []) ∧ commS (addE (withX s (begX { s.x with ro := 3, le := s.x.id } (lastS s))) 0 []) ≤ ((N + 1 : Nat) : Int)
   omega
 · show 0 ≤ s.x.si ∧ s.x.si ≤ ((N + 1 : Nat) : Int); have := h.si; omega
 · show 0 ≤ (0 : Int) ∧ (0 : Int) ≤ ((N + 1 : Nat) : Int); omega
 · show s.ys.length ≤ N + 1 + 7; have := h.ys; omega
 · intro _ n
   have e : nx (winS s).x n = lastS s + 1 := nx_all rfl rfl rfl rfl rfl rfl rfl
   rw [e]; omega
theorem VS.stand {N T : Nat} {s : RS} (h : VS N T s) : VS (N + 1) (T + 1) (standS s) := by
 have h1 : VS N (T + 1) (runS (hardS (withX s { s.x with te := s.x.te + 1, vo := s.x.id })) 2) := by
   refine VS.run ?_ (by decide)
   have g := h.mono (Nat.le_refl N) (Nat.le_succ T)
   exact ⟨g.bi, g.bt, g.cf, g.bd, g.n, g.e, g.q, by show 0 ≤ s.x.te + 1 ∧ s.x.te + 1 ≤ ((T + 1 : Nat) : Int); have := h.te; omega, g.id, g.gr, g.co, g.si, g.be, g.ys, g.nxs⟩
 unfold standS; dsimp only; split
 · exact h1.win
 · exact (h1.mono (Nat.le_succ _) (Nat.le_refl _)).am _
theorem VS.ask {N T : Nat} {s : RS} (h : VS N T s) : VS (N + 1) (T + 1) (askS s) := by
 have h1 : VS N T (runS s 1) := h.run (by decide)
 unfold askS; dsimp only; split
 · exact h1.stand
 · exact (h1.mono (Nat.le_succ _) (Nat.le_succ _)).am _
theorem VS.si0 {N T : Nat} {s : RS} (h : VS N T s) : VS N T (withX s { s.x with si := 0 }) := ⟨h.bi, h.bt, h.cf, h.bd, h.n, h.e, h.q, h.te, h.id, h.gr, h.co, by show 0 ≤ (0 : Int) ∧ (0 : Int) ≤ (N : Int); omega, h.be, h.ys, h.nxs⟩
theorem VS.si1 {N T : Nat} {s : RS} (h : VS N T s) : VS (N + 1) T (withX s { s.x with si := s.x.si + 1 }) := by
 have g := h.mono (Nat.le_succ N) (Nat.le_refl T)
 exact ⟨g.bi, g.bt, g.cf, g.bd, g.n, g.e, g.q, g.te, g.id, g.gr, g.co, by show 0 ≤ s.x.si + 1 ∧ s.x.si + 1 ≤ ((N + 1 : Nat) : Int); have := h.si; omega, g.be, g.ys, g.nxs⟩
theorem VS.be1 {N T : Nat} {s : RS} (h : VS N T s) : VS (N + 1) T (withX s { s.x with be := s.x.be + 1 }) := by
 have g := h.mono (Nat.le_succ N) (Nat.le_refl T)
 exact ⟨g.bi, g.bt, g.cf, g.bd, g.n, g.e, g.q, g.te, g.id, g.gr, g.co, g.si, by show 0 ≤ s.x.be + 1 ∧ s.x.be + 1 ≤ ((N + 1 : Nat) : Int); have := h.be; omega, g.ys, g.nxs⟩
theorem VS.be0 {N T : Nat} {s : RS} (h : VS N T s) : VS N T (withX s { s.x with be := 0 }) := ⟨h.bi, h.bt, h.cf, h.bd, h.n, h.e, h.q, h.te, h.id, h.gr, h.co, h.si, by show 0 ≤ (0 : Int) ∧ (0 : Int) ≤ (N : Int); omega, h.ys, h.nxs⟩
theorem VS.tick {N T : Nat} {s : RS} (h : VS N T s) : VS (N + 1) (T + 1) (tickS s) := by
 unfold tickS; dsimp only; split
 · split
   · exact (h.be1.mono (Nat.le_refl _) (Nat.le_succ _)).am _
   · exact h.be1.mono (Nat.le_refl _) (Nat.le_succ _)
 · split
   · exact VS.ask (s := withX s { s.x with si := 0 }) h.si0
   · exact h.si1.mono (Nat.le_refl _) (Nat.le_succ _)
theorem VS.tickw {N T : Nat} {s : RS} (h : VS N T s) : VS (N + 1) (T + 1) (tickW s) := by
 unfold tickW; split
 · split
   · exact (h.be0.mono (Nat.le_succ _) (Nat.le_succ _)).am _
   · exact h.be1.mono (Nat.le_refl _) (Nat.le_succ _)
 · split
   · exact h.si0.ask
   · exact h.si1.mono (Nat.le_refl _) (Nat.le_succ _)
theorem VS.grant {N T : Nat} {s : RS} (h : VS N T s) (f : Int) : VS N T (grantS s f) := by
 unfold grantS; dsimp only; split
 · exact h.si0
 · refine VS.si0 (VS.hard ?_)
   exact ⟨h.bi, h.bt, h.cf, h.bd, h.n, h.e, h.q, h.te, h.id, h.gr, h.co, h.si, h.be, h.ys, h.nxs⟩
theorem VS.vote {N T : Nat} {s : RS} (h : VS N T s) {te : Int} (ht : te ≤ T) (f ix lt : Int) : VS N T (voteW s f te ix lt) := by
 have h1 := h.down ht
 unfold voteW voteW1; dsimp only; split
 · exact h1.am _
 · refine VS.am ?_ _
   split
   · exact h1.grant f
   · exact h1
theorem VS.oks {N T : Nat} {s : RS} (h : VS N T s) (f : Int) (ok : Bool) : VS (N + 1) T (voteOkS s f ok) := by
 have h1 : VS N T { s with ys := withY s.ys f } := h.wy (Nat.le_trans (withY_len _ _) (by omega))
 unfold voteOkS; split
 · split
   · exact h1.win
   · exact h1.mono (Nat.le_succ _) (Nat.le_refl _)
 · exact h.mono (Nat.le_succ _) (Nat.le_refl _)
theorem VS.okp {N T : Nat} {s : RS} (h : VS N T s) {te : Int} (ht : te ≤ T) (f : Int) (ok : Bool) : VS (N + 1) T (voteOkP s f te ok) := by
 have h1 := h.down ht
 unfold voteOkP; split
 · exact h1.mono (Nat.le_succ _) (Nat.le_refl _)
 · exact h1.oks f ok
theorem VS.okw {N T : Nat} {s : RS} (h : VS N T s) {te : Int} (ht : te ≤ T) (f : Int) (ok : Bool) : VS (N + 2) T (voteOkW s f te ok) := by
 have h1 := h.down ht
 have h2 : VS (N + 1) T { dnS s te with ys := (dnS s te).ys ++ [f] } := (h1.mono (Nat.le_succ _) (Nat.le_refl _)).wy (by rw [List.length_append]; have := h1.ys; simp; omega)
 unfold voteOkW voteOkW1; split
 · exact h1.mono (by omega) (Nat.le_refl _)
 · split
   · split
     · exact h2.win
     · exact h2.mono (Nat.le_succ _) (Nat.le_refl _)
   · exact h1.mono (by omega) (Nat.le_refl _)
end Go.Proofs.YtndnnlbdnjndiaaGreat.K
end
section
namespace Go.Proofs.YtndnnlbdnjndiaaGreat.K
open Go.ChangeShapes Go.WideShapes Go.ChangeAt Go.RowKit Go.Sort
set_option linter.unusedVariables false
set_option linter.unusedSimpArgs false

def HS (s s' : RS) : Prop := s.x.te < s'.x.te ∨ (s.x.te = s'.x.te ∧ (s.x.vo = s'.x.vo ∨ s.x.vo < 0))
theorem HS.refl (s : RS) : HS s s := .inr ⟨rfl, .inl rfl⟩
theorem HS.trans {a b c : RS} (h : HS a b) (k : HS b c) : HS a c := by unfold HS at *; omega
theorem HS.same {s s' : RS} (h : s'.x.te = s.x.te) (k : s'.x.vo = s.x.vo) : HS s s' := .inr ⟨h.symm, .inl k.symm⟩
theorem HS.down (s : RS) (te : Int) : HS s (dnS s te) := by
 unfold dnS; split
 · exact .inl (by assumption)
 · exact HS.refl _
theorem HS.win (s : RS) : HS s (winS s) := HS.same rfl rfl
theorem HS.stand (s : RS) : HS s (standS s) := by
 have h1 : HS s (runS (hardS (withX s { s.x with te := s.x.te + 1, vo := s.x.id })) 2) := .inl (by show s.x.te < s.x.te + 1; omega)
 unfold standS; dsimp only; split
 · exact h1.trans (HS.win _)
 · exact h1.trans (HS.same rfl rfl)
theorem HS.ask (s : RS) : HS s (askS s) := by
 have h1 : HS s (runS s 1) := HS.same rfl rfl
 unfold askS; dsimp only; split
 · exact h1.trans (HS.stand _)
 · exact h1.trans (HS.same rfl rfl)
theorem HS.tick (s : RS) : HS s (tickS s) := by
 unfold tickS; dsimp only; split
 · split
   · exact HS.same rfl rfl
   · exact HS.same rfl rfl
 · split
   · exact HS.trans (b := withX s { s.x with si := 0 }) (HS.same rfl rfl) (HS.ask _)
   · exact HS.same rfl rfl
theorem vb_out {s : RS} {f ix lt : Int} (h : voteB s f ix lt = true) : s.x.vo < 0 ∨ s.x.vo = f := by
 unfold voteB at h
 rw [Bool.and_eq_true, Bool.or_eq_true, decide_eq_true_iff, decide_eq_true_iff] at h
 exact h.1
theorem gr_x (s : RS) (f : Int) : (grantS s f).x.te = s.x.te ∧ (grantS s f).x.vo = f := by
 unfold grantS; dsimp only; split
 · exact ⟨rfl, by assumption⟩
 · exact ⟨rfl, rfl⟩
theorem HS.grant {s : RS} {f : Int} (h : s.x.vo < 0 ∨ s.x.vo = f) : HS s (grantS s f) := by
 have := gr_x s f
 unfold HS; omega
theorem HS.vote (s : RS) (f te ix lt : Int) : HS s (voteW s f te ix lt) := by
 refine (HS.down s te).trans ?_
 unfold voteW voteW1; dsimp only; split
 · exact HS.same rfl rfl
 · split
   · rename_i h
     exact (HS.grant (vb_out h)).trans (HS.same rfl rfl)
   · exact HS.same rfl rfl
theorem HS.okp (s : RS) (f te : Int) (ok : Bool) : HS s (voteOkP s f te ok) := by
 refine (HS.down s te).trans ?_
 unfold voteOkP; split
 · exact HS.refl _
 · unfold voteOkS; split
   · split
     · exact HS.trans (b := { dnS s te with ys := withY (dnS s te).ys f }) (HS.same rfl rfl) (HS.win _)
     · exact HS.same rfl rfl
   · exact HS.refl _
theorem dn_ms (s : RS) (te : Int) : (dnS s te).ms = s.ms := by unfold dnS; split <;> rfl
def GrOk (s : RS) (m : RM) : Prop := m.k = 4 → m.ok = true → s.x.te = m.te ∧ s.x.vo = m.t
theorem vote_says (s : RS) (f te ix lt : Int) (hs : s.ms = []) : ∀ m ∈ (voteW s f te ix lt).ms, GrOk (voteW s f te ix lt) m := by
 have h0 := dn_ms s te
 rw [hs] at h0
 unfold voteW voteW1; dsimp only; split
 · intro m hm
   have hm : m ∈ (dnS s te).ms ++ [_] := hm
   rw [h0, List.nil_append, List.mem_singleton] at hm; subst hm
   intro _ h2; exact absurd h2 (show ¬ (false = true) by decide)
 · split
   · intro m hm
     have hm : m ∈ (grantS (dnS s te) f).ms ++ [_] := hm
     rw [gr_ms1, h0, List.nil_append, List.mem_singleton] at hm; subst hm
     intro _ _
     exact ⟨rfl, (gr_x (dnS s te) f).2⟩
   · rename_i hb
     intro m hm
     have hm : m ∈ (dnS s te).ms ++ [_] := hm
     rw [h0, List.nil_append, List.mem_singleton] at hm; subst hm
     intro _ h2
     exact absurd h2 hb
theorem win_says (s : RS) (hs : s.ms = []) : ∀ m ∈ (winS s).ms, m.k = 5 := by
 intro m hm
 have hm : m ∈ s.ms ++ (othS (addS (withX s (begX { s.x with ro := 3, le := s.x.id } (lastS s))) 0 [])).map _ := hm
 rw [hs, List.nil_append] at hm
 obtain ⟨n, _, rfl⟩ := List.mem_map.1 hm
 rfl
theorem okp_says (s : RS) (f te : Int) (ok : Bool) (hs : s.ms = []) : ∀ m ∈ (voteOkP s f te ok).ms, GrOk (voteOkP s f te ok) m := by
 have h0 := dn_ms s te
 rw [hs] at h0
 unfold voteOkP; split
 · intro m hm; rw [h0] at hm; cases hm
 · unfold voteOkS; split
   · split
     · intro m hm h4
       have := win_says { dnS s te with ys := withY (dnS s te).ys f } h0 m hm
       rw [this] at h4; exact absurd h4 (by decide)
     · intro m hm; have hm : m ∈ (dnS s te).ms := hm; rw [h0] at hm; cases hm
   · intro m hm; rw [h0] at hm; cases hm
def VI (l : List (Int × Int)) (s : RS) : Prop := ∀ v ∈ l, v.1 < s.x.te ∨ (v.1 = s.x.te ∧ (v.2 < 0 ∨ v.2 = s.x.vo))
theorem VI.step {l : List (Int × Int)} {s s' : RS} (h : VI l s) (k : HS s s') : VI l s' := by
 intro v hv
 have := h v hv
 unfold HS at k
 omega
theorem VI.push {l : List (Int × Int)} {s : RS} (h : VI l s) : VI (l ++ [(s.x.te, s.x.vo)]) s := by
 intro v hv
 rcases List.mem_append.1 hv with hv | hv
 · exact h v hv
 · rw [List.mem_singleton] at hv; subst hv; exact .inr ⟨rfl, .inr rfl⟩
theorem VI.nil (s : RS) : VI [] s := fun v hv => by cases hv
theorem VI.not {l : List (Int × Int)} {s : RS} (h : VI l s) {k : Nat} (hk : k < l.length) : ¬ (0 ≤ s.x.vo ∧ 0 ≤ (l.getD k (0, 0)).2 ∧ (l.getD k (0, 0)).1 = s.x.te ∧ (l.getD k (0, 0)).2 ≠ s.x.vo) := by
 have := h (l.getD k (0, 0)) (by rw [List.getD, List.getElem?_eq_getElem hk]; exact List.getElem_mem hk)
 omega
theorem HS.anew (s : RS) : HS s (newS s.x.id s.x.gr s.x.te s.x.vo s.bi s.bt s.cf s.bd s.es) := HS.same rfl rfl
theorem VS.anew {N T : Nat} {s : RS} (h : VS N T s) {id : Int} (hid : 0 ≤ id ∧ id ≤ 2) : VS N T (newS id 1 s.x.te s.x.vo s.bi s.bt s.cf s.bd s.es) := by
 have e : s.es.take (runN s.bi s.es) = s.es := Seq.run h.q
 refine ⟨h.bi, h.bt, h.cf, h.bd, ?_, ?_, ?_, h.te, ?_, ?_, ?_, ?_, ?_, ?_, ?_⟩
 · show (s.es.take (runN s.bi s.es)).length ≤ N; rw [e]; exact h.n
 · intro x hx
   have hx : x ∈ s.es.take (runN s.bi s.es) := hx
   rw [e] at hx; exact h.e x hx
 · show Seq s.bi (s.es.take (runN s.bi s.es)); rw [e]; exact h.q
 · show 0 ≤ min (max id 0) 6 ∧ min (max id 0) 6 ≤ 2; omega
 · show min (max (1 : Int) 0) 7 = 1; decide
 · show 0 ≤ s.bi ∧ s.bi ≤ (N : Int); rw [h.bi]; omega
 · show 0 ≤ (0 : Int) ∧ (0 : Int) ≤ (N : Int); omega
 · show 0 ≤ (0 : Int) ∧ (0 : Int) ≤ (N : Int); omega
 · show 0 ≤ N + 7; omega
 · exact fun hr => absurd hr (show ¬ ((0 : Int) = 3) by decide)
end Go.Proofs.YtndnnlbdnjndiaaGreat.K
end
namespace Go.Proofs.YtndnnlbdnjndiaaGreat.K
open Go.ChangeShapes Go.WideShapes Go.ChangeAt Go.RowKit
set_option linter.unusedVariables false
set_option linter.unusedSimpArgs false
section
theorem sz25tw : (Tryz.prog.info? 25).map (·.size) = some 2 := by kernel_rfl

def hdD (v : Int × Int) : List D := [.v (.int .i64 v.1), .v (.int .i64 v.2)]
set_option maxRecDepth 100000
set_option maxHeartbeats 4000000
theorem twice_b (vl : List (Int × Int)) (te vo : Int) (pa : Option Addr) (ca : Nat) (w0 : World) (hn : vl.length ≤ 100000) (h : ∀ v ∈ vl, v.1 < te ∨ (v.1 = te ∧ (v.2 < 0 ∨ v.2 = vo))) (hR : Rd (fun _ => True) w0 (.slice pa (vl.map hdD).length ca) (.l 2 (vl.map hdD))) :
   Calls Tryz.prog 21 #[.slice pa (vl.map hdD).length ca, .agg #[.int .i64 te, .int .i64 vo]] w0 fun e w' => e = .returned (.bool false) ∧ Below w0.heap.size w0 w' := by
 have hlm : (vl.map hdD).length = vl.length := List.length_map _
 refine enter (fn := Tryz.f21) Tryz.func21 rfl Tryz.ntmps21 rfl (fun Az Hz => ?_)
 simp only [List.zipIdx_cons, List.zipIdx_nil, List.map_cons, List.map_nil, Nat.reduceAdd, Nat.zero_add] at Hz
 have m0 := MemOk.start (fun _ => False) w0
 refine wp_seq_k (fun K0 hK0 => ?_)
 refine wp_region_lit ?_
 refine wpList_plain rfl (fun K hK => ?_)
 refine e_box Hz m0 20 (cs := [_, _]) rfl rfl rfl ?_
 clear Hz Az m0; intro g1 Az w2 Hz m2 hB2 hg2
 clear hB2 hg2
 refine hK _ _ ?_; clear hK K
 refine goCh Hz (.assign rfl .nil) ?_
 clear Hz Az; intro Az Hz
 refine wpList_nil ?_
 refine hK0 _ _ ?_; clear hK0; try clear K0
 refine wp_seq_k (fun K1 hK1 => ?_)
 refine regS Hz (.assign rfl <| .nil) ?_
 clear Hz Az; intro Az Hz
 refine wp_block ?_
 refine wp_loop_ghost (fun g a w => ∃ (k : Nat) (Bm : Nat), k ≤ vl.length ∧ g = vl.length - k ∧ Has 43 [(0, .slice pa (vl.map hdD).length ca), (3, .pointer (some ⟨Bm, 0, none⟩)), (5, .int .i64 (k : Nat))] a ∧ MemOk (cx (fun _ => False) w0) w0 [(20, .box Bm 25 [.int .i64 te, .int .i64 vo])] w) (vl.length) ?_ ?_
 · exact ⟨0, _, Nat.zero_le _, rfl, Hz.only [0, 3, 5], m2.ren [(20, 20)] (by decide)⟩
 ·
  clear Hz m2
  rintro g Az w5 ⟨k, Bm, hkl, hg, Hz, m5⟩
  refine wp_seq_k (fun K2 hK2 => ?_)
  refine regS Hz (.move rfl <| .move rfl <| .len rfl Tryz.underlying51 <| .lss rfl rfl <| .nil) ?_
  clear Hz Az; intro Az Hz
  refine bool_cases Hz (t := 9) rfl ?_ ?_
  ·
   clear Hz; intro hb10 Hz
   try simp only [Q1x, Q2x, Q3x, Q4x, Q5x, Q6x, Q7x, Q8x, Q9x, Q0x, Qax, Qbx] at hb10
   have hk : k < vl.length := by rw [List.length_map] at hb10; omega
   obtain ⟨⟨v1, v2⟩, hv⟩ : ∃ v, vl[k]? = some v := ⟨_, List.getElem?_eq_getElem hk⟩
   have hvi : v1 < te ∨ (v1 = te ∧ (v2 < 0 ∨ v2 = vo)) := h (v1, v2) (List.mem_of_getElem? hv)
   refine wp_cond_true (Hz.ev (x := .tmp 9) rfl) ?_
   refine wp_skip ?_
   refine hK2 _ _ ?_; clear hK2; try clear K2
   refine wp_seq_k (fun K3 hK3 => ?_)
   refine wp_block ?_
   refine wp_seq_k (fun K4 hK4 => ?_)
   obtain ⟨gx12, ox12, vx12, hp12, hl12, hR12, hrg12⟩ := hR.extA (k) (r := [.v (.int .i64 v1), .v (.int .i64 v2)]) (by rw [List.getElem?_map, hv]; rfl)
   cases hp12; clear hl12
   rcases hR12 with _ | ⟨hd12_0, _ | ⟨hd12_1, _ | _⟩⟩
   obtain rfl := hd12_0.v_out
   clear hd12_0
   obtain rfl := hd12_1.v_out
   clear hd12_1
   obtain ⟨gx14, ox14, vx14, hp14, hl14, hR14, hrg14⟩ := hR.extA (k) (r := [.v (.int .i64 v1), .v (.int .i64 v2)]) (by rw [List.getElem?_map, hv]; rfl)
   cases hp14; clear hl14
   rcases hR14 with _ | ⟨hd14_0, _ | ⟨hd14_1, _ | _⟩⟩
   obtain rfl := hd14_0.v_out
   clear hd14_0
   obtain rfl := hd14_1.v_out
   clear hd14_1
   obtain ⟨gx16, ox16, vx16, hp16, hl16, hR16, hrg16⟩ := hR.extA (k) (r := [.v (.int .i64 v1), .v (.int .i64 v2)]) (by rw [List.getElem?_map, hv]; rfl)
   cases hp16; clear hl16
   rcases hR16 with _ | ⟨hd16_0, _ | ⟨hd16_1, _ | _⟩⟩
   obtain rfl := hd16_0.v_out
   clear hd16_0
   obtain rfl := hd16_1.v_out
   clear hd16_1
   have m17 : MemOk _ _ [(20, _)] _ := m5.only [20]; clear m5
   refine region_p 31 (B := [(20, _)]) (m17.to ⟨il, trivial⟩) m17 (by kernel_rfl) (fun w18 hP18 m18 => ?_); clear m17
   refine goR hP18 [0, 1, 2, 3] [1] 4 0 15 Hz (m18.to ⟨il, trivial⟩) (.fieldAddr (off := 1) rfl Tryz.underlying25 rfl (s := 0) (by kernel_rfl) rfl <| .loadB1 hh (i := 20) rfl rfl rfl Tryz.underlying3 rfl <| .geq rfl rfl <| .move rfl <| .nil) ?_
   clear Hz Az; intro Az Hz
   refine bool_cases Hz (t := 15) rfl ?_ ?_
   ·
    clear Hz; intro hb23 Hz
    try simp only [Q1x, Q2x, Q3x, Q4x, Q5x, Q6x, Q7x, Q8x, Q9x, Q0x, Qax, Qbx] at hb23
    refine goR hP18 [4, 5, 6, 7, 8, 9, 10, 11] [8] 8 15 4095 Hz (m18.to ⟨il, trivial⟩) (.move rfl <| .move rfl <| .p (fun _ _ h_ => y_idx h_ rfl rfl Tryz.underlying51 sz25tw (k) rfl (by rw [List.length_map]; exact hk)) <| .fieldAddrQ 1 rfl Tryz.underlying25 rfl (s := 0) (by kernel_rfl) rfl <| .loadAt1 (fun _ h_ => (hrg12 h_ rfl)) (q := 1) rfl rfl rfl Tryz.underlying3 rfl <| .geq rfl rfl <| .pickT rfl rfl <| .move rfl <| .nil) ?_
    clear Hz Az; intro Az Hz
    refine bool_cases Hz (t := 23) rfl ?_ ?_
    ·
     clear Hz; intro hb32 Hz
     try simp only [Q1x, Q2x, Q3x, Q4x, Q5x, Q6x, Q7x, Q8x, Q9x, Q0x, Qax, Qbx] at hb32
     refine goR hP18 [12, 13, 14, 15, 16, 17, 18, 19, 20, 21] [16, 18] 10 4095 4194303 Hz (m18.to ⟨il, trivial⟩) (.move rfl <| .move rfl <| .p (fun _ _ h_ => y_idx h_ rfl rfl Tryz.underlying51 sz25tw (k) rfl (by rw [List.length_map]; exact hk)) <| .fieldAddrQ 0 rfl Tryz.underlying25 rfl (s := 0) (by kernel_rfl) rfl <| .loadAt1 (fun _ h_ => (hrg14 h_ rfl)) (q := 0) rfl rfl rfl Tryz.underlying3 rfl <| .fieldAddr (off := 0) rfl Tryz.underlying25 rfl (s := 0) (by kernel_rfl) rfl <| .loadB1 hh (i := 20) rfl rfl rfl Tryz.underlying3 rfl <| .eql rfl rfl <| .pickT rfl rfl <| .move rfl <| .nil) ?_
     clear Hz Az; intro Az Hz
     refine bool_cases Hz (t := 33) rfl ?_ ?_
     ·
      clear Hz; intro hb43 Hz
      try simp only [Q1x, Q2x, Q3x, Q4x, Q5x, Q6x, Q7x, Q8x, Q9x, Q0x, Qax, Qbx] at hb43
      refine goR hP18 [22, 23, 24, 25, 26, 27, 28, 29, 30] [26, 28] 9 4194303 2147483647 Hz (m18.to ⟨il, trivial⟩) (.move rfl <| .move rfl <| .p (fun _ _ h_ => y_idx h_ rfl rfl Tryz.underlying51 sz25tw (k) rfl (by rw [List.length_map]; exact hk)) <| .fieldAddrQ 1 rfl Tryz.underlying25 rfl (s := 0) (by kernel_rfl) rfl <| .loadAt1 (fun _ h_ => (hrg16 h_ rfl)) (q := 1) rfl rfl rfl Tryz.underlying3 rfl <| .fieldAddr (off := 1) rfl Tryz.underlying25 rfl (s := 0) (by kernel_rfl) rfl <| .loadB1 hh (i := 20) rfl rfl rfl Tryz.underlying3 rfl <| .neq rfl rfl <| .pickT rfl rfl <| .nil) ?_
      clear Hz Az; intro Az Hz
      refine wpAnyE_done (by kernel_rfl) ?_ _
      refine hK4 _ _ ?_; clear hK4; try clear K4
      refine bool_cases Hz (t := 42) rfl ?_ ?_
      · intro hb _; exact absurd hb (by simp; omega)
      clear Hz; intro _ Hz
      refine wp_cond_false (Hz.ev (x := .tmp 42) rfl) ?_
      refine wp_skip ?_
      refine hK3 _ _ ?_; clear hK3; try clear K3
      replace Hz : Has 43 [(0, _), (3, _), (5, _)] Az := Hz.only [0, 3, 5]
      refine wp_region_lit ?_
      refine goCh Hz (.move rfl <| .add rfl rfl (r := ((k + 1 : Nat) : Int)) (by rw [IntWalk.i64_in _ (by omega)]; omega) <| .assign rfl <| .nil) ?_
      clear Hz Az; intro Az Hz
      refine wpList_nil ?_
      show ∃ n', n' < _ ∧ _
      exact ⟨vl.length - (k + 1), by omega, k + 1, _, by omega, rfl, Hz.only [0, 3, 5], m18.only [20]⟩
     ·
      clear Hz; intro hb43 Hz
      try simp only [Q1x, Q2x, Q3x, Q4x, Q5x, Q6x, Q7x, Q8x, Q9x, Q0x, Qax, Qbx] at hb43
      refine goA hP18 [22, 23, 24, 25, 26, 27, 28, 29, 30] 9 4194303 2147483647 Hz (m18.to ⟨il, trivial⟩) (.s <| .s <| .s <| .s <| .s <| .s <| .s <| .s <| .pickF rfl rfl <| .nil) ?_
      clear Hz Az; intro Az Hz
      refine wpAnyE_done (by kernel_rfl) ?_ _
      refine hK4 _ _ ?_; clear hK4; try clear K4
      refine wp_cond_false (Hz.ev (x := .tmp 42) rfl) ?_
      refine wp_skip ?_
      refine hK3 _ _ ?_; clear hK3; try clear K3
      replace Hz : Has 43 [(0, _), (3, _), (5, _)] Az := Hz.only [0, 3, 5]
      refine wp_region_lit ?_
      refine goCh Hz (.move rfl <| .add rfl rfl (r := ((k + 1 : Nat) : Int)) (by rw [IntWalk.i64_in _ (by omega)]; omega) <| .assign rfl <| .nil) ?_
      clear Hz Az; intro Az Hz
      refine wpList_nil ?_
      show ∃ n', n' < _ ∧ _
      exact ⟨vl.length - (k + 1), by omega, k + 1, _, by omega, rfl, Hz.only [0, 3, 5], m18.only [20]⟩
    ·
     clear Hz; intro hb32 Hz
     try simp only [Q1x, Q2x, Q3x, Q4x, Q5x, Q6x, Q7x, Q8x, Q9x, Q0x, Qax, Qbx] at hb32
     refine goA hP18 [12, 13, 14, 15, 16, 17, 18, 19, 20, 21, 22, 23, 24, 25, 26, 27, 28, 29, 30] 19 4095 2147483647 Hz (m18.to ⟨il, trivial⟩) (.s <| .s <| .s <| .s <| .s <| .s <| .s <| .s <| .pickF rfl rfl <| .move rfl <| .s <| .s <| .s <| .s <| .s <| .s <| .s <| .s <| .pickF rfl rfl <| .nil) ?_
     clear Hz Az; intro Az Hz
     refine wpAnyE_done (by kernel_rfl) ?_ _
     refine hK4 _ _ ?_; clear hK4; try clear K4
     refine wp_cond_false (Hz.ev (x := .tmp 42) rfl) ?_
     refine wp_skip ?_
     refine hK3 _ _ ?_; clear hK3; try clear K3
     replace Hz : Has 43 [(0, _), (3, _), (5, _)] Az := Hz.only [0, 3, 5]
     refine wp_region_lit ?_
     refine goCh Hz (.move rfl <| .add rfl rfl (r := ((k + 1 : Nat) : Int)) (by rw [IntWalk.i64_in _ (by omega)]; omega) <| .assign rfl <| .nil) ?_
     clear Hz Az; intro Az Hz
     refine wpList_nil ?_
     show ∃ n', n' < _ ∧ _
     exact ⟨vl.length - (k + 1), by omega, k + 1, _, by omega, rfl, Hz.only [0, 3, 5], m18.only [20]⟩
   ·
    clear Hz; intro hb23 Hz
    try simp only [Q1x, Q2x, Q3x, Q4x, Q5x, Q6x, Q7x, Q8x, Q9x, Q0x, Qax, Qbx] at hb23
    refine goA hP18 [4, 5, 6, 7, 8, 9, 10, 11, 12, 13, 14, 15, 16, 17, 18, 19, 20, 21, 22, 23, 24, 25, 26, 27, 28, 29, 30] 27 15 2147483647 Hz (m18.to ⟨il, trivial⟩) (.s <| .s <| .s <| .s <| .s <| .s <| .pickF rfl rfl <| .move rfl <| .s <| .s <| .s <| .s <| .s <| .s <| .s <| .s <| .pickF rfl rfl <| .move rfl <| .s <| .s <| .s <| .s <| .s <| .s <| .s <| .s <| .pickF rfl rfl <| .nil) ?_
    clear Hz Az; intro Az Hz
    refine wpAnyE_done (by kernel_rfl) ?_ _
    refine hK4 _ _ ?_; clear hK4; try clear K4
    refine wp_cond_false (Hz.ev (x := .tmp 42) rfl) ?_
    refine wp_skip ?_
    refine hK3 _ _ ?_; clear hK3; try clear K3
    replace Hz : Has 43 [(0, _), (3, _), (5, _)] Az := Hz.only [0, 3, 5]
    refine wp_region_lit ?_
    refine goCh Hz (.move rfl <| .add rfl rfl (r := ((k + 1 : Nat) : Int)) (by rw [IntWalk.i64_in _ (by omega)]; omega) <| .assign rfl <| .nil) ?_
    clear Hz Az; intro Az Hz
    refine wpList_nil ?_
    show ∃ n', n' < _ ∧ _
    exact ⟨vl.length - (k + 1), by omega, k + 1, _, by omega, rfl, Hz.only [0, 3, 5], m18.only [20]⟩
  ·
   clear Hz; intro hb10 Hz
   try simp only [Q1x, Q2x, Q3x, Q4x, Q5x, Q6x, Q7x, Q8x, Q9x, Q0x, Qax, Qbx] at hb10
   refine wp_cond_false (Hz.ev (x := .tmp 9) rfl) ?_
   refine wp_exit ?_
   refine hK1 _ _ ?_; clear hK1; try clear K1
   refine regS Hz (.assign rfl <| .nil) ?_
   clear Hz Az; intro Az Hz
   refine wp_ret ?_
   try dsimp only [Exit.then, Exit.inBlock]
   refine (ret1 (fn := Tryz.f21) Hz rfl rfl ?_)
   exact ⟨rfl, m5.below⟩
end
section
abbrev a5S : List Shp := [.i .u8, .i .u8, .i .u8, .i .u8, .i .u8]
def f5 (x : Int × Int × Int × Int × Int) : List D := [.v (.int .u8 x.1), .v (.int .u8 x.2.1), .v (.int .u8 x.2.2.1), .v (.int .u8 x.2.2.2.1), .v (.int .u8 x.2.2.2.2)]
def B5 (x : Int × Int × Int × Int × Int) : Prop := (0 ≤ x.1 ∧ x.1 ≤ 255) ∧ (0 ≤ x.2.1 ∧ x.2.1 ≤ 255) ∧ (0 ≤ x.2.2.1 ∧ x.2.2.1 ≤ 255) ∧ (0 ≤ x.2.2.2.1 ∧ x.2.2.2.1 ≤ 255) ∧ 0 ≤ x.2.2.2.2 ∧ x.2.2.2.2 ≤ 255
theorem fitsA5 : Fits Tryz.prog 38 [.i .u8, .i .u8, .i .u8, .i .u8, .i .u8] := .arr Tryz.underlying38 (.int Tryz.underlying5) (by kernel_rfl) rfl (by kernel_rfl)
theorem fitsL5 : Fits Tryz.prog 22 [.l [.i .u8, .i .u8, .i .u8, .i .u8, .i .u8]] := .rows Tryz.underlying22 fitsA5 (by kernel_rfl) (by decide) (by kernel_rfl)
theorem f5_form {r : List D} (h : DOkL [.i .u8, .i .u8, .i .u8, .i .u8, .i .u8] r) : ∃ x : Int × Int × Int × Int × Int, r = f5 x ∧ B5 x := by
 obtain ⟨_, _, rfl, h0, h⟩ := h.cons_out
 obtain ⟨_, _, rfl, h1, h⟩ := h.cons_out
 obtain ⟨_, _, rfl, h2, h⟩ := h.cons_out
 obtain ⟨_, _, rfl, h3, h⟩ := h.cons_out
 obtain ⟨_, _, rfl, h4, h⟩ := h.cons_out
 obtain rfl := h.nil_out
 obtain ⟨z0, rfl, b0⟩ := h0.i_out
 obtain ⟨z1, rfl, b1⟩ := h1.i_out
 obtain ⟨z2, rfl, b2⟩ := h2.i_out
 obtain ⟨z3, rfl, b3⟩ := h3.i_out
 obtain ⟨z4, rfl, b4⟩ := h4.i_out
 exact ⟨(z0, z1, z2, z3, z4), rfl, bounds_u8 b0, bounds_u8 b1, bounds_u8 b2, bounds_u8 b3, bounds_u8 b4⟩
end
section
def upL (k : Nat) : List Int := (List.range k).map fun (n : Nat) => (n : Int)
abbrev poS (s : RS) (i : Int) : RS := clrS (preOkS s i 1)
abbrev voS (s : RS) (i : Int) : RS := clrS (voteOkS s i true)
def preN (s : RS) : Nat → RS
 | 0 => s
 | j + 1 => poS (preN s j) ((j : Int) + 1)
def votN (s : RS) : Nat → RS
 | 0 => s
 | j + 1 => voS (votN s j) ((j : Int) + 1)
def B0 (gr : Int) (k : Nat) : RS := newS 0 gr 0 (-1) 0 0 (upL k) [] []
def B1 (gr : Int) (k : Nat) : RS := tickN (B0 gr k) 10
def B2 (gr : Int) (k : Nat) : RS := preN (B1 gr k) (k - 1)
def B3 (gr : Int) (k : Nat) : RS := votN (B2 gr k) (k - 1)
def rcB (gr : Int) (s : RS) : Bool := rokB s && decide (s.x.gr = gr) && decide (s.x.id = 0)
def m0 : RM := ⟨0, 0, 0, 0, 0, 0, 0, 0, false, [], 0, 0, [], [], [], 0, 0, 0, 0⟩
def beatB (k j : Nat) : Bool :=
 let s := tickN (B3 2 k) j
 let l := (tickS s).ms
 tkB s && decide (s.x.ro = 3) && decide (l.length = if (j + 1) % 2 = 1 then 0 else k - 1) && (List.range l.length).all fun i =>
   let m := l.getD i m0
   decide (m.k = 5) && decide (m.t = (i : Int) + 1) && decide (m.g = 2) && decide (m.te = 1) && decide (m.es.length = 1)
end
section
def boD (b : Bool) : List D := [.v (.bool b)]
end
section
def ysB (G : List Bool) (k : Nat) : List Int := (upL k).filter fun n => G.getD n.toNat false
def cntB (G : List Bool) (k : Nat) : Nat := (G.take k).countP id
def E2 (k : Nat) : RS := preN (B1 1 k) (k / 2)
def LdS (k : Nat) : RS := clrS (winS (E2 k))
def stE (k : Nat) (G : List Bool) (y : List Int) : RS := if k < 2 * cntB G k then { LdS k with ys := y } else { E2 k with ys := ysB G k }
end
section
theorem fl46rrself : flatS Tryz.prog 46 [.slice none 0 0, .slice none 0 0, .bool false] = true := by kernel_rfl
theorem sz46rrself : (Tryz.prog.info? 46).map (·.size) = some 3 := by kernel_rfl
theorem zc46rrself : ((Tryz.prog.info? 46).bind (·.zero)).map (·.cells.toList) = some [.slice none 0 0, .slice none 0 0, .bool false] := by kernel_rfl

set_option maxRecDepth 100000
set_option maxHeartbeats 4000000
theorem rRecvSelf_s (X : Cx) (R : Nat) (s : RS) (p : RP) (k gm f t te ix lt co : Int) (ok : Bool) (w0 : World) (hg : gm = s.x.gr) (ht : t = s.x.id) (hf : f = s.x.id) (m0 : MemOk X w0 (rfM R s p) w0) :
   Calls Tryz.prog 23 #[.pointer (some ⟨R, 0, none⟩), .agg #[.int .i64 k, .int .i64 gm, .int .i64 f, .int .i64 t, .int .i64 te, .int .i64 ix, .int .i64 lt, .int .i64 co, .bool ok, .slice none 0 0, .int .i64 0, .int .i64 0, .slice none 0 0, .slice none 0 0, .slice none 0 0, .int .i64 0, .int .i64 0, .int .i64 0, .int .i64 0]] w0 fun e w' => e = .returned (.agg #[.slice none 0 0, .slice none 0 0, .bool false]) ∧ MemOk X w0 (rfM R s p) w' := by
 refine enter (fn := Tryz.f23) Tryz.func23 rfl Tryz.ntmps23 rfl (fun Az Hz => ?_)
 simp only [List.zipIdx_cons, List.zipIdx_nil, List.map_cons, List.map_nil, Nat.reduceAdd, Nat.zero_add] at Hz
 refine wp_seq_k (fun K0 hK0 => ?_)
 refine wp_region_lit ?_
 refine wpList_plain rfl (fun K hK => ?_)
 refine e_box Hz m0 70 (cs := [_, _, _, _, _, _, _, _, _, _, _, _, _, _, _, _, _, _, _]) rfl rfl rfl ?_
 clear Hz Az m0; intro g1 Az w2 Hz m2 hB2 hg2
 clear hB2 hg2
 refine hK _ _ ?_; clear hK K
 refine wpList_plain rfl (fun K hK => ?_)
 refine e_alloc Hz m2 71 zc46rrself rfl ?_
 clear Hz Az m2; intro g3 Az w4 Hz m4 hB4 hg4
 clear hB4 hg4
 refine hK _ _ ?_; clear hK K
 refine wpList_nil ?_
 refine hK0 _ _ ?_; clear hK0; try clear K0
 refine wp_seq_k (fun K1 hK1 => ?_)
 refine wp_seq_k (fun K2 hK2 => ?_)
 have m5 : MemOk _ _ [(1, _), (2, _), (3, _), (4, _), (5, _), (6, _), (7, _), (8, _), (70, _), (71, _)] _ := m4.only [1, 2, 3, 4, 5, 6, 7, 8, 70, 71]; clear m4
 refine region_p 28 (B := [(1, _), (2, _), (3, _), (4, _), (5, _), (6, _), (7, _), (8, _), (70, _), (71, _)]) (m5.to ⟨il, il, il, il, il, il, il, il, il, il, trivial⟩) m5 (by kernel_rfl) (fun w6 hP6 m6 => ?_); clear m5
 refine goR hP6 [0, 1, 2, 3, 4, 5, 6, 7, 8] [1, 6] 9 0 511 Hz (m6.to ⟨il, il, il, il, il, il, il, il, il, il, trivial⟩) (.fieldAddr (off := 1) rfl Tryz.underlying55 rfl (s := 0) (by kernel_rfl) rfl <| .loadB1 hh (i := 70) rfl rfl rfl Tryz.underlying3 rfl <| .move rfl <| .nilCheck rfl <| .fieldAddr (off := 0) rfl Tryz.underlying86 rfl (s := 4) (by kernel_rfl) rfl <| .fieldAddr (off := 1) rfl Tryz.underlying81 rfl (s := 0) (by kernel_rfl) rfl <| .loadB1 hh (i := 1) rfl rfl rfl Tryz.underlying3 rfl <| .neq rfl rfl <| .move rfl <| .nil) ?_
 clear Hz Az; intro Az Hz
 refine bool_cases Hz (t := 14) rfl ?_ ?_
 · intro hb _; exact absurd hb (by simp; omega)
 clear Hz; intro _ Hz
 refine goR hP6 [9, 10, 11, 12, 13, 14, 15, 16, 17, 18] [10, 15] 10 511 524287 Hz (m6.to ⟨il, il, il, il, il, il, il, il, il, il, trivial⟩) (.fieldAddr (off := 3) rfl Tryz.underlying55 rfl (s := 0) (by kernel_rfl) rfl <| .loadB1 hh (i := 70) rfl rfl rfl Tryz.underlying3 rfl <| .move rfl <| .nilCheck rfl <| .fieldAddr (off := 0) rfl Tryz.underlying86 rfl (s := 4) (by kernel_rfl) rfl <| .fieldAddr (off := 0) rfl Tryz.underlying81 rfl (s := 0) (by kernel_rfl) rfl <| .loadB1 hh (i := 1) rfl rfl rfl Tryz.underlying3 rfl <| .neq rfl rfl <| .pickF rfl rfl <| .move rfl <| .nil) ?_
 clear Hz Az; intro Az Hz
 refine bool_cases Hz (t := 24) rfl ?_ ?_
 · intro hb _; exact absurd hb (by simp; omega)
 clear Hz; intro _ Hz
 refine goR hP6 [19, 20, 21, 22, 23, 24, 25, 26, 27] [20, 25] 9 524287 268435455 Hz (m6.to ⟨il, il, il, il, il, il, il, il, il, il, trivial⟩) (.fieldAddr (off := 2) rfl Tryz.underlying55 rfl (s := 0) (by kernel_rfl) rfl <| .loadB1 hh (i := 70) rfl rfl rfl Tryz.underlying3 rfl <| .move rfl <| .nilCheck rfl <| .fieldAddr (off := 0) rfl Tryz.underlying86 rfl (s := 4) (by kernel_rfl) rfl <| .fieldAddr (off := 0) rfl Tryz.underlying81 rfl (s := 0) (by kernel_rfl) rfl <| .loadB1 hh (i := 1) rfl rfl rfl Tryz.underlying3 rfl <| .eql rfl rfl <| .pickF rfl rfl <| .nil) ?_
 clear Hz Az; intro Az Hz
 refine wpAnyE_done (by kernel_rfl) ?_ _
 refine hK2 _ _ ?_; clear hK2; try clear K2
 refine bool_cases Hz (t := 33) rfl ?_ ?_
 rotate_left
 · intro hb _; exact absurd hb (by simp; omega)
 clear Hz; intro _ Hz
 refine wp_cond_true (Hz.ev (x := .tmp 33) rfl) ?_
 replace Hz : Has 46 [(0, _), (3, _), (4, _)] Az := Hz.only [0, 3, 4]
 refine wp_seq_k (fun K3 hK3 => ?_)
 refine wp_region_lit ?_
 refine goCh Hz (.build rfl zc46rrself fl46rrself rfl (by dsimp only [setL, List.set] <;> rfl) .nil) ?_
 clear Hz Az; intro Az Hz
 refine wpList_plain rfl (fun K hK => ?_)
 refine e_storeW Hz m6 71 rfl rfl rfl rfl rfl sz46rrself ?_
 clear m6; intro w41 m41 hB41
 clear hB41
 refine hK _ _ ?_; clear hK K
 refine wpList_nil ?_
 refine hK3 _ _ ?_; clear hK3; try clear K3
 refine wp_ret ?_
 try dsimp only [Exit.then, Exit.inBlock]
 refine (retC (fn := Tryz.f23) Hz m41 (i := 71) rfl rfl rfl Tryz.underlying46 rfl sz46rrself ?_)
 exact ⟨rfl, m41.only [1, 2, 3, 4, 5, 6, 7, 8]⟩
end
section
theorem fl48wRs : flatS Tryz.prog 48 [.slice none 0 0, .slice none 0 0, .bool false] = true := by kernel_rfl
theorem sz48wRs : (Tryz.prog.info? 48).map (·.size) = some 3 := by kernel_rfl
theorem zc48wRs : ((Tryz.prog.info? 48).bind (·.zero)).map (·.cells.toList) = some [.slice none 0 0, .slice none 0 0, .bool false] := by kernel_rfl

set_option maxRecDepth 100000
set_option maxHeartbeats 4000000
theorem wRecvSelf_s (X : Cx) (R : Nat) (s : RS) (p : RP) (k gm f t te ix lt co : Int) (ok : Bool) (w0 : World) (hg : gm = s.x.gr) (ht : t = s.x.id) (hf : f = s.x.id) (m0 : MemOk X w0 (rwM R s p) w0) :
   Calls Tryz.prog 24 #[.pointer (some ⟨R, 0, none⟩), .agg #[.int .i64 k, .int .i64 gm, .int .i64 f, .int .i64 t, .int .i64 te, .int .i64 ix, .int .i64 lt, .int .i64 co, .bool ok, .slice none 0 0, .int .i64 0, .int .i64 0, .slice none 0 0, .slice none 0 0, .slice none 0 0, .int .i64 0, .int .i64 0, .int .i64 0, .int .i64 0]] w0 fun e w' => e = .returned (.agg #[.slice none 0 0, .slice none 0 0, .bool false]) ∧ MemOk X w0 (rwM R s p) w' := by
 refine enter (fn := Tryz.f24) Tryz.func24 rfl Tryz.ntmps24 rfl (fun Az Hz => ?_)
 simp only [List.zipIdx_cons, List.zipIdx_nil, List.map_cons, List.map_nil, Nat.reduceAdd, Nat.zero_add] at Hz
 refine wp_seq_k (fun K0 hK0 => ?_)
 refine wp_region_lit ?_
 refine wpList_plain rfl (fun K hK => ?_)
 refine e_box Hz m0 70 (cs := [_, _, _, _, _, _, _, _, _, _, _, _, _, _, _, _, _, _, _]) rfl rfl rfl ?_
 clear Hz Az m0; intro g1 Az w2 Hz m2 hB2 hg2
 clear hB2 hg2
 refine hK _ _ ?_; clear hK K
 refine wpList_plain rfl (fun K hK => ?_)
 refine e_alloc Hz m2 71 zc48wRs rfl ?_
 clear Hz Az m2; intro g3 Az w4 Hz m4 hB4 hg4
 clear hB4 hg4
 refine hK _ _ ?_; clear hK K
 refine wpList_nil ?_
 refine hK0 _ _ ?_; clear hK0; try clear K0
 refine wp_seq_k (fun K1 hK1 => ?_)
 refine wp_seq_k (fun K2 hK2 => ?_)
 have m5 : MemOk _ _ [(1, _), (2, _), (3, _), (4, _), (5, _), (6, _), (7, _), (8, _), (70, _), (71, _)] _ := m4.only [1, 2, 3, 4, 5, 6, 7, 8, 70, 71]; clear m4
 refine region_p 25 (B := [(1, _), (2, _), (3, _), (4, _), (5, _), (6, _), (7, _), (8, _), (70, _), (71, _)]) (m5.to ⟨il, il, il, il, il, il, il, il, il, il, trivial⟩) m5 (by kernel_rfl) (fun w6 hP6 m6 => ?_); clear m5
 refine goR hP6 [0, 1, 2, 3, 4, 5, 6, 7] [1, 5] 8 0 255 Hz (m6.to ⟨il, il, il, il, il, il, il, il, il, il, trivial⟩) (.fieldAddr (off := 1) rfl Tryz.underlying55 rfl (s := 0) (by kernel_rfl) rfl <| .loadB1 hh (i := 70) rfl rfl rfl Tryz.underlying3 rfl <| .move rfl <| .nilCheck rfl <| .fieldAddr (off := 1) rfl Tryz.underlying91 rfl (s := 0) (by kernel_rfl) rfl <| .loadB1 hh (i := 1) rfl rfl rfl Tryz.underlying3 rfl <| .neq rfl rfl <| .move rfl <| .nil) ?_
 clear Hz Az; intro Az Hz
 refine bool_cases Hz (t := 14) rfl ?_ ?_
 · intro hb _; exact absurd hb (by simp; omega)
 clear Hz; intro _ Hz
 refine goR hP6 [8, 9, 10, 11, 12, 13, 14, 15, 16] [9, 13] 9 255 131071 Hz (m6.to ⟨il, il, il, il, il, il, il, il, il, il, trivial⟩) (.fieldAddr (off := 3) rfl Tryz.underlying55 rfl (s := 0) (by kernel_rfl) rfl <| .loadB1 hh (i := 70) rfl rfl rfl Tryz.underlying3 rfl <| .move rfl <| .nilCheck rfl <| .fieldAddr (off := 0) rfl Tryz.underlying91 rfl (s := 0) (by kernel_rfl) rfl <| .loadB1 hh (i := 1) rfl rfl rfl Tryz.underlying3 rfl <| .neq rfl rfl <| .pickF rfl rfl <| .move rfl <| .nil) ?_
 clear Hz Az; intro Az Hz
 refine bool_cases Hz (t := 23) rfl ?_ ?_
 · intro hb _; exact absurd hb (by simp; omega)
 clear Hz; intro _ Hz
 refine goR hP6 [17, 18, 19, 20, 21, 22, 23, 24] [18, 22] 8 131071 33554431 Hz (m6.to ⟨il, il, il, il, il, il, il, il, il, il, trivial⟩) (.fieldAddr (off := 2) rfl Tryz.underlying55 rfl (s := 0) (by kernel_rfl) rfl <| .loadB1 hh (i := 70) rfl rfl rfl Tryz.underlying3 rfl <| .move rfl <| .nilCheck rfl <| .fieldAddr (off := 0) rfl Tryz.underlying91 rfl (s := 0) (by kernel_rfl) rfl <| .loadB1 hh (i := 1) rfl rfl rfl Tryz.underlying3 rfl <| .eql rfl rfl <| .pickF rfl rfl <| .nil) ?_
 clear Hz Az; intro Az Hz
 refine wpAnyE_done (by kernel_rfl) ?_ _
 refine hK2 _ _ ?_; clear hK2; try clear K2
 refine bool_cases Hz (t := 31) rfl ?_ ?_
 rotate_left
 · intro hb _; exact absurd hb (by simp; omega)
 clear Hz; intro _ Hz
 refine wp_cond_true (Hz.ev (x := .tmp 31) rfl) ?_
 replace Hz : Has 152 [(0, _), (3, _), (4, _)] Az := Hz.only [0, 3, 4]
 refine wp_seq_k (fun K3 hK3 => ?_)
 refine wp_region_lit ?_
 refine goCh Hz (.build rfl zc48wRs fl48wRs rfl (by dsimp only [setL, List.set] <;> rfl) .nil) ?_
 clear Hz Az; intro Az Hz
 refine wpList_plain rfl (fun K hK => ?_)
 refine e_storeW Hz m6 71 rfl rfl rfl rfl rfl sz48wRs ?_
 clear m6; intro w38 m38 hB38
 clear hB38
 refine hK _ _ ?_; clear hK K
 refine wpList_nil ?_
 refine hK3 _ _ ?_; clear hK3; try clear K3
 refine wp_ret ?_
 try dsimp only [Exit.then, Exit.inBlock]
 refine (retC (fn := Tryz.f24) Hz m38 (i := 71) rfl rfl rfl Tryz.underlying48 rfl sz48wRs ?_)
 exact ⟨rfl, m38.only [1, 2, 3, 4, 5, 6, 7, 8]⟩
end
section
theorem stand_id (s : RS) : (standS s).x.id = s.x.id := by unfold standS; dsimp only; split <;> rfl
theorem ask_id (s : RS) : (askS s).x.id = s.x.id := by
 unfold askS; dsimp only; split
 · exact stand_id _
 · rfl
theorem tick_id (s : RS) : (tickS s).x.id = s.x.id := by
 unfold tickS; dsimp only; split
 · split <;> rfl
 · split
   · exact ask_id _
   · rfl
theorem tickw_id (s : RS) : (tickW s).x.id = s.x.id := by
 unfold tickW; split
 · split <;> rfl
 · split
   · exact ask_id _
   · rfl
theorem dn_id (s : RS) (te : Int) : (dnS s te).x.id = s.x.id := by unfold dnS; split <;> rfl
theorem dn_rs (s : RS) (te : Int) : (dnS s te).rs.length ≤ s.rs.length + 1 := by
 unfold dnS; split
 · show (s.rs ++ [_]).length ≤ _; rw [List.length_append]; simp
 · omega
theorem gr_id (s : RS) (f : Int) : (grantS s f).x.id = s.x.id := by unfold grantS; dsimp only; split <;> rfl
theorem vote_id (s : RS) (f te ix lt : Int) : (voteW s f te ix lt).x.id = s.x.id := by
 unfold voteW voteW1; dsimp only; split
 · exact dn_id s te
 · split
   · exact (gr_id (dnS s te) f).trans (dn_id s te)
   · exact dn_id s te
theorem okp_id (s : RS) (f te : Int) (ok : Bool) : (voteOkP s f te ok).x.id = s.x.id := by
 unfold voteOkP voteOkS; split
 · exact dn_id s te
 · split
   · split <;> exact dn_id s te
   · exact dn_id s te
theorem okw_id (s : RS) (f te : Int) (ok : Bool) : (voteOkW s f te ok).x.id = s.x.id := by
 unfold voteOkW voteOkW1; split
 · exact dn_id s te
 · split
   · split <;> exact dn_id s te
   · exact dn_id s te
theorem vote_len (s : RS) (f te ix lt : Int) (hs : s.ms = []) : (voteW s f te ix lt).ms.length ≤ 8 := by
 have h0 := dn_ms s te
 rw [hs] at h0
 unfold voteW voteW1; dsimp only; split
 · show ((dnS s te).ms ++ [_]).length ≤ 8; rw [h0]; exact (show 1 ≤ 8 by decide)
 · split
   · show ((grantS (dnS s te) f).ms ++ [_]).length ≤ 8; rw [gr_ms1, h0]; exact (show 1 ≤ 8 by decide)
   · show ((dnS s te).ms ++ [_]).length ≤ 8; rw [h0]; exact (show 1 ≤ 8 by decide)
theorem win_len (s : RS) (hs : s.ms = []) : (winS s).ms.length ≤ 8 := by
 show (s.ms ++ (othS (addS (withX s (begX { s.x with ro := 3, le := s.x.id } (lastS s))) 0 [])).map _).length ≤ 8
 rw [hs, List.nil_append, List.length_map]
 exact Nat.le_trans (othS_len _) (by decide)
theorem okp_len (s : RS) (f te : Int) (ok : Bool) (hs : s.ms = []) : (voteOkP s f te ok).ms.length ≤ 8 := by
 have h0 := dn_ms s te
 rw [hs] at h0
 unfold voteOkP voteOkS; split
 · rw [h0]; exact Nat.zero_le 8
 · split
   · split
     · exact win_len _ h0
     · show (dnS s te).ms.length ≤ 8; rw [h0]; exact Nat.zero_le 8
   · rw [h0]; exact Nat.zero_le 8
set_option maxRecDepth 100000
set_option maxHeartbeats 4000000
theorem pTick_v (X : Cx) (R : Nat) {N T : Nat} (s : RS) (p : RP) (w0 : World) (h : VS N T s) (hN : N ≤ 700) (hT : T ≤ 90000) (m0 : MemOk X w0 (rfM R (clrS s) (nilP p)) w0) :
   Calls Tryz.prog 18 #[.pointer (some ⟨R, 0, none⟩)] w0 fun e w' => ∃ s' p' o', e = .returned (.agg #[.slice o'.pm (s'.ms.map rmD).length o'.cm, .slice o'.pq (s'.rs.map rrD).length o'.cq, .bool s'.re]) ∧ VS (N + 1) (T + 1) s' ∧ HS s s' ∧ s'.x.id = s.x.id ∧ MemOk X w0 (ouM s' o' (rfM R (clrS s') (nilP p'))) w' := by
 refine (rtick_s X R (clrS s) (nilP p) w0 (h.clr.ok (by omega) (by omega) (show 0 ≤ 100 by decide) (show 0 ≤ 100 by decide)) (fun hr n _ => by have := h.nxs hr n; show s.bi < nx s.x n ∧ nx s.x n ≤ 1000000000000000000; rw [h.bi]; omega) m0).mono ?_
 rintro e w' ⟨p', o', rfl, hm⟩
 exact ⟨tickS (clrS s), p', o', rfl, h.clr.tick, HS.tick (clrS s), tick_id (clrS s), hm⟩
theorem wTick_v (X : Cx) (R : Nat) {N T : Nat} (s : RS) (p : RP) (w0 : World) (h : VS N T s) (hN : N ≤ 700) (hT : T ≤ 90000) (m0 : MemOk X w0 (rwM R (clrS s) (nilP p)) w0) :
   Calls Tryz.prog 19 #[.pointer (some ⟨R, 0, none⟩)] w0 fun e w' => ∃ s' p' o', e = .returned (.agg #[.slice o'.pm (s'.ms.map rmD).length o'.cm, .slice o'.pq (s'.rs.map rrD).length o'.cq, .bool s'.re]) ∧ VS (N + 1) (T + 1) s' ∧ s'.x.id = s.x.id ∧ MemOk X w0 (ouM s' o' (rwM R (clrS s') (nilP p'))) w' := by
 refine (wtick_s X R (clrS s) (nilP p) w0 (h.clr.ok (by omega) (by omega) (show 0 ≤ 100 by decide) (show 0 ≤ 100 by decide)) h.clr.w (fun hr n _ => by have := h.nxs hr n; show s.bi < nx s.x n ∧ nx s.x n ≤ 1000000000000000000; rw [h.bi]; omega) m0).mono ?_
 rintro e w' ⟨p', o', rfl, hm⟩
 exact ⟨tickW (clrS s), p', o', rfl, h.clr.tickw, tickw_id (clrS s), hm⟩
theorem pVote_v (X : Cx) (R : Nat) {N T : Nat} (s : RS) (p : RP) (gm f t te ix lt co : Int) (ok : Bool) (w0 : World) (h : VS N T s) (hN : N ≤ 700) (hT : T ≤ 90000) (hg : gm = 1) (ht : t = s.x.id) (hte : te ≤ T) (m0 : MemOk X w0 (rfM R (clrS s) (nilP p)) w0) :
   Calls Tryz.prog 23 #[.pointer (some ⟨R, 0, none⟩), .agg #[.int .i64 3, .int .i64 gm, .int .i64 f, .int .i64 t, .int .i64 te, .int .i64 ix, .int .i64 lt, .int .i64 co, .bool ok, .slice none 0 0, .int .i64 0, .int .i64 0, .slice none 0 0, .slice none 0 0, .slice none 0 0, .int .i64 0, .int .i64 0, .int .i64 0, .int .i64 0]] w0 fun e w' => ∃ s' p' o', e = .returned (.agg #[.slice o'.pm (s'.ms.map rmD).length o'.cm, .slice o'.pq (s'.rs.map rrD).length o'.cq, .bool s'.re]) ∧ VS (N + 2) T s' ∧ HS s s' ∧ (∀ m ∈ s'.ms, GrOk s' m) ∧ s'.ms.length ≤ 8 ∧ s'.x.id = s.x.id ∧ MemOk X w0 (ouM s' o' (rfM R (clrS s') (nilP p'))) w' := by
 by_cases hf : f = s.x.id
 · refine (rRecvSelf_s X R (clrS s) (nilP p) 3 gm f t te ix lt co ok w0 (hg.trans h.gr.symm) ht hf m0).mono ?_
   rintro e w' ⟨rfl, hm⟩
   have md := (hm.nilS 11 55 19).nilS 12 118 12
   exact ⟨clrS s, p, ⟨none, none, 0, 0⟩, rfl, h.clr.mono (by omega) (Nat.le_refl _), HS.same rfl rfl, (fun m hm => by cases hm), Nat.zero_le 8, rfl, md.only [11, 12, 1, 2, 3, 4, 5, 6, 7, 8]⟩
 · refine (rRecvVote_s X R (clrS s) (nilP p) gm f t te ix lt co ok w0 (h.clr.ok (by omega) (by omega) (show 0 ≤ 100 by decide) (show 0 ≤ 100 by decide)) (hg.trans h.gr.symm) ht hf ((h.clr.down hte).ok (by omega) (by omega) (by rw [dn_ms]; exact Nat.zero_le 100) (Nat.le_trans (dn_rs _ _) (show 0 + 1 ≤ 100 by decide))) m0).mono ?_
   rintro e w' ⟨p', o', rfl, hm⟩
   exact ⟨(voteW (clrS s) f te ix lt), p', o', rfl, (h.clr.vote hte f ix lt).mono (by omega) (Nat.le_refl _), HS.vote (clrS s) f te ix lt, vote_says (clrS s) f te ix lt rfl, vote_len (clrS s) f te ix lt rfl, vote_id (clrS s) f te ix lt, hm⟩
theorem pOk_v (X : Cx) (R : Nat) {N T : Nat} (s : RS) (p : RP) (gm f t te ix lt co : Int) (ok : Bool) (w0 : World) (h : VS N T s) (hN : N ≤ 700) (hT : T ≤ 90000) (hg : gm = 1) (ht : t = s.x.id) (hte : te ≤ T) (m0 : MemOk X w0 (rfM R (clrS s) (nilP p)) w0) :
   Calls Tryz.prog 23 #[.pointer (some ⟨R, 0, none⟩), .agg #[.int .i64 4, .int .i64 gm, .int .i64 f, .int .i64 t, .int .i64 te, .int .i64 ix, .int .i64 lt, .int .i64 co, .bool ok, .slice none 0 0, .int .i64 0, .int .i64 0, .slice none 0 0, .slice none 0 0, .slice none 0 0, .int .i64 0, .int .i64 0, .int .i64 0, .int .i64 0]] w0 fun e w' => ∃ s' p' o', e = .returned (.agg #[.slice o'.pm (s'.ms.map rmD).length o'.cm, .slice o'.pq (s'.rs.map rrD).length o'.cq, .bool s'.re]) ∧ VS (N + 2) T s' ∧ HS s s' ∧ (∀ m ∈ s'.ms, GrOk s' m) ∧ s'.ms.length ≤ 8 ∧ s'.x.id = s.x.id ∧ MemOk X w0 (ouM s' o' (rfM R (clrS s') (nilP p'))) w' := by
 by_cases hf : f = s.x.id
 · refine (rRecvSelf_s X R (clrS s) (nilP p) 4 gm f t te ix lt co ok w0 (hg.trans h.gr.symm) ht hf m0).mono ?_
   rintro e w' ⟨rfl, hm⟩
   have md := (hm.nilS 11 55 19).nilS 12 118 12
   exact ⟨clrS s, p, ⟨none, none, 0, 0⟩, rfl, h.clr.mono (by omega) (Nat.le_refl _), HS.same rfl rfl, (fun m hm => by cases hm), Nat.zero_le 8, rfl, md.only [11, 12, 1, 2, 3, 4, 5, 6, 7, 8]⟩
 · refine (rRecvVoteAny_s X R (clrS s) (nilP p) gm f t te ix lt co ok w0 (h.clr.ok (by omega) (by omega) (show 0 ≤ 100 by decide) (show 0 ≤ 100 by decide)) (hg.trans h.gr.symm) ht hf ((h.clr.down hte).ok (by omega) (by omega) (by rw [dn_ms]; exact Nat.zero_le 100) (Nat.le_trans (dn_rs _ _) (show 0 + 1 ≤ 100 by decide))) m0).mono ?_
   rintro e w' ⟨p', o', rfl, hm⟩
   exact ⟨(voteOkP (clrS s) f te ok), p', o', rfl, (h.clr.okp hte f ok).mono (by omega) (Nat.le_refl _), HS.okp (clrS s) f te ok, okp_says (clrS s) f te ok rfl, okp_len (clrS s) f te ok rfl, okp_id (clrS s) f te ok, hm⟩
theorem wVote_v (X : Cx) (R : Nat) {N T : Nat} (s : RS) (p : RP) (gm f t te ix lt co : Int) (ok : Bool) (w0 : World) (h : VS N T s) (hN : N ≤ 700) (hT : T ≤ 90000) (hg : gm = 1) (ht : t = s.x.id) (hte : te ≤ T) (m0 : MemOk X w0 (rwM R (clrS s) (nilP p)) w0) :
   Calls Tryz.prog 24 #[.pointer (some ⟨R, 0, none⟩), .agg #[.int .i64 3, .int .i64 gm, .int .i64 f, .int .i64 t, .int .i64 te, .int .i64 ix, .int .i64 lt, .int .i64 co, .bool ok, .slice none 0 0, .int .i64 0, .int .i64 0, .slice none 0 0, .slice none 0 0, .slice none 0 0, .int .i64 0, .int .i64 0, .int .i64 0, .int .i64 0]] w0 fun e w' => ∃ s' p' o', e = .returned (.agg #[.slice o'.pm (s'.ms.map rmD).length o'.cm, .slice o'.pq (s'.rs.map rrD).length o'.cq, .bool s'.re]) ∧ VS (N + 2) T s' ∧ s'.x.id = s.x.id ∧ MemOk X w0 (ouM s' o' (rwM R (clrS s') (nilP p'))) w' := by
 by_cases hf : f = s.x.id
 · refine (wRecvSelf_s X R (clrS s) (nilP p) 3 gm f t te ix lt co ok w0 (hg.trans h.gr.symm) ht hf m0).mono ?_
   rintro e w' ⟨rfl, hm⟩
   have md := (hm.nilS 11 55 19).nilS 12 118 12
   exact ⟨clrS s, p, ⟨none, none, 0, 0⟩, rfl, h.clr.mono (by omega) (Nat.le_refl _), rfl, md.only [11, 12, 1, 2, 3, 4, 5, 6, 7, 8]⟩
 · refine (wRecvVote_s X R (clrS s) (nilP p) gm f t te ix lt co ok w0 (h.clr.ok (by omega) (by omega) (show 0 ≤ 100 by decide) (show 0 ≤ 100 by decide)) (hg.trans h.gr.symm) ht hf ((h.clr.down hte).ok (by omega) (by omega) (by rw [dn_ms]; exact Nat.zero_le 100) (Nat.le_trans (dn_rs _ _) (show 0 + 1 ≤ 100 by decide))) (h.clr.down hte).w m0).mono ?_
   rintro e w' ⟨p', o', rfl, hm⟩
   exact ⟨(voteW (clrS s) f te ix lt), p', o', rfl, (h.clr.vote hte f ix lt).mono (by omega) (Nat.le_refl _), vote_id (clrS s) f te ix lt, hm⟩
theorem wOk_v (X : Cx) (R : Nat) {N T : Nat} (s : RS) (p : RP) (gm f t te ix lt co : Int) (ok : Bool) (w0 : World) (h : VS N T s) (hN : N ≤ 700) (hT : T ≤ 90000) (hg : gm = 1) (ht : t = s.x.id) (hte : te ≤ T) (m0 : MemOk X w0 (rwM R (clrS s) (nilP p)) w0) :
   Calls Tryz.prog 24 #[.pointer (some ⟨R, 0, none⟩), .agg #[.int .i64 4, .int .i64 gm, .int .i64 f, .int .i64 t, .int .i64 te, .int .i64 ix, .int .i64 lt, .int .i64 co, .bool ok, .slice none 0 0, .int .i64 0, .int .i64 0, .slice none 0 0, .slice none 0 0, .slice none 0 0, .int .i64 0, .int .i64 0, .int .i64 0, .int .i64 0]] w0 fun e w' => ∃ s' p' o', e = .returned (.agg #[.slice o'.pm (s'.ms.map rmD).length o'.cm, .slice o'.pq (s'.rs.map rrD).length o'.cq, .bool s'.re]) ∧ VS (N + 2) T s' ∧ s'.x.id = s.x.id ∧ MemOk X w0 (ouM s' o' (rwM R (clrS s') (nilP p'))) w' := by
 by_cases hf : f = s.x.id
 · refine (wRecvSelf_s X R (clrS s) (nilP p) 4 gm f t te ix lt co ok w0 (hg.trans h.gr.symm) ht hf m0).mono ?_
   rintro e w' ⟨rfl, hm⟩
   have md := (hm.nilS 11 55 19).nilS 12 118 12
   exact ⟨clrS s, p, ⟨none, none, 0, 0⟩, rfl, h.clr.mono (by omega) (Nat.le_refl _), rfl, md.only [11, 12, 1, 2, 3, 4, 5, 6, 7, 8]⟩
 · refine (wRecvVoteOk_s X R (clrS s) (nilP p) gm f t te ix lt co ok w0 (h.clr.ok (by omega) (by omega) (show 0 ≤ 100 by decide) (show 0 ≤ 100 by decide)) (hg.trans h.gr.symm) ht hf ((h.clr.down hte).ok (by omega) (by omega) (by rw [dn_ms]; exact Nat.zero_le 100) (Nat.le_trans (dn_rs _ _) (show 0 + 1 ≤ 100 by decide))) (h.clr.down hte).w m0).mono ?_
   rintro e w' ⟨p', o', rfl, hm⟩
   exact ⟨(voteOkW (clrS s) f te ok), p', o', rfl, h.clr.okw hte f ok, okw_id (clrS s) f te ok, hm⟩
end
end Go.Proofs.YtndnnlbdnjndiaaGreat.K
section
namespace Go.Proofs.YtndnnlbdnjndiaaGreat.K
open Go.ChangeShapes Go.WideShapes Go.ChangeAt Go.RowKit Go.Sort
set_option linter.unusedVariables false
set_option linter.unusedSimpArgs false
def V0 (me : Int) : RS := newS me 1 0 (-1) 0 0 [0, 1, 2, 3] [] []
theorem V0_is {me : Int} (h : 0 ≤ me ∧ me ≤ 2) : VS 0 0 (V0 me) := by
 refine ⟨rfl, rfl, rfl, rfl, Nat.le_refl 0, fun e he => ?_, fun j hj => ?_, (show 0 ≤ (0 : Int) ∧ (0 : Int) ≤ ((0 : Nat) : Int) by decide), ?_, (show min (max (1 : Int) 0) 7 = 1 by decide), (show 0 ≤ (0 : Int) ∧ (0 : Int) ≤ ((0 : Nat) : Int) by decide), (show 0 ≤ (0 : Int) ∧ (0 : Int) ≤ ((0 : Nat) : Int) by decide), (show 0 ≤ (0 : Int) ∧ (0 : Int) ≤ ((0 : Nat) : Int) by decide), (show 0 ≤ 0 + 7 by decide), fun hr => absurd hr (show ¬ ((0 : Int) = 3) by decide)⟩
 · have he : e ∈ ([] : List En).take _ := he
   rw [List.take_nil] at he; cases he
 · exact absurd hj (by show ¬ j < (([] : List En).take _).length; rw [List.take_nil]; exact Nat.not_lt_zero _)
 · show 0 ≤ min (max me 0) 6 ∧ min (max me 0) 6 ≤ 2; omega
theorem V0_id {me : Int} (h : 0 ≤ me ∧ me ≤ 2) : (V0 me).x.id = me := by show min (max me 0) 6 = me; omega
theorem VS.tm {N T : Nat} {s : RS} (h : VS N T s) (hT : T ≤ 100000) (i : Int) : -1000000000000000 ≤ termS s i ∧ termS s i ≤ 1000000000000000 := by
 unfold termS termL; split
 · rw [h.bt]; omega
 · split
   · rename_i hb
     obtain ⟨k, _, hk, he, _⟩ := inB_at hb
     have hm : s.es.getD (i - s.bi - 1).toNat e0 ∈ s.es := by
       rw [he, List.getD, List.getElem?_eq_getElem hk]; exact List.getElem_mem hk
     have := (h.e _ hm).2.2
     omega
   · omega
end Go.Proofs.YtndnnlbdnjndiaaGreat.K
end
