/- A disk in the frame: its three blocks are resources. -/
import Derived.Test.YtogjhjiapinmcaaDoorG1
import Derived.Test.YtogjhjiapinmcaaDoorG2
namespace Go.Proofs.YtogjhjiapinmcaaDoor.K
open Go.ChangeShapes Go.WideShapes Go.ChangeAt Go.RowKit
set_option linter.unusedVariables false
set_option linter.unusedSimpArgs false

structure Dk where
 vu : Value
 cur : List Value
 secs : List (List Int)
 uns : List Un
 l : Int
def Dk.ok (K : Dk) (B S : Nat) : Prop :=
 S < B ∧ (K.vu = .slice none 0 0 ∧ K.uns = [] ∨ ∃ g cap, K.vu = .slice (some ⟨g, 0, none⟩) K.uns.length cap ∧ B + 1 ≤ g ∧ K.uns.length ≤ cap ∧ cap ≤ maxLen ∧ K.cur.length = cap * 129 ∧ K.cur.take (K.uns.length * 129) = K.uns.flatMap Un.cells) ∧
   (∀ s ∈ K.secs, Sec s) ∧ (∀ u ∈ K.uns, u.Good K.secs.length) ∧ K.secs.length ≤ 1048576 ∧ -1 ≤ K.l ∧ K.l ≤ 9223372036854775807
abbrev Dk.rb (K : Dk) (B S : Nat) : Res := .box B 57 [.slice (some ⟨S, 0, none⟩) K.secs.length K.secs.length, K.vu, .int .i64 K.l]
def Dk.ru (K : Dk) : Res := match K.vu.ownBlock with
 | some g => .box g 75 K.cur
 | none => .gone
abbrev Dk.rs (K : Dk) (S : Nat) : Res := .box S 73 (flat K.secs)
theorem Dk.ru_blk (K : Dk) : K.ru.blk = K.vu.ownBlock := by
 unfold Dk.ru
 cases K.vu.ownBlock <;> rfl
theorem Dk.ru_pass (K : Dk) : K.ru.pass = true := by
 unfold Dk.ru
 cases K.vu.ownBlock <;> rfl
theorem uns_len {n : Nat} : ∀ {l : List Un}, (∀ u ∈ l, u.Good n) → (l.flatMap Un.cells).length = l.length * 129
 | [], _ => rfl
 | u :: t, h => by
   rw [List.flatMap_cons, List.length_append, (h u List.mem_cons_self).len, uns_len (fun v hv => h v (List.mem_cons_of_mem _ hv)), List.length_cons]; omega

section
variable {X : Cx} {w0 w w' : World} {M R : Mm} {K : Dk} {B S : Nat}
theorem Dk.is (hK : K.ok B S) (m : MemOk X w0 M w) {i j k : Nat} (h1 : lk M i = some (K.rb B S)) (h2 : lk M j = some K.ru) (h3 : lk M k = some (K.rs S)) : IsDisk w B S K.vu K.secs K.uns K.l := by
 obtain ⟨a1, a2, a3, a4, a5, a6, a7⟩ := hK
 refine ⟨Head.ofBlk (m.ok i _ h1).1, (m.ok k _ h3).1, ⟨uns_len a4, ?_⟩, a1, a3, a4, a5, a6, a7⟩
 rcases a2 with ⟨e1, e2⟩ | ⟨g, cap, e1, b1, b2, b3, b4, b5⟩
 · exact .inl ⟨e1, by rw [e2]; rfl⟩
 · have e : K.ru = .box g 75 K.cur := by unfold Dk.ru; rw [e1]; rfl
   rw [e] at h2
   exact .inr ⟨g, cap, K.cur.toArray, e1, b1, (m.ok j _ h2).1, b2, b3, by simpa using b4, by simpa using b5⟩
theorem Dk.of {vu : Value} {secs : List (List Int)} {uns : List Un} {l : Int} (h : IsDisk w B S vu secs uns l) : ∃ cur, Dk.ok ⟨vu, cur, secs, uns, l⟩ B S ∧ Blk w B 57 [.slice (some ⟨S, 0, none⟩) secs.length secs.length, vu, .int .i64 l] ∧ (∀ g, vu.ownBlock = some g → Blk w g 75 cur) := by
 have hb := h.head.2.2.2.1
 rcases h.row.2 with ⟨e1, e2⟩ | ⟨g, cap, cur, e1, b1, b2, b3, b4, b5, b6⟩
 · refine ⟨[], ⟨h.lt, .inl ⟨e1, List.eq_nil_of_length_eq_zero e2⟩, h.secs_ok, h.uns_ok, h.many, h.left0, h.left1⟩, hb, fun g hg => by rw [e1] at hg; cases hg⟩
 · refine ⟨cur.toList, ⟨h.lt, .inr ⟨g, cap, e1, b1, b3, b4, by simpa using b5, b6⟩, h.secs_ok, h.uns_ok, h.many, h.left0, h.left1⟩, hb, fun k hk => ?_⟩
   rw [e1] at hk
   obtain rfl : g = k := by injection hk
   unfold Blk
   rw [b2]
theorem MemOk.dk (m : MemOk X w0 ((1, K.rb B S) :: (2, K.ru) :: (3, K.rs S) :: R) w) (hR : ∀ i r, lk R i = some r → r.blk = none) {vu : Value} {secs : List (List Int)} {uns : List Un} {l : Int} (h : IsDisk w' B S vu secs uns l) (hk : Keep (Mine B S K.vu) w w') (hv : vu.ownBlock = K.vu.ownBlock ∨ ∀ k, vu.ownBlock = some k → w.heap.size ≤ k) :
   ∃ cur, Dk.ok ⟨vu, cur, secs, uns, l⟩ B S ∧ MemOk X w0 ((1, Dk.rb ⟨vu, cur, secs, uns, l⟩ B S) :: (2, Dk.ru ⟨vu, cur, secs, uns, l⟩) :: (3, Dk.rs ⟨vu, cur, secs, uns, l⟩ S) :: R) w' := by
 obtain ⟨cur, hok, hb1, hb2⟩ := Dk.of h
 refine ⟨cur, hok, ?_⟩
 have l1 : lk ((1, K.rb B S) :: (2, K.ru) :: (3, K.rs S) :: R) 1 = some (K.rb B S) := rfl
 have l2 : lk ((1, K.rb B S) :: (2, K.ru) :: (3, K.rs S) :: R) 2 = some K.ru := rfl
 have l3 : lk ((1, K.rb B S) :: (2, K.ru) :: (3, K.rs S) :: R) 3 = some (K.rs S) := rfl
 have o1 := (m.ok 1 _ l1).2
 have o3 := (m.ok 3 _ l3).2
 have o2 : ∀ b, K.vu.ownBlock = some b → b < w.heap.size ∧ (w0.heap.size ≤ b ∨ b ∈ X.bad) := fun b hb => Res.blk_lt (m.ok 2 _ l2) (by rw [Dk.ru_blk]; exact hb)
 have hmine : ∀ b, Mine B S K.vu b → Own ((1, K.rb B S) :: (2, K.ru) :: (3, K.rs S) :: R) b := by
   rintro b (rfl | rfl | hb)
   · exact ⟨1, _, l1, rfl⟩
   · exact ⟨3, _, l3, rfl⟩
   · exact ⟨2, _, l2, by rw [Dk.ru_blk]; exact hb⟩
 have hbad : ∀ b, b < w0.heap.size → Mine B S K.vu b → b ∈ X.bad := by
   rintro b hlt (rfl | rfl | hb)
   · rcases o1 with o | o
     · omega
     · exact o
   · rcases o3 with o | o
     · omega
     · exact o
   · rcases (o2 b hb).2 with o | o
     · omega
     · exact o
 have hs0 := m.keep.2.2.2.1
 have nb2 : (Dk.ru ⟨vu, cur, secs, uns, l⟩).blk = vu.ownBlock := Dk.ru_blk _
 have hcase : ∀ i r, lk ((1, Dk.rb ⟨vu, cur, secs, uns, l⟩ B S) :: (2, Dk.ru ⟨vu, cur, secs, uns, l⟩) :: (3, Dk.rs ⟨vu, cur, secs, uns, l⟩ S) :: R) i = some r → (i = 1 ∧ r = Dk.rb ⟨vu, cur, secs, uns, l⟩ B S) ∨ (i = 2 ∧ r = Dk.ru ⟨vu, cur, secs, uns, l⟩) ∨ (i = 3 ∧ r = Dk.rs ⟨vu, cur, secs, uns, l⟩ S) ∨ (i ≠ 1 ∧ i ≠ 2 ∧ i ≠ 3 ∧ lk R i = some r) := by
   intro i r hi
   rw [lk_cons] at hi
   split at hi
   · exact .inl ⟨by omega, by injection hi with hi; exact hi.symm⟩
   · rw [lk_cons] at hi
     split at hi
     · exact .inr (.inl ⟨by omega, by injection hi with hi; exact hi.symm⟩)
     · rw [lk_cons] at hi
       split at hi
       · exact .inr (.inr (.inl ⟨by omega, by injection hi with hi; exact hi.symm⟩))
       · exact .inr (.inr (.inr ⟨by omega, by omega, by omega, hi⟩))
 have hblk : ∀ i r b, lk ((1, Dk.rb ⟨vu, cur, secs, uns, l⟩ B S) :: (2, Dk.ru ⟨vu, cur, secs, uns, l⟩) :: (3, Dk.rs ⟨vu, cur, secs, uns, l⟩ S) :: R) i = some r → r.blk = some b → (i = 1 ∧ b = B) ∨ (i = 2 ∧ vu.ownBlock = some b) ∨ (i = 3 ∧ b = S) := by
   intro i r b hi hb
   rcases hcase i r hi with ⟨rfl, rfl⟩ | ⟨rfl, rfl⟩ | ⟨rfl, rfl⟩ | ⟨-, -, -, hr⟩
   · exact .inl ⟨rfl, by injection hb with hb; exact hb.symm⟩
   · exact .inr (.inl ⟨rfl, by rw [← nb2]; exact hb⟩)
   · exact .inr (.inr ⟨rfl, by injection hb with hb; exact hb.symm⟩)
   · rw [hR i r hr] at hb; cases hb
 have hfree : ∀ b, b < w.heap.size → Free X ((1, K.rb B S) :: (2, K.ru) :: (3, K.rs S) :: R) b → w'.heap[b]? = w.heap[b]? ∧ Free X ((1, Dk.rb ⟨vu, cur, secs, uns, l⟩ B S) :: (2, Dk.ru ⟨vu, cur, secs, uns, l⟩) :: (3, Dk.rs ⟨vu, cur, secs, uns, l⟩ S) :: R) b := by
   rintro b hlt ⟨hz, hn⟩
   refine ⟨hk.2.2.2.2 b hlt (fun h => hn (hmine b h)), hz, ?_⟩
   rintro ⟨i, r, hi, hb⟩
   rcases hblk i r b hi hb with ⟨-, rfl⟩ | ⟨-, hb⟩ | ⟨-, rfl⟩
   · exact hn (hmine _ (.inl rfl))
   · rcases hv with hv | hv
     · exact hn (hmine _ (.inr (.inr (by rw [← hv]; exact hb))))
     · have := hv b hb; omega
   · exact hn (hmine _ (.inr (.inl rfl)))
 have hap := h.apart
 have hlt := h.lt
 refine ⟨m.keep.trans' hk hbad, m.fresh, fun i r hi => ?_, fun i j r s b hi hj hr hs => ?_⟩
 · rcases hcase i r hi with ⟨rfl, rfl⟩ | ⟨rfl, rfl⟩ | ⟨rfl, rfl⟩ | ⟨n1, n2, n3, hr⟩
   · exact ⟨hb1, o1⟩
   · have hov : ∀ g, vu.ownBlock = some g → w0.heap.size ≤ g ∨ g ∈ X.bad := fun g hg => by
       rcases hv with hv | hv
       · exact (o2 g (by rw [← hv]; exact hg)).2
       · exact .inl (Nat.le_trans hs0 (hv g hg))
     unfold Dk.ru
     dsimp only
     cases hg : vu.ownBlock with
     | none => exact trivial
     | some g => exact ⟨hb2 g hg, hov g hg⟩
   · exact ⟨h.sec, o3⟩
   · have hi0 : lk ((1, K.rb B S) :: (2, K.ru) :: (3, K.rs S) :: R) i = some r := by
       rw [lk_cons, if_neg (by omega), lk_cons, if_neg (by omega), lk_cons, if_neg (by omega)]; exact hr
     exact Res.ok_mono (m.ok i r hi0) hk.2.2.2.1 hfree (fun b hb => by rw [hR i r hr] at hb; cases hb)
 · rcases hblk i r b hi hr with ⟨rfl, e1⟩ | ⟨rfl, e1⟩ | ⟨rfl, e1⟩ <;> rcases hblk j s b hj hs with ⟨rfl, e2⟩ | ⟨rfl, e2⟩ | ⟨rfl, e2⟩
   · rfl
   · exact absurd (e1 ▸ e2) hap.1
   · omega
   · exact absurd (e2 ▸ e1) hap.1
   · rfl
   · exact absurd (e2 ▸ e1) hap.2
   · omega
   · exact absurd (e1 ▸ e2) hap.2
   · rfl
theorem MemOk.offD (m : MemOk X w0 ((1, K.rb B S) :: (2, K.ru) :: (3, K.rs S) :: R) w) {v : Value} {b : List Int} (h : Rd (Free X ((1, K.rb B S) :: (2, K.ru) :: (3, K.rs S) :: R)) w v (.ns .u8 b)) : NumsOff (Mine B S K.vu) w v b := by
 cases h with
 | ns h =>
   obtain ⟨a, c, rfl, hc, h0 | ⟨g, off, rfl, hF, h2, h3⟩⟩ := h
   · exact ⟨a, c, rfl, .inl h0⟩
   · refine ⟨_, c, rfl, .inr ⟨g, off, rfl, h2, ?_, h3⟩⟩
     rintro (rfl | rfl | hb)
     · exact hF.2 ⟨1, _, rfl, rfl⟩
     · exact hF.2 ⟨3, _, rfl, rfl⟩
     · exact hF.2 ⟨2, _, rfl, by rw [Dk.ru_blk]; exact hb⟩
theorem kwrite {v : Value} {b : List Int} (hK : K.ok B S) (m : MemOk X w0 [(1, K.rb B S), (2, K.ru), (3, K.rs S), (4, .dat v (.ns .u8 b))] w) (i : Nat) (hi : i < K.secs.length) (hb : b.length ≤ 64) (hy : ∀ x ∈ b, 0 ≤ x ∧ x ≤ 255) (hl : K.l = -1) (hn : K.uns.length ≤ 1000000000) :
   Calls Tryd.prog 18 #[.pointer (some ⟨B, 0, none⟩), .int .i64 i, v] w fun e w' => e = .returned (.int .i64 0) ∧ ∃ vu cur, Dk.ok ⟨vu, cur, K.secs.set i (pad b), K.uns ++ [⟨i, K.secs.getD i [], pad b⟩], -1⟩ B S ∧
     MemOk X w0 [(1, Dk.rb ⟨vu, cur, K.secs.set i (pad b), K.uns ++ [⟨i, K.secs.getD i [], pad b⟩], -1⟩ B S), (2, Dk.ru ⟨vu, cur, K.secs.set i (pad b), K.uns ++ [⟨i, K.secs.getD i [], pad b⟩], -1⟩), (3, Dk.rs ⟨vu, cur, K.secs.set i (pad b), K.uns ++ [⟨i, K.secs.getD i [], pad b⟩], -1⟩ S), (4, .dat v (.ns .u8 b))] w' := by
 have hD := Dk.is hK m (i := 1) (j := 2) (k := 3) rfl rfl rfl
 have h4 := m.ok 4 _ rfl
 refine (write_live hD i hi v b (m.offD h4) hb hy (by rw [hl]; rfl) hn).mono ?_
 rintro e w' ⟨rfl, vu, h', hk, hv⟩
 have e1 : less K.l = -1 := by rw [hl]; rfl
 rw [e1] at h'
 obtain ⟨cur, q1, q2⟩ := m.dk (fun i r hi => by
   rw [lk_cons] at hi
   split at hi
   · injection hi with hi; subst hi; rfl
   · cases hi) h' hk hv
 exact ⟨rfl, vu, cur, q1, q2⟩
theorem MemOk.newL (m : MemOk X w0 M w) (hb : Below w.heap.size w w') (L : Mm) (h1 : ∀ i r, lk L i = some r → (∀ b, r.blk = some b → w.heap.size ≤ b) ∧ r.ok w0.heap.size X.bad (Free X (L ++ M)) w') (h2 : ∀ i j r s b, lk L i = some r → lk L j = some s → r.blk = some b → s.blk = some b → i = j) : MemOk X w0 (L ++ M) w' := by
 have hcase : ∀ i r, lk (L ++ M) i = some r → lk L i = some r ∨ lk M i = some r := fun i r h => by
   rw [lk_app] at h
   cases hl : lk L i with
   | some x => rw [hl] at h; exact .inl h
   | none => rw [hl] at h; exact .inr h
 have hfree : ∀ b, b < w.heap.size → Free X M b → w'.heap[b]? = w.heap[b]? ∧ Free X (L ++ M) b := by
   rintro b hlt ⟨hz, hn⟩
   refine ⟨hb.block b hlt, hz, ?_⟩
   rintro ⟨i, r, hi, hr⟩
   rcases hcase i r hi with h | h
   · have := (h1 i r h).1 b hr; omega
   · exact hn ⟨i, r, h, hr⟩
 have hlt : ∀ i r b, lk M i = some r → r.blk = some b → b < w.heap.size := fun i r b h hr => (Res.blk_lt (m.ok i r h) hr).1
 refine ⟨m.keep.trans (Keep.ofBelow hb), m.fresh, fun i r hi => ?_, fun i j r s b hi hj hr hs => ?_⟩
 · rcases hcase i r hi with h | h
   · exact (h1 i r h).2
   · exact Res.ok_mono (m.ok i r h) hb.size hfree (fun b hr => hb.block b (hlt i r b h hr))
 · rcases hcase i r hi with h | h <;> rcases hcase j s hj with k | k
   · exact h2 i j r s b h k hr hs
   · have := (h1 i r h).1 b hr; have := hlt j s b k hs; omega
   · have := (h1 j s k).1 b hs; have := hlt i r b h hr; omega
   · exact m.sep i j r s b h k hr hs
theorem MemOk.newD (m : MemOk X w0 M w) (i : Nat) {secs : List (List Int)} (hb : Below w.heap.size w w') (hS : w.heap.size ≤ S) (h : IsDisk w' B S (.slice none 0 0) secs [] (-1)) :
   Dk.ok ⟨.slice none 0 0, [], secs, [], -1⟩ B S ∧ MemOk X w0 ([(i, Dk.rb ⟨.slice none 0 0, [], secs, [], -1⟩ B S), (i + 1, Dk.ru ⟨.slice none 0 0, [], secs, [], -1⟩), (i + 2, Dk.rs ⟨.slice none 0 0, [], secs, [], -1⟩ S)] ++ M) w' := by
 have hlt := h.lt
 have hs0 := m.keep.2.2.2.1
 have hcase : ∀ j r, lk [(i, Dk.rb ⟨.slice none 0 0, [], secs, [], -1⟩ B S), (i + 1, Dk.ru ⟨.slice none 0 0, [], secs, [], -1⟩), (i + 2, Dk.rs ⟨.slice none 0 0, [], secs, [], -1⟩ S)] j = some r → (j = i ∧ r = Dk.rb ⟨.slice none 0 0, [], secs, [], -1⟩ B S) ∨ (j = i + 1 ∧ r = .gone) ∨ (j = i + 2 ∧ r = Dk.rs ⟨.slice none 0 0, [], secs, [], -1⟩ S) := by
   intro j r hj
   rw [lk_cons] at hj
   split at hj
   · exact .inl ⟨by omega, by injection hj with hj; exact hj.symm⟩
   · rw [lk_cons] at hj
     split at hj
     · exact .inr (.inl ⟨by omega, by injection hj with hj; exact hj.symm⟩)
     · rw [lk_cons] at hj
       split at hj
       · exact .inr (.inr ⟨by omega, by injection hj with hj; exact hj.symm⟩)
       · cases hj
 refine ⟨⟨h.lt, .inl ⟨rfl, rfl⟩, h.secs_ok, h.uns_ok, h.many, h.left0, h.left1⟩, m.newL hb _ (fun j r hj => ?_) (fun j k r s b hj hk hr hs => ?_)⟩
 · rcases hcase j r hj with ⟨rfl, rfl⟩ | ⟨rfl, rfl⟩ | ⟨rfl, rfl⟩
   · exact ⟨fun b hb => by injection hb with hb; omega, h.head.2.2.2.1, .inl (by omega)⟩
   · exact ⟨fun b (hb : none = some b) => (by cases hb), trivial⟩
   · exact ⟨fun b hb => by injection hb with hb; omega, h.sec, .inl (by omega)⟩
 · rcases hcase j r hj with ⟨rfl, rfl⟩ | ⟨rfl, rfl⟩ | ⟨rfl, rfl⟩ <;> rcases hcase k s hk with ⟨rfl, rfl⟩ | ⟨rfl, rfl⟩ | ⟨rfl, rfl⟩
   · rfl
   · cases hs
   · injection hr with hr; injection hs with hs; omega
   · cases hr
   · rfl
   · cases hr
   · injection hr with hr; injection hs with hs; omega
   · cases hs
   · rfl
end
end Go.Proofs.YtogjhjiapinmcaaDoor.K
