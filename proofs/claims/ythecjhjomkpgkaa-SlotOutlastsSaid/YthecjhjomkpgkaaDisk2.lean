/- pdisk: what a Disk is; New, Flush, Read. -/
import Derived.Test.YthecjhjomkpgkaaDisk1
import Derived.Test.YthecjhjomkpgkaaMid
namespace Go.Proofs.Ythecjhjomkpgkaa.K
open Go.ChangeShapes Go.WideShapes Go.ChangeAt Go.RowKit
set_option linter.unusedVariables false

/-- Sixty-four bytes. -/
def Sec (s : List Int) : Prop := s.length = 64 ∧ ∀ x ∈ s, 0 ≤ x ∧ x ≤ 255
def zeros : List Int := List.replicate 64 0
theorem Sec.zeros : Sec zeros := ⟨rfl, fun x hx => by rw [List.eq_of_mem_replicate hx]; omega⟩
/-- A write that isn't sure yet. -/
structure Un where
  pos : Nat
  was : List Int
  new : List Int
def Un.cells (u : Un) : List Value := .int .i64 u.pos :: (B8 u.was ++ B8 u.new)
def Un.Good (n : Nat) (u : Un) : Prop := u.pos < n ∧ Sec u.was ∧ Sec u.new
theorem Un.Good.len {n : Nat} {u : Un} (h : u.Good n) : u.cells.length = 129 := by
  unfold Un.cells; rw [List.length_cons, List.length_append, B8_len, B8_len, h.2.1.1, h.2.2.1]
theorem Un.cells_one (u : Un) : ∀ v ∈ u.cells, v.oneCell' = true := by
  intro v hv
  unfold Un.cells at hv
  rw [List.mem_cons, List.mem_append] at hv
  rcases hv with rfl | hv | hv
  · rfl
  · exact B8_one _ v hv
  · exact B8_one _ v hv

structure IsDisk (w : World) (B S : Nat) (vu : Value) (secs : List (List Int)) (uns : List Un) (left : Int) : Prop where
  head : Head w B (.slice (some ⟨S, 0, none⟩) secs.length secs.length) vu left
  sec : Blk w S 101 (flat secs)
  row : w.ownsRow (B + 1) 103 129 vu uns.length (uns.flatMap Un.cells)
  lt : S < B
  secs_ok : ∀ s ∈ secs, Sec s
  uns_ok : ∀ u ∈ uns, u.Good secs.length
  many : secs.length ≤ 1048576
  left0 : -1 ≤ left
  left1 : left ≤ 9223372036854775807

/-- The blocks of a disk. -/
def Mine (B S : Nat) (vu : Value) (k : Nat) : Prop := k = B ∨ k = S ∨ vu.ownBlock = some k
theorem IsDisk.mine_lt {w : World} {B S : Nat} {vu : Value} {secs : List (List Int)} {uns : List Un} {l : Int} (h : IsDisk w B S vu secs uns l) : ∀ k, Mine B S vu k → k < w.heap.size := by
  rintro k (rfl | rfl | hk)
  · exact h.head.lt
  · exact h.sec.lt
  · exact (h.row.lt k hk).2
theorem IsDisk.apart {w : World} {B S : Nat} {vu : Value} {secs : List (List Int)} {uns : List Un} {l : Int} (h : IsDisk w B S vu secs uns l) : vu.ownBlock ≠ some B ∧ vu.ownBlock ≠ some S := by
  refine ⟨fun e => ?_, fun e => ?_⟩
  · have := (h.row.lt _ e).1; omega
  · have := (h.row.lt _ e).1; have := h.lt; omega
theorem Head.keep {bad : Nat → Prop} {w W : World} {B : Nat} {vs vu : Value} {l : Int} (h : Head w B vs vu l) (hk : Keep bad w W) (hb : ¬ bad B) : Head W B vs vu l := by
  have hB := h.lt
  obtain ⟨h0, h1, h2, h3, h4, h5⟩ := h
  exact ⟨by rw [hk.cell hb hB]; exact h0, by rw [hk.cell hb hB]; exact h1, by rw [hk.cell hb hB]; exact h2, by rw [hk.frozen hb hB]; exact h3, by rw [hk.frozen hb hB]; exact h4, by rw [hk.frozen hb hB]; exact h5⟩
theorem ownsRow_keep {bad : Nat → Prop} {w W : World} {base : Nat} {e : TypeId} {size : Nat} {v : Value} {n : Nat} {xs : List Value} (h : w.ownsRow base e size v n xs) (hk : Keep bad w W) (hb : ∀ k, v.ownBlock = some k → ¬ bad k) : W.ownsRow base e size v n xs := by
  refine ⟨h.1, ?_⟩
  rcases h.2 with hn | ⟨g, cap, cur, rfl, hbg, hgg, rest⟩
  · exact .inl hn
  · refine .inr ⟨g, cap, cur, rfl, hbg, ?_, rest⟩
    rw [hk.2.2.2.2 g (Array.getElem?_eq_some_iff.1 hgg).1 (hb g rfl)]
    exact hgg
theorem IsDisk.keep {bad : Nat → Prop} {w W : World} {B S : Nat} {vu : Value} {secs : List (List Int)} {uns : List Un} {l : Int} (h : IsDisk w B S vu secs uns l) (hk : Keep bad w W) (hb : ∀ k, Mine B S vu k → ¬ bad k) : IsDisk W B S vu secs uns l :=
  ⟨h.head.keep hk (hb B (.inl rfl)), h.sec.keep hk (hb S (.inr (.inl rfl))), ownsRow_keep h.row hk (fun k e => hb k (.inr (.inr e))), h.lt, h.secs_ok, h.uns_ok, h.many, h.left0, h.left1⟩
theorem IsDisk.later {w W : World} {B S : Nat} {vu : Value} {secs : List (List Int)} {uns : List Un} {l : Int} (h : IsDisk w B S vu secs uns l) (hk : Below w.heap.size w W) : IsDisk W B S vu secs uns l :=
  h.keep (bad := fun _ => False) (Keep.ofBelow hk) (fun _ _ hf => hf)
theorem IsDisk.below {N : Nat} {w W : World} {B S : Nat} {vu : Value} {secs : List (List Int)} {uns : List Un} {l : Int} (h : IsDisk w B S vu secs uns l) (hk : Keep (Mine B S vu) w W) (hB : N ≤ S) (hN : N ≤ w.heap.size) : Below N w W :=
  hk.below (by
    have hlt := h.lt
    rintro k (rfl | rfl | e)
    · omega
    · omega
    · have := (h.row.lt k e).1; omega) hN
theorem Head.setUns {w : World} {B : Nat} {vs vu : Value} {l : Int} (h : Head w B vs vu l) (v : Value) : Head (w.setCell ⟨B, 1, none⟩ v) B vs v l := by
  obtain ⟨h0, h1, h2, h3, h4, h5⟩ := h
  refine ⟨?_, World.cell?_setCell_same _ _ _ h1, ?_, by rw [World.frozen?_setCell]; exact h3, by rw [World.frozen?_setCell]; exact h4, by rw [World.frozen?_setCell]; exact h5⟩
  · rw [World.cell?_setCell_other _ _ _ _ (by simp)]; exact h0
  · rw [World.cell?_setCell_other _ _ _ _ (by simp)]; exact h2
theorem IsDisk.setLeft {w : World} {B S : Nat} {vu : Value} {secs : List (List Int)} {uns : List Un} {l : Int} (h : IsDisk w B S vu secs uns l) (m : Int) (h0 : -1 ≤ m) (h1 : m ≤ 9223372036854775807) :
    IsDisk (w.setCell ⟨B, 2, none⟩ (.int .i64 m)) B S vu secs uns m ∧ Keep (fun k => k = B) w (w.setCell ⟨B, 2, none⟩ (.int .i64 m)) := by
  have hk : Keep (fun k => k = B) w (w.setCell ⟨B, 2, none⟩ (.int .i64 m)) := Keep.setCell (bad := fun k => k = B) rfl _
  have hlt := h.lt
  exact ⟨⟨h.head.setLeft m, h.sec.keep hk (by omega), ownsRow_keep h.row hk (fun k e => by have := (h.row.lt k e).1; omega), h.lt, h.secs_ok, h.uns_ok, h.many, h0, h1⟩, hk⟩
theorem IsDisk.setNone {w : World} {B S : Nat} {vu : Value} {secs : List (List Int)} {uns : List Un} {l : Int} (h : IsDisk w B S vu secs uns l) :
    IsDisk (w.setCell ⟨B, 1, none⟩ (.slice none 0 0)) B S (.slice none 0 0) secs [] l ∧ Keep (fun k => k = B) w (w.setCell ⟨B, 1, none⟩ (.slice none 0 0)) := by
  have hk : Keep (fun k => k = B) w (w.setCell ⟨B, 1, none⟩ (.slice none 0 0)) := Keep.setCell (bad := fun k => k = B) rfl _
  have hlt := h.lt
  exact ⟨⟨h.head.setUns _, h.sec.keep hk (by omega), World.ownsRow_nil _ _ _ _, h.lt, h.secs_ok, by simp, h.many, h.left0, h.left1⟩, hk⟩

/-! ### What is left -/
theorem spend_disk {w : World} {B S : Nat} {vu : Value} {secs : List (List Int)} {uns : List Un} {l : Int} (h : IsDisk w B S vu secs uns l) :
    Calls Try.prog 80 #[.pointer (some ⟨B, 0, none⟩)] w fun e w' => e = .returned (.bool (l != 0)) ∧ IsDisk w' B S vu secs uns (less l) ∧ Keep (fun k => k = B) w w' := by
  refine (spend_any B _ _ l w h.head h.left0 h.left1).mono ?_
  rintro e w' ⟨rfl, rfl⟩
  refine ⟨rfl, ?_⟩
  have h0 := h.left0
  have h1 := h.left1
  unfold less
  by_cases hl : 0 < l
  · rw [if_pos hl, if_pos hl]
    exact h.setLeft _ (by omega) (by omega)
  · rw [if_neg hl, if_neg hl]
    exact ⟨h, Keep.refl _ _⟩

theorem flush_dead {w : World} {B S : Nat} {vu : Value} {secs : List (List Int)} {uns : List Un} {l : Int} (h : IsDisk w B S vu secs uns l) (hl : l = 0) :
    Calls Try.prog 54 #[.pointer (some ⟨B, 0, none⟩)] w fun e w' => e = .returned (.int .i64 26) ∧ IsDisk w' B S vu secs uns 0 ∧ Keep (fun k => k = B) w w' := by
  subst hl
  go_enter Try.func54, Try.ntmps54
  go_wp2_with fail
  refine (spend_disk h).mono ?_
  rintro e w' ⟨rfl, h', hk⟩
  go_wp2
  go_ret
  exact ⟨rfl, h', hk⟩
theorem flush_live {w : World} {B S : Nat} {vu : Value} {secs : List (List Int)} {uns : List Un} {l : Int} (h : IsDisk w B S vu secs uns l) (hl : (l != 0) = true) :
    Calls Try.prog 54 #[.pointer (some ⟨B, 0, none⟩)] w fun e w' => e = .returned (.int .i64 0) ∧ IsDisk w' B S (.slice none 0 0) secs [] (less l) ∧ Keep (fun k => k = B) w w' := by
  go_enter Try.func54, Try.ntmps54
  go_wp2_with fail
  refine (spend_disk h).mono ?_
  rintro e w' ⟨rfl, h', hk⟩
  rw [hl]
  clear hl
  obtain ⟨h0, h1, h2, h3, h4, h5⟩ := id h'.head
  have H' := Lib.hid h'
  have HK := Lib.hid hk
  clear h' hk h
  go_wp2
  go_ret
  obtain ⟨q1, q2⟩ := H'.out.setNone
  exact ⟨rfl, q1, HK.out.trans q2⟩
end Go.Proofs.Ythecjhjomkpgkaa.K
