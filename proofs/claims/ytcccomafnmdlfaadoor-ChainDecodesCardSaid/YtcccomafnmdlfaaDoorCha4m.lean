/- chain: the streams of a volume may be, they are a chain, and what they come to. -/
import Derived.Test.YtcccomafnmdlfaaDoorCha3
namespace Go.Proofs.YtcccomafnmdlfaaDoor.K
open Go.ChangeShapes Go.WideShapes Go.ChangeAt Go.RowKit
set_option linter.unusedVariables false
set_option linter.unusedSimpArgs false
theorem fmI_sorted {f : Nat → Option (List Int)} : ∀ (ks : List Nat), ks.Pairwise (· < ·) → (fmI f ks).Pairwise (fun x y => x.1 < y.1)
 | [], _ => List.Pairwise.nil
 | k :: ks, h => by
   rw [List.pairwise_cons] at h
   have ih := fmI_sorted (f := f) ks h.2
   have hlo := fmI_lo (f := f) h.1
   unfold fmI at ih hlo ⊢
   rw [List.filterMap_cons]
   cases f k with
   | none => exact ih
   | some d => exact List.pairwise_cons.2 ⟨fun e he => hlo e he, ih⟩
theorem segIt_sorted (y : VolV) (fr : Int) (t n : Nat) : (segIt y fr t n).Pairwise (fun x y => x.1 < y.1) := fmI_sorted (f := segF y fr t) _ List.pairwise_lt_range
theorem segIt_full (y : VolV) {fr : Int} (hf : fr < 0) (t n : Nat) : segIt y fr t n = (List.range n).map (fun k : Nat => ((k : Int), (stL y.bl y.sz y.ws t).getD k [])) := by
 unfold segIt
 rw [← List.filterMap_eq_map]
 refine fm_congr _ (fun k _ => ?_)
 unfold segF
 rw [decide_eq_true hf, Bool.true_or, if_pos rfl]; rfl
theorem seg_ok {y : VolV} {n : Nat} (hS : VolS n y) (hn : n ≤ 1000) {fr : Int} {t : Nat} (h1 : -1 ≤ fr) (h2 : fr.toNat ≤ t) (h3 : t ≤ y.ws.length) {fr2 : Int} (hf2 : fr2 = fr ∨ fr2 = 0) : StreamOk y.bl y.sz fr2 t (segIt y fr t y.bl.toNat) ∧ ItsOk (segIt y fr t y.bl.toNat) := by
 have hsm := hS.sm
 have hV := hS.1
 obtain ⟨v1, v2, v3, v4, v5, v6, v7, v8, v9⟩ := hV
 obtain ⟨n1, n2, n3, n4, n5, n6, n7, n8, n9, n10, n11⟩ := v1
 have hl := segIt_len y fr t y.bl.toNat
 have hd : ∀ e ∈ segIt y fr t y.bl.toNat, (0 ≤ e.1 ∧ e.1 < y.bl) ∧ (e.2.length : Int) = y.sz := fun e he => by
   obtain ⟨k, hk, rfl⟩ := segIt_mem he
   exact ⟨⟨by simp only; omega, by simp only; omega⟩, stL_sz hS.1 t k (by rw [stL_len]; exact hk)⟩
 have hs := segIt_sorted y fr t y.bl.toNat
 refine ⟨⟨⟨n3, n4⟩, ⟨n5, n6⟩, by omega, ⟨by omega, by omega⟩, by omega, fun h => ?_, fun k e he => ?_, by omega⟩, fun e he => ?_⟩
 · rw [segIt_full y (by omega), List.length_map, List.length_range]; omega
 · have hm := hd e (List.mem_of_getElem? he)
   refine ⟨?_, hm.1.2, hm.2⟩
   unfold lastB
   split
   · omega
   rename_i hk
   obtain ⟨hkl, rfl⟩ := List.getElem?_eq_some_iff.1 he
   rw [List.getD, List.getElem?_eq_getElem (by omega), Option.getD_some]
   exact List.pairwise_iff_getElem.1 hs (k - 1) k (by omega) hkl (by omega)
 have := (hd e he).2; omega
theorem SegCh.app {y : VolV} : ∀ {a : List StrV} {b : List StrV} {fr : Int}, SegCh y fr (a ++ b) ↔ SegCh y fr a ∧ SegCh y (endT fr a) b
 | [], b, fr => ⟨fun h => ⟨trivial, h⟩, fun h => h.2⟩
 | s :: a, b, fr => by
   rw [endT_cons]
   constructor
   · rintro ⟨t, h1, h2, h3, h4⟩
     have h5 := SegCh.app.1 h4
     subst h3
     exact ⟨⟨t, h1, h2, rfl, h5.1⟩, h5.2⟩
   rintro ⟨⟨t, h1, h2, h3, h4⟩, h5⟩
   subst h3
   exact ⟨t, h1, h2, rfl, SegCh.app.2 ⟨h4, h5⟩⟩
theorem SegCh.mem {y : VolV} : ∀ {l : List StrV} {fr : Int}, SegCh y fr l → -1 ≤ fr → ∀ s ∈ l, ∃ (a : Int) (t : Nat), -1 ≤ a ∧ a.toNat ≤ t ∧ t ≤ y.ws.length ∧ s = seg y a t
 | [], _, _, _, s, hs => by cases hs
 | x :: l, fr, ⟨t, h1, h2, h3, h4⟩, hf, s, hs => by
   rcases List.mem_cons.1 hs with rfl | hs
   · exact ⟨fr, t, hf, h1, h2, h3⟩
   exact SegCh.mem h4 (by omega) s hs
theorem SegCh.get {y : VolV} : ∀ {l : List StrV} {fr : Int} {i : Nat}, SegCh y fr l → i < l.length → ∃ t : Nat, (endT fr (l.take i)).toNat ≤ t ∧ t ≤ y.ws.length ∧ l[i]? = some (seg y (endT fr (l.take i)) t)
 | [], _, i, _, h => by simp at h
 | x :: l, fr, 0, ⟨t, h1, h2, h3, h4⟩, h => ⟨t, h1, h2, by rw [h3]; rfl⟩
 | x :: l, fr, i + 1, ⟨t, h1, h2, h3, h4⟩, h => by
   subst h3
   rw [List.take_succ_cons, endT_cons, List.getElem?_cons_succ]
   exact SegCh.get h4 (by simpa using h)
theorem endT_take {fr : Int} {l : List StrV} {i : Nat} {s : StrV} (h : l[i]? = some s) : endT fr (l.take (i + 1)) = s.to := by
 rw [take_snoc h, endT_snoc]
theorem Ev.ne {l : List StrV} {s : StrV} (h : Ev l s) : l ≠ [] := by
 induction h with
 | one s => simp
 | two h1 h2 i1 i2 => intro h; rw [List.append_eq_nil_iff] at h; exact i1 h.1
theorem Ev.seg {y : VolV} {l : List StrV} {s : StrV} (h : Ev l s) : ∀ {fr : Int}, SegCh y fr l → ∃ t : Nat, fr.toNat ≤ t ∧ t ≤ y.ws.length ∧ (t : Int) = endT fr l ∧ s = seg y fr t := by
 induction h with
 | one s => rintro fr ⟨t, h1, h2, h3, _⟩; subst h3; exact ⟨t, h1, h2, rfl, rfl⟩
 | @two a b x z h1 h2 i1 i2 =>
   intro fr hc
   obtain ⟨c1, c2⟩ := SegCh.app.1 hc
   obtain ⟨t1, a1, a2, a3, rfl⟩ := i1 c1
   rw [← a3] at c2
   obtain ⟨t2, b1, b2, b3, rfl⟩ := i2 c2
   rw [Int.toNat_natCast] at b1
   refine ⟨t2, by omega, b2, ?_, seg_merge a1 b1⟩
   rw [b3]
   have hne := h2.ne
   obtain ⟨b', z', rfl⟩ : ∃ b' z', b = b' ++ [z'] := ⟨_, _, (List.dropLast_concat_getLast hne).symm⟩
   rw [endT_snoc, ← List.append_assoc, endT_snoc]
theorem Ev.single {s x : StrV} (h : Ev [s] x) : x = s := by
 generalize hl : [s] = l at h
 cases h with
 | one s => exact (List.cons.inj hl).1.symm
 | two h1 h2 =>
   have e1 := h1.ne
   have e2 := h2.ne
   have := congrArg List.length hl
   rw [List.length_append] at this
   have a1 := List.length_pos_iff.2 e1
   have a2 := List.length_pos_iff.2 e2
   simp only [List.length_cons, List.length_nil] at this
   omega
theorem Ev.pair {s r x : StrV} (h : Ev [s, r] x) : x = mergeV s r := by
 generalize hl : [s, r] = l at h
 cases h with
 | one s => simp at hl
 | two h1 h2 =>
   rename_i a b p q
   have a1 := List.length_pos_iff.2 h1.ne
   have a2 := List.length_pos_iff.2 h2.ne
   match a, b, hl with
   | [u], [v], hl => injection hl with e1 e2; injection e2 with e2 _; subst e1; subst e2; rw [h1.single, h2.single]
   | [], _, _ => simp at a1
   | _, [], _ => simp at a2
   | [_], _ :: _ :: _, hl => simp at hl
   | _ :: _ :: _, _ :: _, hl => simp at hl
theorem OkAt.of_get {l : List StrV} {i : Nat} {s r : StrV} (hi : 0 < i) (h1 : l[i - 1]? = some s) (h2 : l[i]? = some r) : OkAt l i ↔ FolB s r := by
 unfold OkAt
 rw [if_neg (by omega), List.getD, h1, List.getD, h2]; rfl
theorem OkAt.of_zero {l : List StrV} {s : StrV} (h : l[0]? = some s) : OkAt l 0 ↔ s.fr < 0 := by
 unfold OkAt
 rw [if_pos rfl, List.getD, h]; rfl
theorem SegCh.chain {y : VolV} {l : List StrV} (h : SegCh y (-1) l) (h0 : 0 < l.length) : ChainOk l := by
 refine ⟨h0, fun i hi => ?_⟩
 obtain ⟨t, a1, a2, a3⟩ := h.get hi
 rcases Nat.eq_zero_or_pos i with rfl | hp
 · exact (OkAt.of_zero a3).2 (by show endT (-1) (l.take 0) < 0; rw [List.take_zero]; decide)
 obtain ⟨u, b1, b2, b3⟩ := h.get (i := i - 1) (by omega)
 refine (OkAt.of_get hp b3 a3).2 ⟨rfl, rfl, ?_⟩
 have := endT_take (fr := -1) b3
 rw [show i - 1 + 1 = i by omega] at this
 exact this
theorem SegCh.oks {y : VolV} {n : Nat} (hS : VolS n y) (hn : n ≤ 1000) {l : List StrV} {fr : Int} (h : SegCh y fr l) (hf : -1 ≤ fr) : ∀ s ∈ l, StreamOk s.bl s.sz s.fr s.to s.its ∧ ItsOk s.its := fun s hs => by
 obtain ⟨a, t, h1, h2, h3, rfl⟩ := h.mem hf s hs
 exact seg_ok hS hn h1 h2 h3 (.inl rfl)
theorem tot_bd {l : List StrV} (h : ∀ s ∈ l, s.its.length ≤ 256) : totL l ≤ 256 * l.length := by
 induction l with
 | nil => exact Nat.zero_le _
 | cons s l ih =>
   have h1 := h s List.mem_cons_self
   have h2 := ih (fun x hx => h x (List.mem_cons_of_mem _ hx))
   have h3 := tot_app [s] l
   have h4 : totL [s] = s.its.length := by simp [totL]
   rw [List.length_cons, Nat.mul_succ, show s :: l = [s] ++ l from rfl, h3]
   omega
end Go.Proofs.YtcccomafnmdlfaaDoor.K
