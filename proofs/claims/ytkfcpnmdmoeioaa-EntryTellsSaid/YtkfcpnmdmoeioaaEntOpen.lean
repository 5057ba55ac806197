/- Entries and bases that come in. -/
import Derived.Test.YtkfcpnmdmoeioaaReads1
import Derived.Deep.Strs
import Derived.OpenShut
namespace Go.Proofs.Ytkfcpnmdmoeioaa.K
open Go.ChangeShapes Go.WideShapes Go.ChangeAt Go.RowKit
set_option linter.unusedVariables false
set_option maxRecDepth 100000

theorem trod4 {H : Type} {enc : TypeId × Value → H} {P : Program} {w : World} {base : Nat} {spare : Nat → Bool} {held : Bool} {t : TypeId} {f0 f1 f2 f3 : Field} {fuel : Nat} {cs : List Value} {x : DataW H × List MemPlace} (ht : P.underlying t = some (.struct #[f0, f1, f2, f3])) (h : DataW.trod enc P w base spare held fuel t cs = some x) :
    ∃ y0 y1 y2 y3 n, x = (.agg [y0.1, y1.1, y2.1, y3.1], y0.2 ++ (y1.2 ++ (y2.2 ++ y3.2))) ∧ cs.length = P.cellsOf t ∧ DataW.trod enc P w base spare held n f0.type ((cs.drop f0.offset).take (P.cellsOf f0.type)) = some y0 ∧
      DataW.trod enc P w base spare held n f1.type ((cs.drop f1.offset).take (P.cellsOf f1.type)) = some y1 ∧ DataW.trod enc P w base spare held n f2.type ((cs.drop f2.offset).take (P.cellsOf f2.type)) = some y2 ∧
      DataW.trod enc P w base spare held n f3.type ((cs.drop f3.offset).take (P.cellsOf f3.type)) = some y3 := by
  obtain ⟨xs, n, _, rfl, hl, hlen, hf⟩ := DataW.trod_struct ht h
  match xs, hlen with
  | [y0, y1, y2, y3], _ => exact ⟨y0, y1, y2, y3, n, by simp, hl, by simpa using hf 0 f0 rfl, by simpa using hf 1 f1 rfl, by simpa using hf 2 f2 rfl, by simpa using hf 3 f3 rfl⟩
theorem cell_u8 {H : Type} {enc : TypeId × Value → H} {W : World} {base : Nat} {held : Bool} {fuel : Nat} {v : Value} {x : DataW H × List MemPlace} (h : DataW.trod enc Try.prog W base (fun _ => true) held fuel 22 [v] = some x) :
    ∃ (p : Option Addr) (c : Nat) (ys : List Int), v = .slice p ys.length c ∧ Rd (fun _ => True) W (.slice p ys.length c) (.ns .u8 ys) ∧ ByteL ys := by
  have hb : ∀ ys : List Int, (∀ n ∈ ys, (Lit.int .u8 n).wf = true) → ByteL ys := fun ys h z hz => by have := bounds_u8 (h z hz); omega
  rcases open_ints Try.underlying22 Try.underlying5 (by kernel_rfl) h with ⟨hcs, _⟩ | ⟨x, l, c, zs, hcs, _, hl, hm, hz, _, hcell, hwz⟩
  · simp at hcs
    subst hcs
    exact ⟨none, 0, [], rfl, Rd.nilN _ _ _ _, by intro z hz; cases hz⟩
  · simp at hcs
    subst hcs
    obtain ⟨ys, h1, h2, h3⟩ := NumsS.ofRow (k := .u8) (w := W) (a := some x) (len := l) (cap := c) (zs := zs) (.inr ⟨_, rfl, hl, hm, by simpa using hz, hcell, hwz⟩)
    subst h2
    exact ⟨_, _, ys, rfl, h1, hb ys h3⟩
theorem cell_i64 {H : Type} {enc : TypeId × Value → H} {W : World} {base : Nat} {held : Bool} {fuel : Nat} {v : Value} {x : DataW H × List MemPlace} (h : DataW.trod enc Try.prog W base (fun _ => true) held fuel 25 [v] = some x) :
    ∃ (p : Option Addr) (c : Nat) (ys : List Int), v = .slice p ys.length c ∧ Rd (fun _ => True) W (.slice p ys.length c) (.ns .i64 ys) := by
  rcases open_ints Try.underlying25 Try.underlying3 (by kernel_rfl) h with ⟨hcs, _⟩ | ⟨x, l, c, zs, hcs, _, hl, hm, hz, _, hcell, hwz⟩
  · simp at hcs
    subst hcs
    exact ⟨none, 0, [], rfl, Rd.nilN _ _ _ _⟩
  · simp at hcs
    subst hcs
    obtain ⟨ys, h1, h2, h3⟩ := NumsS.ofRow (k := .i64) (w := W) (a := some x) (len := l) (cap := c) (zs := zs) (.inr ⟨_, rfl, hl, hm, by simpa using hz, hcell, hwz⟩)
    subst h2
    exact ⟨_, _, ys, rfl, h1⟩
theorem ent_open {H : Type} {enc : TypeId × Value → H} {W : World} {base : Nat} {held : Bool} {r : Reach} {b0 : Nat} {v : Value} {d : DataW H} {ps : List MemPlace} (hval : Value.okWide Try.prog W r b0 24 v) (hd : DataW.Trod enc Try.prog W base (fun _ => true) held 24 v d ps) :
    ∃ (i t k : Int) (p : Option Addr) (c : Nat) (ys : List Int), v = .agg #[.int .i64 i, .int .i64 t, .int .i64 k, .slice p ys.length c] ∧ Rd (fun _ => True) W (.slice p ys.length c) (.ns .u8 ys) ∧ ByteL ys := by
  obtain ⟨cs, rfl, hsz⟩ := okWide_struct Try.underlying24 hval
  have e4 : Try.prog.cellsOf 24 = 4 := by kernel_rfl
  rw [e4] at hsz
  obtain ⟨fuel, hf⟩ := hd
  obtain ⟨l⟩ := cs
  have e1 : Try.prog.cellsOf 22 = 1 := by kernel_rfl
  have e2 : Try.prog.cellsOf 3 = 1 := by kernel_rfl
  match l, hsz with
  | [x0, x1, x2, x3], _ =>
    obtain ⟨y0, y1, y2, y3, n, -, -, h0, h1, h2, h3⟩ := trod4 Try.underlying24 hf
    dsimp only at h0 h1 h2 h3
    rw [e2] at h0 h1 h2
    rw [e1] at h3
    obtain ⟨i, hi, -, -⟩ := DataW.trod_int Try.underlying3 h0
    obtain ⟨t, ht, -, -⟩ := DataW.trod_int Try.underlying3 h1
    obtain ⟨k, hk, -, -⟩ := DataW.trod_int Try.underlying3 h2
    have hi' : x0 = .int .i64 i := by simpa [Value.cells] using hi
    have ht' : x1 = .int .i64 t := by simpa [Value.cells] using ht
    have hk' : x2 = .int .i64 k := by simpa [Value.cells] using hk
    subst hi' ht' hk'
    obtain ⟨p, c, ys, rfl, h4, h5⟩ := cell_u8 (v := x3) h3
    exact ⟨i, t, k, p, c, ys, rfl, h4, h5⟩
theorem base_open {H : Type} {enc : TypeId × Value → H} {W : World} {base : Nat} {held : Bool} {r : Reach} {b0 : Nat} {v : Value} {d : DataW H} {ps : List MemPlace} (hval : Value.okWide Try.prog W r b0 27 v) (hd : DataW.Trod enc Try.prog W base (fun _ => true) held 27 v d ps) :
    ∃ (i t : Int) (pc : Option Addr) (cc : Nat) (cf : List Int) (p : Option Addr) (c : Nat) (ys : List Int), v = .agg #[.int .i64 i, .int .i64 t, .slice pc cf.length cc, .slice p ys.length c] ∧ Rd (fun _ => True) W (.slice pc cf.length cc) (.ns .i64 cf) ∧ Rd (fun _ => True) W (.slice p ys.length c) (.ns .u8 ys) ∧ ByteL ys := by
  obtain ⟨cs, rfl, hsz⟩ := okWide_struct Try.underlying27 hval
  have e4 : Try.prog.cellsOf 27 = 4 := by kernel_rfl
  rw [e4] at hsz
  obtain ⟨fuel, hf⟩ := hd
  obtain ⟨l⟩ := cs
  have e0 : Try.prog.cellsOf 25 = 1 := by kernel_rfl
  have e1 : Try.prog.cellsOf 22 = 1 := by kernel_rfl
  have e2 : Try.prog.cellsOf 3 = 1 := by kernel_rfl
  match l, hsz with
  | [x0, x1, x2, x3], _ =>
    obtain ⟨y0, y1, y2, y3, n, -, -, h0, h1, h2, h3⟩ := trod4 Try.underlying27 hf
    dsimp only at h0 h1 h2 h3
    rw [e2] at h0 h1
    rw [e0] at h2
    rw [e1] at h3
    obtain ⟨i, hi, -, -⟩ := DataW.trod_int Try.underlying3 h0
    obtain ⟨t, ht, -, -⟩ := DataW.trod_int Try.underlying3 h1
    have hi' : x0 = .int .i64 i := by simpa [Value.cells] using hi
    have ht' : x1 = .int .i64 t := by simpa [Value.cells] using ht
    subst hi' ht'
    obtain ⟨pc, cc, cf, rfl, h4⟩ := cell_i64 (v := x2) h2
    obtain ⟨p, c, ys, rfl, h5, h6⟩ := cell_u8 (v := x3) h3
    exact ⟨i, t, pc, cc, cf, p, c, ys, rfl, h4, h5, h6⟩
end Go.Proofs.Ytkfcpnmdmoeioaa.K
