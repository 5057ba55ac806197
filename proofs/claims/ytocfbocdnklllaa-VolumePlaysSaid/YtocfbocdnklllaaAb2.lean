/- What operations yield. For any program. -/
import Derived.Test.YtocfbocdnklllaaAb1
namespace Go.Proofs.Ytocfbocdnklllaa.K
open Go.ChangeShapes Go.WideShapes Go.ChangeAt Go.RowKit
set_option linter.unusedVariables false

def evT (T : List (Nat × Value)) : Operand → Option Value
 | .tmp t => lk T t
 | .const v => some v
 | .global g => some (.pointer (some ⟨g, 0, none⟩))
 | .func f => some (.func (.func f) #[] #[])
structure Has (n : Nat) (T : List (Nat × Value)) (a : Act) : Prop where
 d : a.defers = []
 sz : a.tmps.size = n
 h : ∀ t v, lk T t = some v → a.tmps.getD t undef = v
def nthL {α : Type} : List α → Nat → Option α
 | [], _ => none
 | x :: _, 0 => some x
 | _ :: t, i + 1 => nthL t i
theorem nthL_eq {α : Type} : ∀ (l : List α) (i : Nat), l[i]? = nthL l i
 | [], i => by simp [nthL]
 | x :: l, 0 => by simp [nthL]
 | x :: l, i + 1 => by rw [List.getElem?_cons_succ]; exact nthL_eq l i
section
variable {n : Nat} {T : List (Nat × Value)} {a : Act}
theorem Has.ev (h : Has n T a) {x : Operand} {v : Value} (hx : evT T x = some v) : a.eval x = v := by
 cases x with
 | tmp t => exact h.h t v hx
 | const u => injection hx
 | global g => injection hx
 | func f => injection hx
theorem Has.put (h : Has n T a) {t : Nat} (ht : Nat.blt t n = true) (v : Value) : Has n ((t, v) :: T) (a.put (some t) v) where
 d := h.d
 sz := by show (a.tmps.setIfInBounds t v).size = n; rw [Array.size_setIfInBounds]; exact h.sz
 h s u hs := by
   have hlt : t < a.tmps.size := by rw [h.sz]; simpa [Nat.blt_eq] using ht
   rw [lk_cons] at hs
   show (a.tmps.setIfInBounds t v).getD s undef = u
   by_cases he : t = s
   · rw [if_pos he] at hs
     injection hs with hs; subst hs; subst he
     simp [Array.getD, hlt]
   · rw [if_neg he] at hs
     have := h.h s u hs
     rw [← this]
     simp [Array.getD_eq_getD_getElem?, Array.getElem?_setIfInBounds, he]
theorem Has.sub (h : Has n T a) {T' : List (Nat × Value)} (hs : ∀ t v, lk T' t = some v → lk T t = some v) : Has n T' a := ⟨h.d, h.sz, fun t v e => h.h t v (hs t v e)⟩
def keepT {α : Type} (T : List (Nat × α)) : List Nat → List (Nat × α)
 | [] => []
 | t :: l => match lk T t with | some v => (t, v) :: keepT T l | none => keepT T l
theorem keepT_lk {α : Type} (T : List (Nat × α)) : ∀ (l : List Nat) (t : Nat) (v : α), lk (keepT T l) t = some v → lk T t = some v
 | [], t, v, h => by cases h
 | s :: l, t, v, h => by
   unfold keepT at h
   cases hs : lk T s with
   | none => rw [hs] at h; exact keepT_lk T l t v h
   | some u =>
     rw [hs] at h
     dsimp only at h
     rw [lk_cons] at h
     by_cases he : s = t
     · rw [if_pos he] at h; injection h with h; subst h; subst he; exact hs
     · rw [if_neg he] at h; exact keepT_lk T l t v h
theorem Has.only (h : Has n T a) (l : List Nat) : Has n (keepT T l) a := h.sub (keepT_lk T l)
theorem bool_cases {G : Prop} (h : Has n T a) {t : Nat} {b : Bool} (hb : lk T t = some (.bool b)) (ht : b = true → Has n ((t, .bool true) :: T) a → G) (hf : b = false → Has n ((t, .bool false) :: T) a → G) : G := by
 cases b with
 | true =>
   refine ht rfl ⟨h.d, h.sz, fun s v hs => ?_⟩
   rw [lk_cons] at hs
   split at hs
   · rename_i e; subst e; injection hs with hs; rw [← hs]; exact h.h _ _ hb
   · exact h.h s v hs
 | false =>
   refine hf rfl ⟨h.d, h.sz, fun s v hs => ?_⟩
   rw [lk_cons] at hs
   split at hs
   · rename_i e; subst e; injection hs with hs; rw [← hs]; exact h.h _ _ hb
   · exact h.h s v hs
end

section
variable {P : Program} {n : Nat} {T : List (Nat × Value)} {a : Act} {w : World} {d : Option Tmp} {tt : TypeId} {pos : String} {af : Array Edge} {gd : Option (Nat × Bool)}
abbrev Yl (P : Program) (a : Act) (w : World) (o : Oper) (v : Value) : Prop := (execOp a.eval o).run P w = .ok (.value v) w
theorem run_eqB {t : TypeId} (hu : P.underlying t = some .bool) (b c : Bool) (w : World) : (Op.equal t (.bool b) (.bool c)).run P w = .ok (b == c) w := by
 show (Op.equalIn (9999 + 1) t (.bool b) (.bool c)).run P w = _
 generalize 9999 = m
 simp [Op.equalIn, run_underlying hu]
theorem y_move (h : Has n T a) {x : Operand} {v : Value} (hx : evT T x = some v) : Yl P a w ⟨d, .move x, tt, pos, af, gd⟩ v := by
 show (execOp _ _).run P w = _; simp [execOp, h.ev hx]
theorem y_assign (h : Has n T a) {x : Operand} {v : Value} (hx : evT T x = some v) : Yl P a w ⟨d, .assign x, tt, pos, af, gd⟩ v := by
 show (execOp _ _).run P w = _; simp [execOp, h.ev hx]
theorem y_pickT (h : Has n T a) {c x y : Operand} {v : Value} (hc : evT T c = some (.bool true)) (hx : evT T x = some v) : Yl P a w ⟨d, .pick c x y, tt, pos, af, gd⟩ v := by
 show (execOp _ _).run P w = _; simp [execOp, h.ev hx, h.ev hc, asBool]
theorem y_pickF (h : Has n T a) {c x y : Operand} {v : Value} (hc : evT T c = some (.bool false)) (hx : evT T y = some v) : Yl P a w ⟨d, .pick c x y, tt, pos, af, gd⟩ v := by
 show (execOp _ _).run P w = _; simp [execOp, h.ev hx, h.ev hc, asBool]
theorem y_not (h : Has n T a) {t : TypeId} {x : Operand} {b : Bool} (hx : evT T x = some (.bool b)) : Yl P a w ⟨d, .unOp .not t x, tt, pos, af, gd⟩ (.bool !b) := by
 show (execOp _ _).run P w = _; simp [execOp, h.ev hx, Op.unary]
theorem y_len (h : Has n T a) {t e : TypeId} {x : Operand} {p : Option Addr} {l c : Nat} (hx : evT T x = some (.slice p l c)) (hu : P.underlying t = some (.slice e)) : Yl P a w ⟨d, .call { callee := .builtin .len, args := #[x], argTypes := #[t] }, tt, pos, af, gd⟩ (.int .i64 l) := by
 show (execOp _ _).run P w = _; simp [execOp, resolve, invoke, builtin, h.ev hx, Builtin.len_, run_underlying hu, goInt]
section
variable {t t2 : TypeId} {x y : Operand} {k : IntKind} {p q r : Int}
theorem y_add (h : Has n T a) (hx : evT T x = some (.int k p)) (hy : evT T y = some (.int k q)) (hr : k.wrap (p + q) = r) : Yl P a w ⟨d, .binOp .add t x y t2, tt, pos, af, gd⟩ (.int k r) := by
 show (execOp _ _).run P w = _; simp [execOp, eqGuard, binOp, Op.intArith, h.ev hx, h.ev hy, hr]
theorem y_sub (h : Has n T a) (hx : evT T x = some (.int k p)) (hy : evT T y = some (.int k q)) (hr : k.wrap (p - q) = r) : Yl P a w ⟨d, .binOp .sub t x y t2, tt, pos, af, gd⟩ (.int k r) := by
 show (execOp _ _).run P w = _; simp [execOp, eqGuard, binOp, Op.intArith, h.ev hx, h.ev hy, hr]
theorem y_mul (h : Has n T a) (hx : evT T x = some (.int k p)) (hy : evT T y = some (.int k q)) (hr : k.wrap (p * q) = r) : Yl P a w ⟨d, .binOp .mul t x y t2, tt, pos, af, gd⟩ (.int k r) := by
 show (execOp _ _).run P w = _; simp [execOp, eqGuard, binOp, Op.intArith, h.ev hx, h.ev hy, hr]
theorem y_quo (h : Has n T a) (hx : evT T x = some (.int k p)) (hy : evT T y = some (.int k q)) (h0 : q ≠ 0) (hr : k.wrap (p.tdiv q) = r) : Yl P a w ⟨d, .binOp .quo t x y t2, tt, pos, af, gd⟩ (.int k r) := by
 show (execOp _ _).run P w = _; simp [execOp, eqGuard, binOp, Op.intDiv, h.ev hx, h.ev hy, hr, h0]
theorem y_rem (h : Has n T a) (hx : evT T x = some (.int k p)) (hy : evT T y = some (.int k q)) (h0 : q ≠ 0) (hr : p.tmod q = r) : Yl P a w ⟨d, .binOp .rem t x y t2, tt, pos, af, gd⟩ (.int k r) := by
 show (execOp _ _).run P w = _; simp [execOp, eqGuard, binOp, Op.intDiv, h.ev hx, h.ev hy, hr, h0]
theorem y_lss (h : Has n T a) (hx : evT T x = some (.int k p)) (hy : evT T y = some (.int k q)) : Yl P a w ⟨d, .binOp .lss t x y t2, tt, pos, af, gd⟩ (.bool (decide (p < q))) := by
 show (execOp _ _).run P w = _; simp [execOp, eqGuard, binOp, Op.intCmp, h.ev hx, h.ev hy]
theorem y_leq (h : Has n T a) (hx : evT T x = some (.int k p)) (hy : evT T y = some (.int k q)) : Yl P a w ⟨d, .binOp .leq t x y t2, tt, pos, af, gd⟩ (.bool (decide (p ≤ q))) := by
 show (execOp _ _).run P w = _; simp [execOp, eqGuard, binOp, Op.intCmp, h.ev hx, h.ev hy]
theorem y_gtr (h : Has n T a) (hx : evT T x = some (.int k p)) (hy : evT T y = some (.int k q)) : Yl P a w ⟨d, .binOp .gtr t x y t2, tt, pos, af, gd⟩ (.bool (decide (q < p))) := by
 show (execOp _ _).run P w = _; simp [execOp, eqGuard, binOp, Op.intCmp, h.ev hx, h.ev hy]
theorem y_geq (h : Has n T a) (hx : evT T x = some (.int k p)) (hy : evT T y = some (.int k q)) : Yl P a w ⟨d, .binOp .geq t x y t2, tt, pos, af, gd⟩ (.bool (decide (q ≤ p))) := by
 show (execOp _ _).run P w = _; simp [execOp, eqGuard, binOp, Op.intCmp, h.ev hx, h.ev hy]
theorem y_eql (h : Has n T a) (hx : evT T x = some (.int k p)) (hy : evT T y = some (.int k q)) : Yl P a w ⟨d, .binOp .eql t x y t2, tt, pos, af, gd⟩ (.bool (decide (p = q))) := by
 have e : (p == q) = decide (p = q) := rfl
 show (execOp _ _).run P w = _; simp [execOp, eqGuard, binOp, Op.intCmp, h.ev hx, h.ev hy, e]
theorem y_neq (h : Has n T a) (hx : evT T x = some (.int k p)) (hy : evT T y = some (.int k q)) : Yl P a w ⟨d, .binOp .neq t x y t2, tt, pos, af, gd⟩ (.bool (decide (p ≠ q))) := by
 have e : (p != q) = decide (p ≠ q) := by simp [bne]; rfl
 show (execOp _ _).run P w = _; simp only [execOp, eqGuard, binOp, Op.intCmp, h.ev hx, h.ev hy, e]; simp
theorem y_eqlB (h : Has n T a) {b c : Bool} (hx : evT T x = some (.bool b)) (hy : evT T y = some (.bool c)) (hu : P.underlying t = some .bool) : Yl P a w ⟨d, .binOp .eql t x y t2, tt, pos, af, gd⟩ (.bool (b == c)) := by
 show (execOp _ _).run P w = _
 simp [execOp, eqGuard, binOp, h.ev hx, h.ev hy, run_eqB hu]
theorem y_eqlS (h : Has n T a) {b c : ByteArray} (hx : evT T x = some (.string b)) (hy : evT T y = some (.string c)) : Yl P a w ⟨d, .binOp .eql t x y t2, tt, pos, af, gd⟩ (.bool (b.toList == c.toList)) := by
 show (execOp _ _).run P w = _; simp [execOp, eqGuard, binOp, Op.stringOp, h.ev hx, h.ev hy]
theorem y_neqS (h : Has n T a) {b c : ByteArray} (hx : evT T x = some (.string b)) (hy : evT T y = some (.string c)) : Yl P a w ⟨d, .binOp .neq t x y t2, tt, pos, af, gd⟩ (.bool (!(b.toList == c.toList))) := by
 show (execOp _ _).run P w = _; simp [execOp, eqGuard, binOp, Op.stringOp, h.ev hx, h.ev hy]
theorem y_conv (h : Has n T a) {s e : TypeId} {k' : IntKind} {ds : TypeDesc} (hx : evT T x = some (.int k p)) (hs : P.underlying s = some ds) (hd : P.underlying e = some (.int k')) (hr : k'.wrap p = r) : Yl P a w ⟨d, .convert s e x, tt, pos, af, gd⟩ (.int k' r) := by
 show (execOp _ _).run P w = _
 simp [execOp, h.ev hx, convert, run_underlying hs, run_underlying hd, Conv.intToInt, hr]
end
theorem y_extract (h : Has n T a) {x : Operand} {vs : Array Value} {i : Nat} {v : Value} (hx : evT T x = some (.tuple vs)) (hv : nthL vs.toList i = some v) : Yl P a w ⟨d, .extract x i, tt, pos, af, gd⟩ v := by
 have hv : vs[i]? = some v := by rw [← hv, ← nthL_eq]; simp
 show (execOp _ _).run P w = _; simp [execOp, h.ev hx, Instr.extract, hv]
theorem y_nilCheck (h : Has n T a) {x : Operand} {p : Addr} (hx : evT T x = some (.pointer (some p))) : Yl P a w ⟨d, .nilCheck x, tt, pos, af, gd⟩ (.pointer (some p)) := by
 show (execOp _ _).run P w = _; simp [execOp, h.ev hx]
theorem y_fieldAddr (h : Has n T a) {t : TypeId} {x : Operand} {i g o : Nat} {fs : Array Field} {f : Field} {s off : Nat} (hx : evT T x = some (.pointer (some ⟨g, o, none⟩))) (hu : P.underlying t = some (.struct fs)) (hf : fs[i]? = some f) (hs : (P.info? f.type).map (·.size) = some (s + 1)) (ho : o + f.offset = off) : Yl P a w ⟨d, .fieldAddr t x i, tt, pos, af, gd⟩ (.pointer (some ⟨g, off, none⟩)) := by
 subst ho
 show (execOp _ _).run P w = _
 cases hq : P.info? f.type with
 | none => simp [hq] at hs
 | some j =>
   have hj : j.size = s + 1 := by simpa [hq] using hs
   simp [execOp, h.ev hx, Instr.fieldAt, run_underlying hu, hf, Instr.sureAddr, fieldPlace, sizeOf, typeInfo, hq, hj, Addr.add_mid]
theorem y_fieldAddrQ (h : Has n T a) {t : TypeId} {x : Operand} {i g o : Nat} {fs : Array Field} {f : Field} {s : Nat} (q : Nat) (hx : evT T x = some (.pointer (some ⟨g, o, none⟩))) (hu : P.underlying t = some (.struct fs)) (hf : fs[i]? = some f) (hs : (P.info? f.type).map (·.size) = some (s + 1)) (hq : f.offset = q) : Yl P a w ⟨d, .fieldAddr t x i, tt, pos, af, gd⟩ (.pointer (some ⟨g, o + q, none⟩)) :=
 y_fieldAddr h hx hu hf hs (by rw [hq])
theorem run_isAgg {t : TypeId} {td : TypeDesc} (hu : P.underlying t = some td) (w : World) : (isAgg t).run P w = .ok td.isRow w := by
 unfold isAgg
 rw [Sem.run_bind, run_underlying hu w]
 cases td <;> simp_all
theorem y_sliceH (h : Has n T a) {t e : TypeId} {x y : Operand} {p : Option Addr} {l c : Nat} {k : IntKind} {q : Int} (hx : evT T x = some (.slice p l c)) (hy : evT T y = some (.int k q)) (hu : P.underlying t = some (.slice e)) {s : Nat} (hs : (P.info? e).map (·.size) = some s) (h0 : 0 ≤ q) (h1 : q ≤ c) : Yl P a w ⟨d, .slice t x none (some y) none, tt, pos, af, gd⟩ (.slice p q.toNat c) := by
 show (execOp _ _).run P w = _
 cases hq : P.info? e with
 | none => simp [hq] at hs
 | some j =>
   have hp : (Option.map (fun x : Addr => x.add 0) p) = p := by cases p <;> simp [Addr.add]
   simp [execOp, h.ev hx, h.ev hy, Instr.sliceAt, run_underlying hu, Instr.slice, Instr.sliceBounds, Instr.sliceBound, asIntOf, h0, h1, sizeOf, typeInfo, hq, hp]
theorem y_sliceL (h : Has n T a) {t e : TypeId} {x y : Operand} {p : Option Addr} {l c : Nat} {k : IntKind} {q : Int} (hx : evT T x = some (.slice p l c)) (hy : evT T y = some (.int k q)) (hu : P.underlying t = some (.slice e)) {s : Nat} (hs : (P.info? e).map (·.size) = some s) (h0 : 0 ≤ q) (h1 : q ≤ l) : Yl P a w ⟨d, .slice t x (some y) none none, tt, pos, af, gd⟩ (.slice (if c = q.toNat then p else p.map (·.add (q.toNat * s))) (l - q.toNat) (c - q.toNat)) := by
 show (execOp _ _).run P w = _
 cases hq : P.info? e with
 | none => simp [hq] at hs
 | some j =>
   have hj : j.size = s := by simpa [hq] using hs
   simp [execOp, h.ev hx, h.ev hy, Instr.sliceAt, run_underlying hu, Instr.slice, Instr.sliceBounds, Instr.sliceBound, asIntOf, h0, h1, sizeOf, typeInfo, hq, hj]
theorem y_sliceLH (h : Has n T a) {t e : TypeId} {x y z : Operand} {p : Option Addr} {l c : Nat} {k k2 : IntKind} {q r : Int} (hx : evT T x = some (.slice p l c)) (hy : evT T y = some (.int k q)) (hz : evT T z = some (.int k2 r)) (hu : P.underlying t = some (.slice e)) {s : Nat} (hs : (P.info? e).map (·.size) = some s) (h0 : 0 ≤ q) (h1 : q ≤ r) (h2 : r ≤ c) : Yl P a w ⟨d, .slice t x (some y) (some z) none, tt, pos, af, gd⟩ (.slice (if c = q.toNat then p else p.map (·.add (q.toNat * s))) (r.toNat - q.toNat) (c - q.toNat)) := by
 show (execOp _ _).run P w = _
 cases hq : P.info? e with
 | none => simp [hq] at hs
 | some j =>
   have hj : j.size = s := by simpa [hq] using hs
   have h3 : 0 ≤ r := by omega
   have h4 : q ≤ max r 0 := by omega
   simp [execOp, h.ev hx, h.ev hy, h.ev hz, Instr.sliceAt, run_underlying hu, Instr.slice, Instr.sliceBounds, Instr.sliceBound, asIntOf, h0, h1, h2, h3, h4, sizeOf, typeInfo, hq, hj]
def evP (T : List (Nat × Value)) : List (Nat × Operand) → Option (List (Nat × Value))
 | [] => some []
 | (i, x) :: l => match evT T x, evP T l with
   | some v, some r => some ((i, v) :: r)
   | _, _ => none
def evA (T : List (Nat × Value)) : List Operand → Option (List Value)
 | [] => some []
 | x :: l => match evT T x, evA T l with
   | some v, some r => some (v :: r)
   | _, _ => none
theorem Has.evP (h : Has n T a) : ∀ {l : List (Nat × Operand)} {pl : List (Nat × Value)}, evP T l = some pl → l.map (fun x => (x.1, a.eval x.2)) = pl
 | [], pl, e => by cases e; rfl
 | (i, x) :: l, pl, e => by
   unfold K.evP at e
   cases hx : evT T x with
   | none => rw [hx] at e; cases e
   | some v =>
     cases hl : K.evP T l with
     | none => rw [hx, hl] at e; cases e
     | some r =>
       rw [hx, hl] at e
       injection e with e; subst e
       rw [List.map_cons, h.evP hl, h.ev hx]
theorem Has.evA (h : Has n T a) : ∀ {l : List Operand} {vs : List Value}, evA T l = some vs → l.map a.eval = vs
 | [], vs, e => by cases e; rfl
 | x :: l, vs, e => by
   unfold K.evA at e
   cases hx : evT T x with
   | none => rw [hx] at e; cases e
   | some v =>
     cases hl : K.evA T l with
     | none => rw [hx, hl] at e; cases e
     | some r =>
       rw [hx, hl] at e
       injection e with e; subst e
       rw [List.map_cons, h.evA hl, h.ev hx]
def setL : List Value → List (Nat × Value) → List Value
 | z, [] => z
 | z, (i, v) :: r => setL (z.set i v) r
def flatS (P : Program) (t : TypeId) (z : List Value) : Bool :=
 match P.info? t, P.underlying t with
 | some it, some (.struct fs) => (match it.zero with | some (.agg c) => c.size == z.length | some _ => false | none => false) && fs.size == z.length && (List.range fs.size).all fun i => match fs[i]? with
   | some f => f.offset == i && (match P.info? f.type with | some j => j.size == 1 | none => false)
   | none => false
 | _, _ => false
theorem fill_set (place : Nat → Option (Nat × Nat)) (N : Nat) (hp : ∀ i, i < N → place i = some (i, 1)) : ∀ (pl : List (Nat × Value)) (z : List Value), z.length = N → pl.all (fun p => decide (p.1 < N) && p.2.oneCell') = true → (∀ p ∈ pl, p.2.cells = #[p.2]) → Instr.fill place z.toArray pl = some (setL z pl).toArray
 | [], z, _, _, _ => rfl
 | (i, v) :: r, z, hz, ha, hc => by
   simp only [List.all_cons, Bool.and_eq_true, decide_eq_true_eq] at ha
   have hv : v.cells = #[v] := hc (i, v) (by simp)
   rw [Instr.fill, hp i ha.1.1, hv]
   have h1 : ¬ (z.toArray.size < i + 1) := by simp; omega
   simp only [List.size_toArray, List.length_cons, List.length_nil, Nat.zero_add, ne_eq, not_true_eq_false, decide_false, Bool.false_or, gt_iff_lt, decide_eq_true_eq]
   rw [if_neg (by omega)]
   have := fill_set place N hp r (z.set i v) (by simp [hz]) (by simpa using ha.2) (fun p hq => hc p (by simp [hq]))
   rw [setL, ← this]
   congr 1
   simp
theorem cells_one {v : Value} (h : v.oneCell' = true) : v.cells = #[v] := by cases v <;> first | rfl | cases h
theorem built_flat {t : TypeId} {z : List Value} (hz : ((P.info? t).bind (·.zero)).map (·.cells.toList) = some z) (hf : flatS P t z = true) (pl : List (Nat × Value)) (hp : pl.all (fun p => decide (p.1 < z.length) && p.2.oneCell') = true) : P.built t pl = some (setL z pl).toArray := by
 unfold flatS at hf
 unfold Program.built
 cases hi : P.info? t with
 | none => simp [hi] at hf
 | some it =>
   cases hu : P.underlying t with
   | none => simp [hi, hu] at hf
   | some td =>
     cases td <;> try (simp [hi, hu] at hf; done)
     case struct fs =>
       cases hzz : it.zero with
       | none => simp [hi, hzz] at hz
       | some zz =>
         simp only [hi, hu, hzz, Bool.and_eq_true, beq_iff_eq, List.all_eq_true, List.mem_range] at hf
         obtain ⟨⟨-, hs⟩, hall⟩ := hf
         have hzl : zz.cells.toList = z := by simpa [hi, hzz] using hz
         have hzc : zz.cells = z.toArray := by rw [← hzl]
         have hpl : fs.toList.mapM (fun f => (P.info? f.type).map fun i => (f.offset, i.size)) = some (fs.toList.map (fun f => (f.offset, 1))) := by
           have : ∀ f ∈ fs.toList, ((P.info? f.type).map fun i => (f.offset, i.size)) = some (f.offset, 1) := by
             intro f hf
             obtain ⟨i, hi1, hi2⟩ := List.getElem_of_mem hf
             have := hall i (by simpa using hi1)
             rw [Array.getElem?_eq_getElem (by simpa using hi1)] at this
             have e : fs[i]'(by simpa using hi1) = f := by simpa using hi2
             rw [e] at this
             simp only [Bool.and_eq_true, beq_iff_eq] at this
             cases hq : P.info? f.type with
             | none => simp [hq] at this
             | some j => simp only [hq, beq_iff_eq] at this; simp [this.2]
           have gen : ∀ l : List Field, (∀ f ∈ l, ((P.info? f.type).map fun i => (f.offset, i.size)) = some (f.offset, 1)) → l.mapM (fun f => (P.info? f.type).map fun i => (f.offset, i.size)) = some (l.map (fun f => (f.offset, 1))) := by
             intro l
             induction l with
             | nil => intro _; rfl
             | cons f l ih => intro h; rw [List.mapM_cons, h f (by simp), ih (fun g hg => h g (by simp [hg]))]; rfl
           exact gen _ this
         simp only [hzz, hpl, hzc]
         refine fill_set _ z.length (fun i hi' => ?_) pl z rfl hp (fun p hq => cells_one (by
           have := List.all_eq_true.1 hp p hq
           simp only [Bool.and_eq_true] at this
           exact this.2))
         have hlt : i < fs.size := by omega
         have := hall i hlt
         rw [Array.getElem?_eq_getElem hlt] at this
         simp only [Bool.and_eq_true, beq_iff_eq] at this
         simp [hlt, this.1]
theorem y_build (h : Has n T a) {t : TypeId} {parts : Array (Nat × Operand)} {z cs : List Value} {pl : List (Nat × Value)} (hp : K.evP T parts.toList = some pl) (hz : ((P.info? t).bind (·.zero)).map (·.cells.toList) = some z) (hf : flatS P t z = true) (h1 : pl.all (fun p => decide (p.1 < z.length) && p.2.oneCell') = true) (hc : setL z pl = cs) : Yl P a w ⟨d, .build t parts, tt, pos, af, gd⟩ (.agg cs.toArray) := by
 have hb := built_flat hz hf pl h1
 have hpl := h.evP hp
 show (execOp _ _).run P w = _
 have hr := run_build (P := P) w t (parts.map fun (i, x) => (i, a.eval x)) (setL z pl).toArray (by rw [Array.toList_map]; rw [← hpl] at hb ⊢; exact hb)
 simp only [execOp, Sem.run_bind, hr, Result.andThen_ok, Sem.run_pure, hc]
end
end Go.Proofs.Ytocfbocdnklllaa.K
