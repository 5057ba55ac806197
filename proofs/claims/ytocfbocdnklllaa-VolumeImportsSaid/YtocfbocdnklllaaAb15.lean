/- Structs of structs. For any program. -/
import Derived.Test.YtocfbocdnklllaaAb14
namespace Go.Proofs.Ytocfbocdnklllaa.K
open Go.ChangeShapes Go.WideShapes Go.ChangeAt Go.RowKit
set_option linter.unusedVariables false
set_option linter.unusedSimpArgs false

theorem fold_set (off : Nat) : ∀ (l : List Value) (k : Nat) (A : List Value), off + k + l.length ≤ A.length → ((l.zipIdx k).foldl (fun (cs : Array Value) (p : Value × Nat) => cs.setIfInBounds (off + p.2) p.1) A.toArray).toList = A.take (off + k) ++ l ++ A.drop (off + k + l.length)
  | [], k, A, _ => by simp
  | c :: l, k, A, h => by
    simp only [List.length_cons] at h
    rw [List.zipIdx_cons, List.foldl_cons]
    have e : A.toArray.setIfInBounds (off + k) c = (A.set (off + k) c).toArray := by simp
    rw [e, fold_set off l (k + 1) (A.set (off + k) c) (by rw [List.length_set]; omega)]
    have hk : off + k < A.length := by omega
    have e1 : (A.set (off + k) c).take (off + (k + 1)) = A.take (off + k) ++ [c] := by
      rw [show off + (k + 1) = off + k + 1 from by omega, List.take_succ_eq_append_getElem (by rw [List.length_set]; exact hk), List.getElem_set_self, List.take_set_of_le (Nat.le_refl _)]
    have e2 : (A.set (off + k) c).drop (off + (k + 1) + l.length) = A.drop (off + k + (l.length + 1)) := by
      rw [List.drop_set_of_lt (by omega)]; congr 1; omega
    rw [e1, e2, List.length_cons]
    simp
def putL : List Value → List (Nat × Nat) → List (Nat × Value) → Option (List Value)
  | z, _, [] => some z
  | z, ps, (i, v) :: r => match nthL ps i with
    | some (off, sz) => bif Nat.beq v.cells.toList.length sz && Nat.ble (off + sz) z.length then putL (z.take off ++ v.cells.toList ++ z.drop (off + sz)) ps r else none
    | none => none
theorem putL_fill (ps : List (Nat × Nat)) : ∀ (pl : List (Nat × Value)) (z cs : List Value), putL z ps pl = some cs → Instr.fill (fun i => ps[i]?) z.toArray pl = some cs.toArray
  | [], z, cs, h => by unfold putL at h; cases h; rfl
  | (i, v) :: r, z, cs, h => by
    unfold putL at h
    cases hp : nthL ps i with
    | none => rw [hp] at h; cases h
    | some q =>
      obtain ⟨off, sz⟩ := q
      rw [hp] at h
      dsimp only at h
      cases hb : (Nat.beq v.cells.toList.length sz && Nat.ble (off + sz) z.length) with
      | false => rw [hb] at h; cases h
      | true =>
        rw [hb] at h
        dsimp only [cond] at h
        rw [Bool.and_eq_true] at hb
        have h1 := Nat.eq_of_beq_eq_true hb.1
        have h2 := Nat.le_of_ble_eq_true hb.2
        have hsz : v.cells.size = sz := by simpa using h1
        rw [Instr.fill]
        rw [nthL_eq, hp]
        dsimp only
        have hc : ¬ ((v.cells.size ≠ sz || off + v.cells.size > z.toArray.size) = true) := by
          simp [hsz]; omega
        have e : (v.cells.zipIdx.foldl (fun cs (x : Value × Nat) => cs.setIfInBounds (off + x.2) x.1) z.toArray) = (z.take off ++ v.cells.toList ++ z.drop (off + sz)).toArray := by
          apply Array.ext'
          have := fold_set off v.cells.toList 0 z (by rw [Nat.add_zero, h1]; exact h2)
          rw [Nat.add_zero, h1] at this
          rw [← this, ← Array.foldl_toList, Array.toList_zipIdx]
        rw [if_neg (by simpa using hc)]
        have := putL_fill ps r _ _ h
        rw [← this, ← e]
def placesS (P : Program) (t : TypeId) : Option (List (Nat × Nat)) :=
  match P.underlying t with
  | some (.struct fs) => fs.toList.mapM (fun f => (P.info? f.type).map fun i => (f.offset, i.size))
  | _ => none
section
variable {P : Program} {n : Nat} {T : List (Nat × Value)} {a : Act} {w w0 : World} {X : Cx} {M : Mm} {tt : TypeId} {pos : String} {af : Array Edge} {gd : Option (Nat × Bool)} {Q : Exit → Act → World → Prop} {d : Option Tmp}
theorem built_put {t : TypeId} {z cs : List Value} {ps : List (Nat × Nat)} (hz : ((P.info? t).bind (·.zero)).map (·.cells.toList) = some z) (hps : placesS P t = some ps) (pl : List (Nat × Value)) (hp : putL z ps pl = some cs) : P.built t pl = some cs.toArray := by
  unfold placesS at hps
  unfold Program.built
  cases hi : P.info? t with
  | none => simp [hi] at hz
  | some it =>
    cases hu : P.underlying t with
    | none => simp [hu] at hps
    | some td =>
      cases td <;> try (simp [hu] at hps; done)
      case struct fs =>
        cases hzz : it.zero with
        | none => simp [hi, hzz] at hz
        | some zz =>
          have hzl : zz.cells.toList = z := by simpa [hi, hzz] using hz
          have hzc : zz.cells = z.toArray := by rw [← hzl]
          simp only [hu] at hps
          simp only [hzz, hps, hzc]
          have := putL_fill ps pl z cs hp
          simpa using this
theorem y_buildG (h : Has n T a) {t : TypeId} {parts : Array (Nat × Operand)} {z cs : List Value} {pl : List (Nat × Value)} {ps : List (Nat × Nat)} (hp : K.evP T parts.toList = some pl) (hz : ((P.info? t).bind (·.zero)).map (·.cells.toList) = some z) (hps : placesS P t = some ps) (hc : putL z ps pl = some cs) : Yl P a w ⟨d, .build t parts, tt, pos, af, gd⟩ (.agg cs.toArray) := by
  have hb := built_put hz hps pl hc
  have hpl := h.evP hp
  show (execOp _ _).run P w = _
  have hr := run_build (P := P) w t (parts.map fun (i, x) => (i, a.eval x)) cs.toArray (by rw [Array.toList_map]; rw [← hpl] at hb; exact hb)
  simp only [execOp, Sem.run_bind, hr, Result.andThen_ok, Sem.run_pure]
end
section
variable {P : Program} {n : Nat} {T : List (Nat × Value)} {a : Act} {w : World} {tt : TypeId} {pos : String} {af : Array Edge} {ops : Array Oper} {rest : List Oper} {Q : Exit → Act → World → Prop}
theorem Has.unyielded (ha : Has n T a) {j t : Nat} (hj : (ops[j]?).bind (·.dst) = some t) (hb : lk T t = some undef) (ht : Nat.blt t n = true) : Go.yielded ops a.tmps j = none := by
  have hlt : t < a.tmps.size := by rw [ha.sz]; simpa [Nat.blt_eq] using ht
  have := ha.h t _ hb
  unfold Go.yielded
  rw [hj]
  show (match a.tmps[t]? with | some (.bool b) => some b | _ => none) = none
  rw [Array.getElem?_eq_getElem hlt]
  have e : a.tmps[t] = undef := by simpa [Array.getD, hlt] using this
  rw [e]; rfl
/-- An operation behind a guard that was itself left out. -/
theorem st_skipU {d : Tmp} {op : Op} {j t : Nat} {b : Bool} (ha : Has n T a) (hj : (ops[j]?).bind (·.dst) = some t) (hb : lk T t = some undef) (ht2 : Nat.blt t n = true) (ht : Nat.blt d n = true) (h : ∀ a', Has n ((d, undef) :: T) a' → wpList P ops Q rest a' w) : wpList P ops Q (⟨some d, op, tt, pos, af, some (j, b)⟩ :: rest) a w := by
  refine wpList_step fun K hK => ?_
  rw [if_neg (by simp [Region.wanted, ha.unyielded hj hb ht2])]
  exact hK _ _ (h _ (ha.put ht _))
variable {md : Region.Mode} {S : World → Prop} {e : Nat} {listed : Array Bool} {fuel : Nat}
theorem d_skipU (i : Nat) {d : Tmp} {op : Op} {j t : Nat} {b : Bool} (ha : Has n T a) (hi : ops[i]? = some ⟨some d, op, tt, pos, af, some (j, b)⟩) (hj : (ops[j]?).bind (·.dst) = some t) (hb : lk T t = some undef) (ht2 : Nat.blt t n = true) (ht : Nat.blt d n = true) (hS : listed.getD e false = false → S w)
    (hs : Region.noSelect ops = true) (hf : Region.free md ops listed i = true) (hr : (Region.ready md ops listed).contains i = true) (hei : decide (i ≠ e) = true)
    (hQ : ∀ c a w, Q (.panic c) (a.put (some d) undef) w → Q (.panic c) a w)
    (h : ∀ a', Has n ((d, undef) :: T) a' → wpAnyE P md ops Q e S fuel (listed.setIfInBounds i true) a' w) : wpAnyE P md ops Q e S (fuel + 1) listed a w :=
  stepE_skip i (some d) hS hi rfl hs hf hr hei hQ (by simp [Region.wanted, ha.unyielded hj hb ht2]) (h _ (ha.put ht undef))
end
section
variable {P : Program} {n : Nat} {T : List (Nat × Value)} {a : Act} {w w0 : World} {X : Cx} {M : Mm} {tt : TypeId} {pos : String} {af : Array Edge} {gd : Option (Nat × Bool)} {d : Option Tmp}
/-- A field, that leads nowhere, of an element of a slice of one's own. -/
theorem y_loadSV (ha : Has n T a) (m : MemOk X w0 M w) {t : TypeId} {td : TypeDesc} {x : Operand} {i g o l c mm : Nat} {e : TypeId} {rows : List (List D)} (hm : lk M i = some (.seg (.slice (some ⟨g, o, none⟩) l c) e mm rows)) (J : Nat) {r : List D} (hr : rows[J]? = some r) {q q' : Nat} {v : Value} (hq : nthL r q = some (.v v)) (hx : evT T x = some (.pointer (some ⟨g, q', none⟩))) (hq' : q' = o + J * mm + q) (hu : P.underlying t = some td) (hd : td.isRow = false) : Yl P a w ⟨d, .load t x, tt, pos, af, gd⟩ v := by
  obtain ⟨⟨cs, h1, h2, h3, h4, h5⟩, -⟩ := m.ok i _ hm
  subst hq'
  have hJ : J < rows.length := (List.getElem?_eq_some_iff.1 hr).1
  have hJc : cs[J]? = some cs[J] := List.getElem?_eq_getElem (by omega)
  have hc := (h3 cs[J] (List.getElem_mem (by omega))).1
  rw [← nthL_eq] at hq
  have hqr := (List.getElem?_eq_some_iff.1 hq).1
  have hrm := h4 r (List.mem_of_getElem? hr)
  have hxq : cs[J][q]? = some (cs[J][q]'(by omega)) := List.getElem?_eq_getElem (by omega)
  have hv := (h5 J q cs[J] r _ _ hJc hr hxq hq).v_out
  have hl : l = rows.length := by
    rcases h1.2 with ⟨e1, _⟩ | ⟨_, _, _, _, e1, _⟩
    · cases e1
    · injection e1
  subst hl
  have hf := flatten_at cs J q cs[J] (fun c hc => (h3 c hc).1) hJc (by omega)
  have hcell := h1.cellAt rfl (J * mm + q) (by calc J * mm + q < J * mm + mm := by omega
      _ = (J + 1) * mm := by rw [Nat.add_mul]; omega
      _ ≤ rows.length * mm := Nat.mul_le_mul_right _ (by omega))
  have hc' : w.cell? ⟨g, o + J * mm + q, none⟩ = some v := by rw [Nat.add_assoc, hcell, hf, hxq, hv]
  show (execOp _ _).run P w = _
  simp [execOp, ha.ev hx, Instr.loadAt, Instr.sureAddr, run_load1 hu hd hc']
end
section
variable {P : Program} {n : Nat} {T : List (Nat × Value)} {a : Act} {w : World} {tt : TypeId} {pos : String} {af : Array Edge} {gd : Option (Nat × Bool)} {Q : Exit → Act → World → Prop} {K : Act → World → Prop}
/-- An operation that nothing else can come ahead of. -/
theorem e_y {d : Tmp} {op : Op} {v : Value} (ha : Has n T a) (ht : Nat.blt d n = true) (hy : Yl P a w ⟨some d, op, tt, pos, af, gd⟩ v) (h : ∀ a', Has n ((d, v) :: T) a' → K a' w) : Oper.wp P ⟨some d, op, tt, pos, af, gd⟩ a w K Q := by
  show Oper.upon P _ a K Q _
  rw [hy]
  exact h _ (ha.put ht v)
end
end Go.Proofs.Ytocfbocdnklllaa.K
