/- General laws of walks. -/
import Derived.Test.YtamjnimaeecmoaaGreatG1
import Derived.Deep.Slices
import Derived.SizedLaws
import Derived.Laws.MakeOwn
import Derived.Lib.AppendZerosOnto
namespace Go.Proofs.YtamjnimaeecmoaaGreat.K
open Go.ChangeShapes Go.WideShapes Go.ChangeAt Go.RowKit
set_option linter.unusedVariables false
set_option linter.unusedSimpArgs false
section
inductive Shp where
 | i (k : IntKind)
 | bo
 | st
 | ns (k : IntKind)
 | l (ss : List Shp)
mutual
inductive DOk : Shp → D → Prop
 | i {k : IntKind} {z : Int} (h : (Lit.int k z).wf = true) : DOk (.i k) (.v (.int k z))
 | bo (x : Bool) : DOk .bo (.v (.bool x))
 | st (x : ByteArray) (h : x.size ≤ reachBytes) : DOk .st (.v (.string x))
 | ns {k : IntKind} {zs : List Int} (h1 : zs.length ≤ reachBytes) (h : ∀ z ∈ zs, (Lit.int k z).wf = true) : DOk (.ns k) (.ns k zs)
 | l {ss : List Shp} {rows : List (List D)} (h1 : rows.length ≤ reachBytes) (h : ∀ r ∈ rows, DOkL ss r) : DOk (.l ss) (.l ss.length rows)
inductive DOkL : List Shp → List D → Prop
 | nil : DOkL [] []
 | cons {s : Shp} {d : D} {ss : List Shp} {ds : List D} (h : DOk s d) (t : DOkL ss ds) : DOkL (s :: ss) (d :: ds)
end
theorem DOkL.len {ss : List Shp} {ds : List D} (h : DOkL ss ds) : ds.length = ss.length := by
 induction ss generalizing ds with
 | nil => cases h; rfl
 | cons s ss ih => cases h with | cons h t => simp [ih t]
theorem DOkL.app {s1 s2 : List Shp} {d1 d2 : List D} (h1 : DOkL s1 d1) (h2 : DOkL s2 d2) : DOkL (s1 ++ s2) (d1 ++ d2) := by
 induction s1 generalizing d1 with
 | nil => cases h1; exact h2
 | cons s ss ih => cases h1 with | cons h t => exact .cons h (ih t)
theorem RdL.app {S : Nat → Prop} {w : World} {v1 v2 : List Value} {d1 d2 : List D} (h1 : RdL S w v1 d1) (h2 : RdL S w v2 d2) : RdL S w (v1 ++ v2) (d1 ++ d2) := by
 induction h1 with
 | nil => exact h2
 | cons h t ih => exact .cons h ih
inductive Fits (P : Program) : TypeId → List Shp → Prop
 | int {t : TypeId} {k : IntKind} (hu : P.underlying t = some (.int k)) : Fits P t [.i k]
 | bool {t : TypeId} (hu : P.underlying t = some .bool) : Fits P t [.bo]
 | str {t : TypeId} (hu : P.underlying t = some .string) : Fits P t [.st]
 | nums {t e : TypeId} {k : IntKind} (hu : P.underlying t = some (.slice e)) (he : P.underlying e = some (.int k)) (ce : P.cellsOf e = 1) (hb : Nat.ble 1 (P.bytesOf e) = true) : Fits P t [.ns k]
 | rows {t e : TypeId} {ss : List Shp} (hu : P.underlying t = some (.slice e)) (hf : Fits P e ss) (ce : P.cellsOf e = ss.length) (h0 : Nat.blt 0 ss.length = true) (hb : Nat.ble 1 (P.bytesOf e) = true) : Fits P t [.l ss]
 | struct {t : TypeId} {fs : Array Field} {sss : List (List Shp)} (hu : P.underlying t = some (.struct fs)) (ce : P.cellsOf t = sss.flatten.length) (hl : sss.length = fs.size)
     (ho : ∀ (i : Nat) (f : Field) (s : List Shp), fs[i]? = some f → sss[i]? = some s → f.offset = (sss.take i).flatten.length ∧ P.cellsOf f.type = s.length)
     (hf : ∀ (i : Nat) (f : Field) (s : List Shp), fs[i]? = some f → sss[i]? = some s → Fits P f.type s) : Fits P t sss.flatten
 | array {t e : TypeId} {n : Nat} {ss : List Shp} (hu : P.underlying t = some (.array n e)) (hf : Fits P e ss) (ce : P.cellsOf e = ss.length) (ct : P.cellsOf t = (List.replicate n ss).flatten.length) : Fits P t (List.replicate n ss).flatten
inductive FitsL (P : Program) : List Field → Nat → List (List Shp) → Prop
 | nil (o : Nat) : FitsL P [] o []
 | cons {f : Field} {fs : List Field} {o : Nat} {s : List Shp} {ss : List (List Shp)} (ho : f.offset = o) (hc : P.cellsOf f.type = s.length) (hf : Fits P f.type s) (t : FitsL P fs (o + s.length) ss) : FitsL P (f :: fs) o (s :: ss)
theorem FitsL.at {P : Program} {fs : List Field} {o : Nat} {ss : List (List Shp)} (h : FitsL P fs o ss) : ∀ (i : Nat) (f : Field) (s : List Shp), fs[i]? = some f → ss[i]? = some s → (f.offset = o + (ss.take i).flatten.length ∧ P.cellsOf f.type = s.length) ∧ Fits P f.type s := by
 induction h with
 | nil o => intro i f s h1; simp at h1
 | cons ho hc hf t ih =>
   intro i f s h1 h2
   cases i with
   | zero => simp at h1 h2; subst h1; subst h2; exact ⟨⟨by simpa using ho, hc⟩, hf⟩
   | succ i =>
     have := ih i f s (by simpa using h1) (by simpa using h2)
     refine ⟨⟨?_, this.1.2⟩, this.2⟩
     rw [this.1.1]; simp; omega
theorem FitsL.len {P : Program} {fs : List Field} {o : Nat} {ss : List (List Shp)} (h : FitsL P fs o ss) : ss.length = fs.length := by
 induction h with
 | nil => rfl
 | cons _ _ _ _ ih => simp [ih]
theorem Fits.mk {P : Program} {t : TypeId} {fs : Array Field} {sss : List (List Shp)} {ss : List Shp} (hu : P.underlying t = some (.struct fs)) (ce : P.cellsOf t = ss.length) (he : sss.flatten = ss) (h : FitsL P fs.toList 0 sss) : Fits P t ss := by
 subst he
 refine .struct hu ce (by simpa using h.len) (fun i f s h1 h2 => ?_) (fun i f s h1 h2 => (h.at i f s (by simpa using h1) h2).2)
 have := (h.at i f s (by simpa using h1) h2).1
 exact ⟨by rw [this.1, Nat.zero_add], this.2⟩
theorem glue {S : Nat → Prop} {w : World} {cs : List Value} : ∀ (sss : List (List Shp)) (o : Nat), o + sss.flatten.length = cs.length →
   (∀ i s, sss[i]? = some s → (∃ ds, RdL S w ((cs.drop (o + (sss.take i).flatten.length)).take s.length) ds ∧ DOkL s ds) ∧ ∀ c ∈ (cs.drop (o + (sss.take i).flatten.length)).take s.length, c.oneCell' = true) →
   (∃ ds, RdL S w (cs.drop o) ds ∧ DOkL sss.flatten ds) ∧ ∀ c ∈ cs.drop o, c.oneCell' = true
 | [], o, ho, _ => by
   have : cs.drop o = [] := List.drop_of_length_le (by simp at ho; omega)
   rw [this]
   exact ⟨⟨[], .nil, .nil⟩, by simp⟩
 | s :: r, o, ho, h => by
   obtain ⟨⟨d1, h1, h2⟩, h3⟩ := h 0 s rfl
   simp only [List.take_zero, List.flatten_nil, List.length_nil, Nat.add_zero] at h1 h3
   obtain ⟨⟨d2, g1, g2⟩, g3⟩ := glue (S := S) (w := w) (cs := cs) r (o + s.length) (by rw [List.flatten_cons, List.length_append] at ho; omega) (fun i s' hi => by
     have := h (i + 1) s' (by simpa using hi)
     simpa [Nat.add_assoc] using this)
   have e : cs.drop o = (cs.drop o).take s.length ++ cs.drop (o + s.length) := by
     rw [← List.drop_drop, List.take_append_drop]
   rw [e]
   refine ⟨⟨d1 ++ d2, h1.app g1, by simpa using h2.app g2⟩, fun c hc => ?_⟩
   rcases List.mem_append.1 hc with hc | hc
   · exact h3 c hc
   exact g3 c hc
theorem weightsAll_mem {H : Type} {P : Program} {e : TypeId} : ∀ {l : List (DataW H)} {d : DataW H}, d ∈ l → ∀ n ∈ d.weights P e, n ∈ DataW.weightsAll P e l
 | x :: r, d, h, n, hn => by
   simp only [DataW.weightsAll, List.mem_append]
   rcases List.mem_cons.1 h with rfl | h
   · exact .inl hn
   exact .inr (weightsAll_mem h n hn)
theorem open_shp {H : Type} {enc : TypeId × Value → H} {P : Program} {w : World} {base : Nat} {held : Bool} {t : TypeId} {ss : List Shp} (hf : Fits P t ss) : ∀ {fuel : Nat} {cs : List Value} {x : DataW H × List MemPlace},
   DataW.trod enc P w base (fun _ => true) held fuel t cs = some x → (∀ n ∈ x.1.weights P t, n ≤ reachBytes) → (∃ ds, RdL (fun _ => True) w cs ds ∧ DOkL ss ds) ∧ ∀ c ∈ cs, c.oneCell' = true := by
 induction hf with
 | int hu =>
   intro fuel cs x h hw
   obtain ⟨n, rfl, rfl, hwf⟩ := DataW.trod_int hu h
   exact ⟨⟨_, .cons (.v _) .nil, .cons (.i hwf) .nil⟩, fun c hc => by rw [List.mem_singleton.1 hc]; rfl⟩
 | bool hu =>
   intro fuel cs x h hw
   obtain ⟨n, rfl, rfl⟩ := DataW.trod_bool hu h
   exact ⟨⟨_, .cons (.v _) .nil, .cons (.bo _) .nil⟩, fun c hc => by rw [List.mem_singleton.1 hc]; rfl⟩
 | str hu =>
   intro fuel cs x h hw
   obtain ⟨n, rfl, rfl, hm⟩ := DataW.trod_string hu h
   have := hw n.data.toList.length (by simp [DataW.weights])
   exact ⟨⟨_, .cons (.v _) .nil, .cons (.st _ (by simpa using this)) .nil⟩, fun c hc => by rw [List.mem_singleton.1 hc]; rfl⟩
 | @nums t e k hu he ce hb =>
   intro fuel cs x h hw
   have hb' : 1 ≤ P.bytesOf e := Nat.le_of_ble_eq_true hb
   rcases open_ints hu he ce h with ⟨rfl, rfl⟩ | ⟨a, l, c, zs, rfl, _, hl, hm, hz, rfl, hcell, hwz⟩
   · exact ⟨⟨[.ns k []], .cons (Rd.nilN _ _ _ _) .nil, .cons (.ns (Nat.zero_le _) (by intro z hz; cases hz)) .nil⟩, fun c hc => by rw [List.mem_singleton.1 hc]; rfl⟩
   obtain ⟨ys, h1, h2, h3⟩ := NumsS.ofRow (k := k) (w := w) (a := some a) (len := l) (cap := c) (zs := zs) (.inr ⟨_, rfl, hl, hm, by simpa using hz, hcell, hwz⟩)
   subst h2
   have hlen := hw (((zs.take ys.length).length + (zs.drop ys.length).length) * P.bytesOf e) (by simp [DataW.weights, hu, lits])
   have hge : (zs.take ys.length).length + (zs.drop ys.length).length ≤ ((zs.take ys.length).length + (zs.drop ys.length).length) * P.bytesOf e := Nat.le_mul_of_pos_right _ hb'
   have hsum : (zs.take ys.length).length + (zs.drop ys.length).length = zs.length := by rw [← List.length_append, List.take_append_drop]
   have hzl : zs.length = c := by simpa using hz
   exact ⟨⟨[.ns k ys], .cons h1 .nil, .cons (.ns (by omega) h3) .nil⟩, fun c hc => by rw [List.mem_singleton.1 hc]; rfl⟩
 | @rows t e ss hu hf ce h0 hb ih =>
   intro fuel cs x h hw
   have hb' : 1 ≤ P.bytesOf e := Nat.le_of_ble_eq_true hb
   rcases Deep.open_slice hu h with ⟨rfl, rfl⟩ | ⟨a, len, cap, m, n, DD, Pl, rfl, _, hl, hm, hmm, rfl, hx⟩
   · exact ⟨⟨[.l ss.length []], .cons (.l0 none 0 _) .nil, .cons (.l (Nat.zero_le _) (by intro r hr; cases hr)) .nil⟩, fun c hc => by rw [List.mem_singleton.1 hc]; rfl⟩
   simp only [if_true] at hmm
   subst hmm
   rw [ce] at hx
   have hlen := hw ((((List.range len).map DD).length + ((List.range (m - len)).map fun j => DD (len + j)).length) * P.bytesOf e) (by simp [DataW.weights, hu])
   have hge : (((List.range len).map DD).length + ((List.range (m - len)).map fun j => DD (len + j)).length) ≤ (((List.range len).map DD).length + ((List.range (m - len)).map fun j => DD (len + j)).length) * P.bytesOf e := Nat.le_mul_of_pos_right _ hb'
   simp only [List.length_map, List.length_range] at hlen hge
   have each : ∀ i, i < len → ∃ y : List Value × List D, w.cells? base (a.add (i * ss.length)) ss.length = some y.1 ∧ RdL (fun _ => True) w y.1 y.2 ∧ DOkL ss y.2 ∧ ∀ c ∈ y.1, c.oneCell' = true := by
     intro i hi
     obtain ⟨cs', h1, h2⟩ := hx i (by omega)
     obtain ⟨⟨ds, g1, g2⟩, g3⟩ := ih h2 (fun n' hn' => hw n' (by
       simp only [DataW.weights, hu, List.mem_cons, List.mem_append]
       exact .inr (.inl (weightsAll_mem (List.mem_map.2 ⟨i, List.mem_range.2 hi, rfl⟩) n' hn'))))
     exact ⟨(cs', ds), h1, g1, g2, g3⟩
   obtain ⟨y, hy⟩ := Deep.choose_lt each
   have hrows : (((List.range len).map fun i => (y i).2)).length = len := by simp
   refine ⟨⟨[.l ss.length ((List.range len).map fun i => (y i).2)], .cons ?_ .nil, .cons (.l (by omega) (fun r hr => ?_)) .nil⟩, fun c hc => by rw [List.mem_singleton.1 hc]; rfl⟩
   · have h0' : 0 < ss.length := by simpa using h0
     by_cases hl0 : len = 0
     · subst hl0; exact .l0 _ _ _
     obtain ⟨bb, off, spot⟩ := a
     have hc0 : w.cell? ((⟨bb, off, spot⟩ : Addr).add (0 * ss.length + 0)) = some ((y 0).1[0]'(by have := (World.cells?_some (hy 0 (by omega)).1).2.1; omega)) := by
       have h3 := (World.cells?_some (hy 0 (by omega)).1).2.2 0 h0'
       simp only [Addr.add_add] at h3
       rw [h3]
       exact List.getElem?_eq_getElem _
     have hspot : spot = none := by simpa [Addr.add] using World.cell?_spot hc0
     subst hspot
     have hbl := World.block_lt_of_cell? w _ hc0
     rw [Addr.add_mid] at hbl
     have hrd := Rd.l (S := fun _ => True) (w := w) ss.length bb off m ((List.range len).map fun i => (y i).2) (fun j q => ((y j).1[q]?).getD undef) trivial hbl (by rw [hrows]; exact hl)
       (fun r hr => by obtain ⟨i, hi, rfl⟩ := List.mem_map.1 hr; exact (hy i (List.mem_range.1 hi)).2.2.1.len)
       (fun j q hj hq => by
         have hj' : j < len := by omega
         obtain ⟨e1, e2, e3, e4⟩ := hy j hj'
         obtain ⟨-, f2, f3⟩ := World.cells?_some e1
         have := f3 q hq
         rw [Addr.add_mid, Addr.add_mid] at this
         rw [this, List.getElem?_eq_getElem (by omega)]
         exact ⟨rfl, e4 _ (List.getElem_mem _)⟩)
       (fun j q r d hj hq => by
         have hj' : j < len := by have := (List.getElem?_eq_some_iff.1 hj).1; omega
         obtain ⟨e1, e2, e3, e4⟩ := hy j hj'
         simp [hj'] at hj
         subst hj
         have hql := (List.getElem?_eq_some_iff.1 hq).1
         have hvl := e2.len
         have hv : (y j).1[q]? = some ((y j).1[q]'(by omega)) := List.getElem?_eq_getElem (by omega)
         show Rd _ w (((y j).1[q]?).getD undef) d
         rw [hv]
         exact e2.get q _ d hv hq)
     rw [hrows] at hrd
     exact hrd
   obtain ⟨i, hi, rfl⟩ := List.mem_map.1 hr
   exact (hy i (List.mem_range.1 hi)).2.2.1
 | @struct t fs sss hu ce hl ho hf ih =>
   intro fuel cs x h hw
   obtain ⟨xs, n, rfl, rfl, hcl, hxl, hxs⟩ := DataW.trod_struct hu h
   have := glue (S := fun _ => True) (w := w) (cs := cs) sss 0 (by rw [Nat.zero_add, hcl, ce]) (fun i s hi => by
     have hil : i < sss.length := (List.getElem?_eq_some_iff.1 hi).1
     have hfi : fs[i]? = some fs[i] := Array.getElem?_eq_getElem (by omega)
     obtain ⟨h1, h2⟩ := ho i _ s hfi hi
     have h3 := hxs i _ hfi
     have hxi : xs[i]? = some xs[i] := List.getElem?_eq_getElem (by omega)
     rw [h1, h2, hxi] at h3
     rw [Nat.zero_add]
     refine ih i _ s hfi hi h3 (fun n' hn' => hw n' ?_)
     simp only [DataW.weights, hu]
     exact DataW.weights_mem_each (j := i) (t := fs[i].type) (d := xs[i].1) (by simp [hfi]) (by simp [hxi]) n' hn')
   simpa using this
 | @array t e k ss hu hf ce ct ih =>
   intro fuel cs x h hw
   obtain ⟨xs, n, rfl, rfl, hcl, hxl, hxs⟩ := DataW.trod_array hu h
   have := glue (S := fun _ => True) (w := w) (cs := cs) (List.replicate k ss) 0 (by rw [Nat.zero_add, hcl, ct]) (fun i s hi => by
     obtain ⟨hik, hs⟩ := List.getElem?_eq_some_iff.1 hi
     rw [List.length_replicate] at hik
     rw [List.getElem_replicate] at hs
     subst hs
     have h3 := hxs i hik
     have hxi : xs[i]? = some xs[i] := List.getElem?_eq_getElem (by omega)
     rw [ce, hxi] at h3
     have hoff : ((List.replicate k ss).take i).flatten.length = i * ss.length := by
       rw [List.take_replicate, Nat.min_eq_left (by omega), List.length_flatten, List.map_replicate, List.sum_replicate_nat]
     rw [Nat.zero_add, hoff]
     refine ih h3 (fun n' hn' => hw n' ?_)
     simp only [DataW.weights, hu]
     exact weightsAll_mem (d := xs[i].1) (List.mem_map.2 ⟨xs[i], List.getElem_mem _, rfl⟩) n' hn')
   simpa using this
theorem open_rows {H : Type} {enc : TypeId × Value → H} {P : Program} {w : World} {base : Nat} {held : Bool} {t : TypeId} {ss : List Shp} (hf : Fits P t [.l ss]) {fuel : Nat} {a : Option Addr} {len cap : Nat} {x : DataW H × List MemPlace}
   (h : DataW.trod enc P w base (fun _ => true) held fuel t [.slice a len cap] = some x) (hw : ∀ n ∈ x.1.weights P t, n ≤ reachBytes) :
   ∃ rows : List (List D), Rd (fun _ => True) w (.slice a rows.length cap) (.l ss.length rows) ∧ rows.length = len ∧ rows.length ≤ reachBytes ∧ ∀ r ∈ rows, DOkL ss r := by
 obtain ⟨⟨ds, h1, h2⟩, -⟩ := open_shp hf h hw
 cases h2 with
 | cons h2 h3 =>
   cases h3
   cases h2 with
   | l h4 h5 =>
     cases h1 with
     | cons h1 _ =>
       obtain ⟨p, c, e, -⟩ := h1.l_shape
       injection e with e1 e2 e3
       subst e1; subst e3
       exact ⟨_, e2 ▸ h1, e2.symm, h4, h5⟩
theorem rows_map {α : Type} {f : α → List D} {Q : α → Prop} : ∀ {rows : List (List D)}, (∀ r ∈ rows, ∃ a, r = f a ∧ Q a) → ∃ al : List α, rows = al.map f ∧ ∀ a ∈ al, Q a
 | [], _ => ⟨[], rfl, by simp⟩
 | r :: rs, h => by
   obtain ⟨a, h1, h2⟩ := h r (by simp)
   obtain ⟨al, h3, h4⟩ := rows_map (fun r' hr => h r' (List.mem_cons_of_mem _ hr))
   exact ⟨a :: al, by rw [h1, h3]; rfl, fun x hx => by rcases List.mem_cons.1 hx with rfl | hx; exact h2; exact h4 x hx⟩
theorem DOk.l_out {ss : List Shp} {d : D} (h : DOk (.l ss) d) : ∃ rows, d = .l ss.length rows ∧ rows.length ≤ reachBytes ∧ ∀ r ∈ rows, DOkL ss r := by cases h with | l h1 h2 => exact ⟨_, rfl, h1, h2⟩
theorem DOk.ns_out {k : IntKind} {d : D} (h : DOk (.ns k) d) : ∃ zs, d = .ns k zs ∧ zs.length ≤ reachBytes ∧ ∀ z ∈ zs, (Lit.int k z).wf = true := by cases h with | ns h1 h2 => exact ⟨_, rfl, h1, h2⟩
theorem DOk.i_out {k : IntKind} {d : D} (h : DOk (.i k) d) : ∃ z, d = .v (.int k z) ∧ (Lit.int k z).wf = true := by cases h with | i h => exact ⟨_, rfl, h⟩
theorem DOkL.cons_out {s : Shp} {ss : List Shp} {ds : List D} (h : DOkL (s :: ss) ds) : ∃ d r, ds = d :: r ∧ DOk s d ∧ DOkL ss r := by cases h with | cons h t => exact ⟨_, _, rfl, h, t⟩
theorem DOkL.nil_out {ds : List D} (h : DOkL [] ds) : ds = [] := by cases h; rfl
end
section
def ownL (M : Mm) : List Nat := M.filterMap (fun p => p.2.blk)
def cxM (X : Cx) (M : Mm) (w : World) (L : Mm) : Cx := ⟨ownL L, fun b => b < w.heap.size → Free X M b⟩
def Res.pass : Res → Bool
 | .num _ _ _ _ => false
 | .row _ _ _ _ => false
 | .rowC _ _ _ _ _ => false
 | _ => true
def dropM (M : Mm) (ids : List Nat) : Mm := M.filter (fun p => !(ids.any (Nat.beq p.1)))
theorem lk_mem {α : Type} : ∀ {M : List (Nat × α)} {i : Nat} {r : α}, lk M i = some r → (i, r) ∈ M
 | [], i, r, h => by cases h
 | (k, x) :: t, i, r, h => by
   rw [lk_cons] at h
   split at h
   · rename_i e; subst e; cases h; exact List.mem_cons_self
   exact List.mem_cons_of_mem _ (lk_mem h)
theorem renM_mem {M : Mm} : ∀ {ps : List (Nat × Nat)} {i : Nat} {r : Res}, (i, r) ∈ renM M ps → ∃ j, (i, j) ∈ ps ∧ lk M j = some r
 | [], i, r, h => by cases h
 | (i', j) :: t, i, r, h => by
   rw [renM] at h
   split at h
   · rename_i r' hr
     rcases List.mem_cons.1 h with e | h
     · injection e with e1 e2; subst e1; subst e2; exact ⟨j, List.mem_cons_self, hr⟩
     obtain ⟨j', h1, h2⟩ := renM_mem h; exact ⟨j', List.mem_cons_of_mem _ h1, h2⟩
   obtain ⟨j', h1, h2⟩ := renM_mem h; exact ⟨j', List.mem_cons_of_mem _ h1, h2⟩
theorem ownL_of {M : Mm} {i b : Nat} {r : Res} (h : lk M i = some r) (hb : r.blk = some b) : b ∈ ownL M := List.mem_filterMap.2 ⟨(i, r), lk_mem h, hb⟩
theorem ownL_ren {M : Mm} {ps : List (Nat × Nat)} {b : Nat} (h : b ∈ ownL (renM M ps)) : ∃ i j r, (i, j) ∈ ps ∧ lk M j = some r ∧ r.blk = some b := by
 obtain ⟨⟨i, r⟩, h1, h2⟩ := List.mem_filterMap.1 h
 obtain ⟨j, h3, h4⟩ := renM_mem h1
 exact ⟨i, j, r, h3, h4, h2⟩
theorem lk_app {α : Type} : ∀ {A B : List (Nat × α)} {i : Nat}, lk (A ++ B) i = (lk A i).or (lk B i)
 | [], B, i => rfl
 | (k, x) :: t, B, i => by
   rw [List.cons_append, lk_cons, lk_cons]
   split
   · rfl
   exact lk_app
theorem dropM_lk {ids : List Nat} : ∀ {M : Mm} {i : Nat} {r : Res}, lk (dropM M ids) i = some r → i ∉ ids ∧ lk M i = some r
 | [], i, r, h => by cases h
 | (k, x) :: t, i, r, h => by
   unfold dropM at h
   rw [List.filter_cons] at h
   split at h
   · rename_i hk
     rw [lk_cons] at h
     rw [lk_cons]
     split at h
     · rename_i e; subst e
       rw [if_pos rfl]
       refine ⟨fun hm => ?_, h⟩
       simp at hk
       exact hk _ hm rfl
     rename_i e
     rw [if_neg e]
     exact dropM_lk h
   rename_i hk
   obtain ⟨h1, h2⟩ := dropM_lk (M := t) h
   refine ⟨h1, ?_⟩
   rw [lk_cons]
   split
   · rename_i e; subst e
     simp at hk
     exact absurd hk h1
   exact h2
section
variable {w w0 : World} {X : Cx} {M : Mm}
theorem MemOk.into (m : MemOk X w0 M w) (ps : List (Nat × Nat)) (hp : (ps.all fun p => ps.all fun q => !(p.2 == q.2) || p.1 == q.1) = true) (h2 : (renM M ps).all (fun p => p.2.pass) = true) : MemOk (cxM X M w (renM M ps)) w (renM M ps) w where
 keep := Keep.refl _ _
 fresh := fun b hb hlt => absurd hlt (by omega)
 ok i r h := by
   obtain ⟨j, h3, h4⟩ := renM_out h
   have hpass : r.pass = true := List.all_eq_true.1 h2 _ (lk_mem h)
   have hown : ∀ b, Own (renM M ps) b → Own M b := fun b ⟨q, s, hq, hs⟩ => by obtain ⟨q', _, h5⟩ := renM_out hq; exact ⟨q', s, h5, hs⟩
   have hfree : ∀ b, b < w.heap.size → Free X M b → w.heap[b]? = w.heap[b]? ∧ Free (cxM X M w (renM M ps)) (renM M ps) b := fun b hb hF => ⟨rfl, fun _ => hF, fun ho => hF.2 (hown b ho)⟩
   have hbad : ∀ b, r.blk = some b → b ∈ ownL (renM M ps) := fun b hb => ownL_of h hb
   have ho := m.ok j r h4
   cases r with
   | dat v d => exact Rd.mono ho (Nat.le_refl _) hfree
   | box g e cs => exact ⟨ho.1, .inr (hbad g rfl)⟩
   | num v e k zs => cases hpass
   | row v e mm rows => cases hpass
   | rowC v e mm rows cs => cases hpass
   | seg v e mm rows => exact ⟨ho.1.mono (fun b hb hF => (hfree b hb hF).2), fun b hb => .inr (hbad b hb)⟩
   | cel b o vs => exact ⟨(hfree b ho.2.1 ho.1).2, ho.2⟩
   | any g => exact ⟨ho.1, .inr (hbad g rfl)⟩
   | gone => trivial
 sep i j r s b h1 h2' hr hs := by
   obtain ⟨i', a1, a2⟩ := renM_out h1
   obtain ⟨j', b1, b2⟩ := renM_out h2'
   obtain rfl := m.sep i' j' r s b a2 b2 hr hs
   rw [List.all_eq_true] at hp
   have h3 := hp _ a1
   rw [List.all_eq_true] at h3
   have h4 := h3 _ b1
   simpa using h4
theorem Res.ok_low {N N' : Nat} {X X' : List Nat} {S : Nat → Prop} {w : World} {r : Res} (h : r.ok N X S w) (hN : N' ≤ N) (hX : ∀ b, r.blk = some b → b ∈ X → N' ≤ b ∨ b ∈ X') : r.ok N' X' S w := by
 have low : ∀ {e : TypeId} {s : Nat} {v : Value} {n : Nat} {xs : List Value}, w.ownsRow N e s v n xs → w.ownsRow N' e s v n xs := by
   intro e s v n xs h
   refine ⟨h.1, ?_⟩
   rcases h.2 with hn | ⟨g, cap, cur, rfl, hg, rest⟩
   · exact .inl hn
   exact .inr ⟨g, cap, cur, rfl, Nat.le_trans hN hg, rest⟩
 have two : ∀ b, r.blk = some b → (N ≤ b ∨ b ∈ X) → (N' ≤ b ∨ b ∈ X') := fun b hb h => h.elim (fun h => .inl (Nat.le_trans hN h)) (hX b hb)
 cases r with
 | dat v d => exact h
 | box g e cs => exact ⟨h.1, two g rfl h.2⟩
 | num v e k zs => exact low h
 | row v e mm rows => obtain ⟨cs, h1, h2⟩ := h; exact ⟨cs, low h1, h2⟩
 | rowC v e mm rows cs => exact ⟨low h.1, h.2⟩
 | seg v e mm rows => exact ⟨h.1, fun b hb => two b hb (h.2 b hb)⟩
 | cel b o vs => exact h
 | any g => exact ⟨h.1, two g rfl h.2⟩
 | gone => trivial
theorem MemOk.back (m : MemOk X w0 M w) {ps : List (Nat × Nat)} {L : Mm} {w' : World} (m' : MemOk (cxM X M w (renM M ps)) w L w') (qs : List (Nat × Nat)) (hq : (qs.all fun p => qs.all fun q => !(p.2 == q.2) || p.1 == q.1) = true) : MemOk X w0 (renM L qs ++ dropM M (ps.map (·.2))) w' := by
 -- the blocks that the call might write
 have hbad : ∀ b, b ∈ ownL (renM M ps) → ∃ j r, j ∈ ps.map (·.2) ∧ lk M j = some r ∧ r.blk = some b := fun b hb => by
   obtain ⟨i, j, r, h1, h2, h3⟩ := ownL_ren hb
   exact ⟨j, r, List.mem_map.2 ⟨(i, j), h1, rfl⟩, h2, h3⟩
 have hbadX : ∀ b, b ∈ ownL (renM M ps) → b < w.heap.size ∧ (w0.heap.size ≤ b ∨ b ∈ X.bad) := fun b hb => by
   obtain ⟨j, r, _, h2, h3⟩ := hbad b hb
   exact Res.blk_lt (m.ok j r h2) h3
 have hcase : ∀ i r, lk (renM L qs ++ dropM M (ps.map (·.2))) i = some r → (∃ j, (i, j) ∈ qs ∧ lk L j = some r) ∨ (i ∉ ps.map (·.2) ∧ lk M i = some r) := fun i r h => by
   rw [lk_app] at h
   cases hr : lk (renM L qs) i with
   | some r' =>
     rw [hr] at h
     injection h with h; subst h
     exact .inl (renM_out hr)
   | none =>
     rw [hr] at h
     exact .inr (dropM_lk h)
 have hnew : ∀ j r b, lk L j = some r → r.blk = some b → w.heap.size ≤ b ∨ b ∈ ownL (renM M ps) := fun j r b h1 h2 => (Res.blk_lt (m'.ok j r h1) h2).2
 have hold : ∀ i r b, i ∉ ps.map (·.2) → lk M i = some r → r.blk = some b → b < w.heap.size ∧ b ∉ ownL (renM M ps) := fun i r b h1 h2 h3 => by
   refine ⟨(Res.blk_lt (m.ok i r h2) h3).1, fun hb => ?_⟩
   obtain ⟨j, s, h4, h5, h6⟩ := hbad b hb
   obtain rfl := m.sep i j r s b h2 h5 h3 h6
   exact h1 h4
 have hsame : ∀ b, b < w.heap.size → b ∉ ownL (renM M ps) → w'.heap[b]? = w.heap[b]? := fun b hb hn => m'.keep.2.2.2.2 b hb hn
 have hfree : ∀ b, b < w.heap.size → Free X M b → Free X (renM L qs ++ dropM M (ps.map (·.2))) b := fun b hb hF => by
   refine ⟨hF.1, ?_⟩
   rintro ⟨i, r, hi, hr⟩
   rcases hcase i r hi with ⟨j, _, h2⟩ | ⟨_, h2⟩
   · rcases hnew j r b h2 hr with h | h
     · omega
     obtain ⟨j', s, _, h5, h6⟩ := hbad b h
     exact hF.2 ⟨j', s, h5, h6⟩
   exact hF.2 ⟨i, r, h2, hr⟩
 have hnb : ∀ b, b < w.heap.size → Free X M b → b ∉ ownL (renM M ps) := fun b hb hF h => by
   obtain ⟨j', s, _, h5, h6⟩ := hbad b h
   exact hF.2 ⟨j', s, h5, h6⟩
 refine ⟨⟨m'.keep.1.trans m.keep.1, m'.keep.2.1.trans m.keep.2.1, m'.keep.2.2.1.trans m.keep.2.2.1, Nat.le_trans m.keep.size m'.keep.size, fun b hb hn => ?_⟩, m.fresh, fun i r hi => ?_, fun i j r s b hi hj hr hs => ?_⟩
 · rw [hsame b (Nat.lt_of_lt_of_le hb m.keep.size) (fun h => (hbadX b h).2.elim (fun h => by omega) hn)]
   exact m.keep.2.2.2.2 b hb hn
 · rcases hcase i r hi with ⟨j, h1, h2⟩ | ⟨h1, h2⟩
   · have h3 := m'.ok j r h2
     have h4 : r.ok w0.heap.size X.bad (Free (cxM X M w (renM M ps)) L) w' := Res.ok_low h3 m.keep.size (fun b _ hb => (hbadX b hb).2)
     refine Res.ok_mono h4 (Nat.le_refl _) (fun b hb hF => ⟨rfl, ?_⟩) (fun _ _ => rfl)
     by_cases hbw : b < w.heap.size
     · exact hfree b hbw (hF.1 hbw)
     refine ⟨m.fresh b (by have := m.keep.size; omega), ?_⟩
     rintro ⟨i', r', hi', hr'⟩
     rcases hcase i' r' hi' with ⟨j', _, h6⟩ | ⟨h5, h6⟩
     · exact hF.2 ⟨j', r', h6, hr'⟩
     have := (hold i' r' b h5 h6 hr').1; omega
   exact Res.ok_mono (m.ok i r h2) m'.keep.size (fun b hb hF => ⟨hsame b hb (hnb b hb hF), hfree b hb hF⟩) (fun b hb => hsame b (hold i r b h1 h2 hb).1 (hold i r b h1 h2 hb).2)
 rcases hcase i r hi with ⟨i', a1, a2⟩ | ⟨a1, a2⟩ <;> rcases hcase j s hj with ⟨j', b1, b2⟩ | ⟨b1, b2⟩
 · obtain rfl := m'.sep i' j' r s b a2 b2 hr hs
   rw [List.all_eq_true] at hq
   have h3 := hq _ a1
   rw [List.all_eq_true] at h3
   have h4 := h3 _ b1
   simpa using h4
 · exfalso
   have h1 := hold j s b b1 b2 hs
   rcases hnew i' r b a2 hr with h | h
   · omega
   exact h1.2 h
 · exfalso
   have h1 := hold i r b a1 a2 hr
   rcases hnew j' s b b2 hs with h | h
   · omega
   exact h1.2 h
 exact m.sep i j r s b a2 b2 hr hs
end
end
section
abbrev cn (w : World) : Cx := cx (fun _ => False) w
abbrev New (w : World) (b : Nat) : Prop := w.heap.size ≤ b
section
variable {w w0 : World} {X : Cx} {M : Mm}
theorem cn_new {b : Nat} (h : Free (cn w0) M b) : New w0 b := by
 by_cases hb : b < w0.heap.size
 · exact (h.1 hb).elim
 show w0.heap.size ≤ b; omega
theorem MemOk.outF (m : MemOk (cn w0) w0 M w) {i : Nat} {v : Value} {d : D} (h : lk M i = some (.dat v d)) : Rd (New w0) w v d := (m.ok i _ h : Rd _ _ _ _).cast (fun _ => cn_new)
theorem MemOk.callF (m : MemOk X w0 M w) (i : Nat) (hi : lk M i = none) {w' : World} (hb : Below w.heap.size w w') {u : Value} {d : D} (h : Rd (New w) w' u d) : MemOk X w0 ((i, .dat u d) :: M) w' :=
 (m.later hb).dat i hi (h.cast (fun b hb => m.free_out (.inr hb)))
theorem keepNow (m : MemOk X w0 M w) (hX : X.bad = []) {b : Nat} (hb : b < w0.heap.size) : w.heap[b]? = w0.heap[b]? := m.keep.2.2.2.2 b hb (by rw [hX]; exact List.not_mem_nil)
theorem Blk.now {g : Nat} {e : TypeId} {cs : List Value} (h : Blk w0 g e cs) (m : MemOk X w0 M w) (hX : X.bad = []) : Blk w g e cs := (keepNow m hX h.lt).trans h
theorem Rd.now' {S2 : Nat → Prop} {v : Value} {d : D} (h : Rd S2 w0 v d) (m : MemOk X w0 M w) (hX : X.bad = []) : Rd S2 w v d := h.now m (fun b _ => by rw [hX]; exact List.not_mem_nil)
theorem Rd.extA {S2 : Nat → Prop} {p : Option Addr} {l c mm : Nat} {rows : List (List D)} (h : Rd S2 w0 (.slice p l c) (.l mm rows)) (j : Nat) {r : List D} (hr : rows[j]? = some r) : ∃ g off vs, p = some ⟨g, off, none⟩ ∧ l = rows.length ∧ RdL S2 w0 vs r ∧ ∀ {X : Cx} {M : Mm} {w : World}, MemOk X w0 M w → X.bad = [] → w.rangeAt g (off + j * mm) vs := by
 have hj : j < rows.length := (List.getElem?_eq_some_iff.1 hr).1
 rcases Rd.l_out h with rfl | ⟨b, off, c', f, e, hS, hb, hmm, hcell, hrd⟩
 · simp at hj
 injection e with e1 e2 e3
 have hrm : r.length = mm := hmm r (List.mem_of_getElem? hr)
 refine ⟨b, off, (List.range mm).map (f j), e1, e2, RdL.of (by simp [hrm]) (fun q v d h1 h2 => ?_), fun m hX q v hv => ?_⟩
 · have h1' : q < mm := by have := (List.getElem?_eq_some_iff.1 h2).1; omega
   have : v = f j q := by simpa [h1'] using h1.symm
   subst this
   exact hrd j q r _ hr h2
 have hq' := (List.getElem?_eq_some_iff.1 hv).1
 have hq2 : q < mm := by simpa using hq'
 have : v = f j q := by simpa [hq2] using hv.symm
 subst this
 rw [World.cell?_of_block (w := w0) (keepNow m hX hb)]
 exact (hcell j q hj hq2).1
theorem Rd.extN {S2 : Nat → Prop} {p : Option Addr} {l c : Nat} {k : IntKind} {zs : List Int} (h : Rd S2 w0 (.slice p l c) (.ns k zs)) (j : Nat) (hj : j < zs.length) : ∃ g off, p = some ⟨g, off, none⟩ ∧ l = zs.length ∧ ∀ {X : Cx} {M : Mm} {w : World}, MemOk X w0 M w → X.bad = [] → w.rangeAt g (off + j * 1) [.int k (zs.getD j 0)] := by
 obtain ⟨a, c', e, hc, h0 | ⟨b, off, rfl, hS, hb, hcell⟩⟩ := h.ns_out
 · omega
 injection e with e1 e2 e3
 refine ⟨b, off, e1, e2, fun m hX q v hv => ?_⟩
 obtain rfl : q = 0 := by have := (List.getElem?_eq_some_iff.1 hv).1; simpa using this
 simp at hv; subst hv
 rw [World.cell?_of_block (w := w0) (keepNow m hX hb), Nat.add_zero, Nat.mul_one]
 exact hcell j hj
theorem Rd.takeL {S : Nat → Prop} {p : Option Addr} {l c mm : Nat} {rows : List (List D)} (h : Rd S w (.slice p l c) (.l mm rows)) (j : Nat) (hj : j ≤ rows.length) : Rd S w (.slice p j c) (.l mm (rows.take j)) := by
 by_cases h0 : j = 0
 · subst h0; rw [List.take_zero]; exact .l0 _ _ _
 rcases Rd.l_out h with rfl | ⟨b, off, c', f, e, hS, hb, hmm, hcell, hrd⟩
 · simp at hj; omega
 obtain ⟨p', c'', e', hle⟩ := h.l_shape
 injection e with e1 e2 e3
 injection e' with e4 e5 e6
 subst e1; subst e6
 have hl : (rows.take j).length = j := by rw [List.length_take]; omega
 have := Rd.l (S := S) (w := w) mm b off c (rows.take j) f hS hb (by omega) (fun r hr => hmm r (List.mem_of_mem_take hr)) (fun i q hi hq => hcell i q (by omega) hq) (fun i q r d hi hq => by
   have hlt : i < j := by have := (List.getElem?_eq_some_iff.1 hi).1; omega
   rw [List.getElem?_take_of_lt hlt] at hi
   exact hrd i q r d hi hq)
 rw [hl] at this; exact this
theorem Rd.dropL {S : Nat → Prop} {p : Option Addr} {l c mm : Nat} {rows : List (List D)} (h : Rd S w (.slice p l c) (.l mm rows)) (j : Nat) (hj : j ≤ rows.length) : Rd S w (.slice (if c = j then p else p.map (·.add (j * mm))) (l - j) (c - j)) (.l mm (rows.drop j)) := by
 obtain ⟨p', c'', e', hle⟩ := h.l_shape
 injection e' with e4 e5 e6
 subst e5
 by_cases h0 : j = rows.length
 · subst h0; rw [List.drop_length, Nat.sub_self]; exact .l0 _ _ _
 rcases Rd.l_out h with rfl | ⟨b, off, c', f, e, hS, hb, hmm, hcell, hrd⟩
 · simp only [List.length_nil] at hj h0; omega
 injection e with e1 e2 e3
 subst e1; subst e6
 rw [if_neg (by omega)]
 have hl : (rows.drop j).length = rows.length - j := List.length_drop
 have := Rd.l (S := S) (w := w) mm b (off + j * mm) (c - j) (rows.drop j) (fun i q => f (j + i) q) hS hb (by omega) (fun r hr => hmm r (List.mem_of_mem_drop hr)) (fun i q hi hq => by
   have := hcell (j + i) q (by omega) hq
   rw [show off + j * mm + i * mm + q = off + (j + i) * mm + q by rw [Nat.add_mul]; omega]
   exact this) (fun i q r d hi hq => by
   rw [List.getElem?_drop] at hi
   exact hrd (j + i) q r d hi hq)
 rw [hl] at this
 simpa [Addr.add_mid] using this
theorem MemOk.takeR (m : MemOk X w0 M w) {i : Nat} {p : Option Addr} {l c mm : Nat} {rows : List (List D)} (hm : lk M i = some (.dat (.slice p l c) (.l mm rows))) (j : Nat) (hj : j ≤ rows.length) (i2 : Nat) (hi2 : lk M i2 = none) : MemOk X w0 ((i2, .dat (.slice p j c) (.l mm (rows.take j))) :: M) w := m.dat i2 hi2 ((m.rd hm).takeL j hj)
theorem MemOk.dropR (m : MemOk X w0 M w) {i : Nat} {p : Option Addr} {l c mm : Nat} {rows : List (List D)} (hm : lk M i = some (.dat (.slice p l c) (.l mm rows))) (j : Nat) (hj : j ≤ rows.length) (i2 : Nat) (hi2 : lk M i2 = none) : MemOk X w0 ((i2, .dat (.slice (if c = j then p else p.map (·.add (j * mm))) (l - j) (c - j)) (.l mm (rows.drop j))) :: M) w := m.dat i2 hi2 ((m.rd hm).dropL j hj)
end
section
variable {P : Program} {n : Nat} {T : List (Nat × Value)} {a : Act} {w w0 : World} {X : Cx} {M : Mm} {tt : TypeId} {pos : String} {af : Array Edge} {gd : Option (Nat × Bool)} {Q : Exit → Act → World → Prop} {K : Act → World → Prop} {d : Option Tmp}
theorem Blk.sub {g : Nat} {e : TypeId} {cs : List Value} (h : Blk w g e cs) (o k : Nat) : w.rangeAt g o ((cs.drop o).take k) := fun j v hj => by
 have hj' : j < k := by have := (List.getElem?_eq_some_iff.1 hj).1; rw [List.length_take] at this; omega
 rw [List.getElem?_take_of_lt hj', List.getElem?_drop] at hj
 rw [h.cell]; exact hj
theorem y_loadAt1 (ha : Has n T a) {t : TypeId} {td : TypeDesc} {x : Operand} {b o q q' : Nat} {vs : List Value} {v : Value} (hr : w.rangeAt b o vs) (hx : evT T x = some (.pointer (some ⟨b, q', none⟩))) (hq : q' = o + q) (hv : nthL vs q = some v) (hu : P.underlying t = some td) (hd : td.isRow = false) : Yl P a w ⟨d, .load t x, tt, pos, af, gd⟩ v := by
 show (execOp _ _).run P w = _
 subst hq
 have hc' : w.cell? ⟨b, o + q, none⟩ = some v := hr q v (by rw [nthL_eq]; exact hv)
 simp [execOp, ha.ev hx, Instr.loadAt, Instr.sureAddr, run_load1 hu hd hc']
theorem y_min (ha : Has n T a) {t t2 : TypeId} {x y : Operand} {k k2 : IntKind} {p q r : Int} (hx : evT T x = some (.int k p)) (hy : evT T y = some (.int k2 q)) (hr : min p q = r) : Yl P a w ⟨d, .call { callee := .builtin .min, args := #[x, y], argTypes := #[t, t2] }, tt, pos, af, gd⟩ (.int k r) := by
 show (execOp _ _).run P w = _
 have e : (if q < p then q else p) = r := by rw [← hr]; split <;> omega
 simp [execOp, resolve, invoke, builtin, ha.ev hx, ha.ev hy, Builtin.min_, Builtin.min2, e]
theorem y_max (ha : Has n T a) {t t2 : TypeId} {x y : Operand} {k k2 : IntKind} {p q r : Int} (hx : evT T x = some (.int k p)) (hy : evT T y = some (.int k2 q)) (hr : max p q = r) : Yl P a w ⟨d, .call { callee := .builtin .max, args := #[x, y], argTypes := #[t, t2] }, tt, pos, af, gd⟩ (.int k r) := by
 show (execOp _ _).run P w = _
 have e : (if p < q then q else p) = r := by rw [← hr]; split <;> omega
 simp [execOp, resolve, invoke, builtin, ha.ev hx, ha.ev hy, Builtin.max_, Builtin.max2, e]
theorem y_cap (h : Has n T a) {t e : TypeId} {x : Operand} {p : Option Addr} {l c : Nat} (hx : evT T x = some (.slice p l c)) (hu : P.underlying t = some (.slice e)) : Yl P a w ⟨d, .call { callee := .builtin .cap, args := #[x], argTypes := #[t] }, tt, pos, af, gd⟩ (.int .i64 c) := by
 show (execOp _ _).run P w = _; simp [execOp, resolve, invoke, builtin, h.ev hx, Builtin.cap_, run_underlying hu, goInt]
theorem e_callV (ha : Has n T a) {d : Tmp} {f : FuncId} {x : Operand} {args : Array Operand} {ats : Array TypeId} {fn : Func} {vs : List Value} (hxf : evT T x = some (.func (.func f) #[] #[])) (hf : P.funcs[f]? = some fn) (hn : (fn.name == "runtime.NumGoroutine") = false) (hb : fn.body.isNone = false) (hargs : evA T args.toList = some vs) (ht : Nat.blt d n = true) {R : Ending → World → Prop} (hc : Calls P f vs.toArray w R) (h : ∀ e w', R e w' → ∃ v, e = .returned v ∧ ∀ a', Has n ((d, v) :: T) a' → K a' w') : Oper.wp P ⟨some d, .call { callee := .value x, args := args, argTypes := ats }, tt, pos, af, gd⟩ a w K Q := by
 have hv : args.map a.eval = vs.toArray := by
   apply Array.ext'; rw [Array.toList_map, ha.evA hargs]
 have hr : (execOp a.eval ⟨some d, .call { callee := .value x, args := args, argTypes := ats }, tt, pos, af, gd⟩).run P w = .ok (.enter f vs.toArray) w := by
   have hn' : ¬ fn.name = "runtime.NumGoroutine" := by simpa using hn
   have hb' : ¬ fn.body = none := by cases h9 : fn.body with | none => rw [h9] at hb; cases hb | some c => simp
   simp [execOp, resolve, ha.ev hxf, Deferred.ofValue, invoke, callFunc, hf, hn', hb', hv]
 show Oper.upon P _ a K Q _
 rw [hr]
 show Calls P f vs.toArray w _
 refine hc.mono (fun e w' hR => ?_)
 obtain ⟨v, rfl, hh⟩ := h e w' hR
 exact hh _ (ha.put ht v)
end
end
section
def putL : List Value → List (Nat × Nat) → List (Nat × Value) → Option (List Value)
 | z, _, [] => some z
 | z, ps, (i, v) :: r => match nthL ps i with
   | some (off, sz) => bif Nat.beq v.cells.toList.length sz && Nat.ble (off + sz) z.length then putL (z.take off ++ v.cells.toList ++ z.drop (off + sz)) ps r else none
   | none => none
def placesS (P : Program) (t : TypeId) : Option (List (Nat × Nat)) :=
 match P.underlying t with
 | some (.struct fs) => fs.toList.mapM (fun f => (P.info? f.type).map fun i => (f.offset, i.size))
 | _ => none
section
variable {P : Program} {n : Nat} {T : List (Nat × Value)} {a : Act} {w w0 : World} {X : Cx} {M : Mm} {tt : TypeId} {pos : String} {af : Array Edge} {gd : Option (Nat × Bool)} {Q : Exit → Act → World → Prop} {d : Option Tmp}
end
section
variable {P : Program} {n : Nat} {T : List (Nat × Value)} {a : Act} {w : World} {tt : TypeId} {pos : String} {af : Array Edge} {ops : Array Oper} {rest : List Oper} {Q : Exit → Act → World → Prop}
theorem Has.unyielded (ha : Has n T a) {j t : Nat} (hj : (ops[j]?).bind (·.dst) = some t) (hb : lk T t = some undef) (ht : Nat.blt t n = true) : Go.yielded ops a.tmps j = none := by
 have hlt : t < a.tmps.size := by rw [ha.sz]; simpa [Nat.blt_eq] using ht
 have := ha.h t _ hb
 unfold Go.yielded
 rw [hj]
 show (match a.tmps[t]? with | some (.bool b) => some b | _ => none) = none
 rw [Array.getElem?_eq_getElem hlt]
 have e : a.tmps[t] = undef := by simpa [Array.getD, hlt] using this
 rw [e]; rfl
theorem st_skipU {d : Tmp} {op : Op} {j t : Nat} {b : Bool} (ha : Has n T a) (hj : (ops[j]?).bind (·.dst) = some t) (hb : lk T t = some undef) (ht2 : Nat.blt t n = true) (ht : Nat.blt d n = true) (h : ∀ a', Has n ((d, undef) :: T) a' → wpList P ops Q rest a' w) : wpList P ops Q (⟨some d, op, tt, pos, af, some (j, b)⟩ :: rest) a w := by
 refine wpList_step fun K hK => ?_
 rw [if_neg (by simp [Region.wanted, ha.unyielded hj hb ht2])]
 exact hK _ _ (h _ (ha.put ht _))
variable {md : Region.Mode} {S : World → Prop} {e : Nat} {listed : Array Bool} {fuel : Nat}
end
section
variable {P : Program} {n : Nat} {T : List (Nat × Value)} {a : Act} {w w0 : World} {X : Cx} {M : Mm} {tt : TypeId} {pos : String} {af : Array Edge} {gd : Option (Nat × Bool)} {d : Option Tmp}
theorem y_loadSV (ha : Has n T a) (m : MemOk X w0 M w) {t : TypeId} {td : TypeDesc} {x : Operand} {i g o l c mm : Nat} {e : TypeId} {rows : List (List D)} (hm : lk M i = some (.seg (.slice (some ⟨g, o, none⟩) l c) e mm rows)) (J : Nat) {r : List D} (hr : rows[J]? = some r) {q q' : Nat} {v : Value} (hq : nthL r q = some (.v v)) (hx : evT T x = some (.pointer (some ⟨g, q', none⟩))) (hq' : q' = o + J * mm + q) (hu : P.underlying t = some td) (hd : td.isRow = false) : Yl P a w ⟨d, .load t x, tt, pos, af, gd⟩ v := by
 obtain ⟨⟨cs, h1, h2, h3, h4, h5⟩, -⟩ := m.ok i _ hm
 subst hq'
 have hJ : J < rows.length := (List.getElem?_eq_some_iff.1 hr).1
 have hJc : cs[J]? = some cs[J] := List.getElem?_eq_getElem (by omega)
 have hc := (h3 cs[J] (List.getElem_mem (by omega))).1
 rw [← nthL_eq] at hq
 have hqr := (List.getElem?_eq_some_iff.1 hq).1
 have hrm := h4 r (List.mem_of_getElem? hr)
 have hxq : cs[J][q]? = some (cs[J][q]'(by omega)) := List.getElem?_eq_getElem (by omega)
 have hv := (h5 J q cs[J] r _ _ hJc hr hxq hq).v_out
 have hl : l = rows.length := by
   rcases h1.2 with ⟨e1, _⟩ | ⟨_, _, _, _, e1, _⟩
   · cases e1
   injection e1
 subst hl
 have hf := flatten_at cs J q cs[J] (fun c hc => (h3 c hc).1) hJc (by omega)
 have hcell := h1.cellAt rfl (J * mm + q) (by calc J * mm + q < J * mm + mm := by omega
     _ = (J + 1) * mm := by rw [Nat.add_mul]; omega
     _ ≤ rows.length * mm := Nat.mul_le_mul_right _ (by omega))
 have hc' : w.cell? ⟨g, o + J * mm + q, none⟩ = some v := by rw [Nat.add_assoc, hcell, hf, hxq, hv]
 show (execOp _ _).run P w = _
 simp [execOp, ha.ev hx, Instr.loadAt, Instr.sureAddr, run_load1 hu hd hc']
end
section
variable {P : Program} {n : Nat} {T : List (Nat × Value)} {a : Act} {w : World} {tt : TypeId} {pos : String} {af : Array Edge} {gd : Option (Nat × Bool)} {Q : Exit → Act → World → Prop} {K : Act → World → Prop}
theorem e_y {d : Tmp} {op : Op} {v : Value} (ha : Has n T a) (ht : Nat.blt d n = true) (hy : Yl P a w ⟨some d, op, tt, pos, af, gd⟩ v) (h : ∀ a', Has n ((d, v) :: T) a' → K a' w) : Oper.wp P ⟨some d, op, tt, pos, af, gd⟩ a w K Q := by
 show Oper.upon P _ a K Q _
 rw [hy]
 exact h _ (ha.put ht v)
end
end
section
theorem RowOk.cast {N : Nat} {S S' : Nat → Prop} {w : World} {v : Value} {e : TypeId} {m : Nat} {rows : List (List D)} (h : RowOk N S w v e m rows) (hs : ∀ b, S b → S' b) : RowOk N S' w v e m rows := by
 obtain ⟨cs, h1, h2, h3, h4, h5⟩ := h
 exact ⟨cs, h1, h2, h3, h4, fun j q c r x d a1 a2 a3 a4 => (h5 j q c r x d a1 a2 a3 a4).cast hs⟩
section
variable {P : Program} {n : Nat} {T : List (Nat × Value)} {a : Act} {w w0 : World} {X : Cx} {M : Mm} {tt : TypeId} {pos : String} {af : Array Edge} {gd : Option (Nat × Bool)} {Q : Exit → Act → World → Prop} {K : Act → World → Prop}
end
end
section
theorem Q1x {p : Prop} [Decidable p] : (decide p = true) = p := decide_eq_true_eq
theorem Q2x {p : Prop} [Decidable p] : decide p = false ↔ ¬ p := decide_eq_false_iff_not
theorem Q3x (b : Bool) : (¬ (b = true)) = (b = false) := Bool.not_eq_true b
theorem Q4x (b : Bool) : (¬ (b = false)) = (b = true) := Bool.not_eq_false b
theorem Q5x {a b : Bool} : (!a) = b ↔ a = !b := Bool.not_eq_eq_eq_not
theorem Q6x : (!true) = false := rfl
theorem Q7x : (!false) = true := rfl
theorem Q8x (b : Bool) : (!!b) = b := Bool.not_not b
theorem Q9x {a b : Int} : ¬ a < b ↔ b ≤ a := Int.not_lt
theorem Q0x {a b : Int} : ¬ a ≤ b ↔ b < a := Int.not_le
theorem Qax {α : Sort _} (a b : α) : (a ≠ b) = ¬ (a = b) := ne_eq a b
theorem Qbx {p : Prop} [Decidable p] : ¬ ¬ p ↔ p := Decidable.not_not
theorem QQ : (∀ (p : Prop) [Decidable p], (decide p = true) = p) ∧ (∀ (p : Prop) [Decidable p], decide p = false ↔ ¬ p) ∧ (∀ (b : Bool), (¬ (b = true)) = (b = false)) ∧ (∀ (b : Bool), (¬ (b = false)) = (b = true)) ∧ (∀ (a b : Bool), (!a) = b ↔ a = !b) ∧ ((!true) = false) ∧ ((!false) = true) ∧ (∀ (b : Bool), (!!b) = b) ∧ (∀ (a b : Int), ¬ a < b ↔ b ≤ a) ∧ (∀ (a b : Int), ¬ a ≤ b ↔ b < a) ∧ (∀ (p : Prop) [Decidable p], ¬ ¬ p ↔ p) := ⟨fun _ _ => Q1x, fun _ _ => Q2x, Q3x, Q4x, fun _ _ => Q5x, Q6x, Q7x, Q8x, fun _ _ => Q9x, fun _ _ => Q0x, fun _ _ => Qbx⟩
theorem il {α : Type} {a : α} {p : Prop} : a = a ∨ p := .inl rfl
variable {P : Program} {n : Nat} {T : List (Nat × Value)} {a : Act} {w w0 : World} {X : Cx} {M : Mm} {tt : TypeId} {pos : String} {af : Array Edge} {ops : Array Oper} {Q : Exit → Act → World → Prop} {md : Region.Mode} {e fuel : Nat} {S : World → Prop} {listed : Array Bool}
end
section
section
variable {P : Program} {n : Nat} {T : List (Nat × Value)} {a : Act} {w : World} {d : Option Tmp} {tt : TypeId} {pos : String} {af : Array Edge} {gd : Option (Nat × Bool)}
theorem y_makeFunc (h : Has n T a) {f : FuncId} {caps : Array Operand} {vs : List Value} (hargs : evA T caps.toList = some vs) : Yl P a w ⟨d, .makeFunc (.func f) #[] caps, tt, pos, af, gd⟩ (.func (.func f) #[] vs.toArray) := by
 have hv : caps.map a.eval = vs.toArray := by
   apply Array.ext'; rw [Array.toList_map, h.evA hargs]
 show (execOp _ _).run P w = _
 simp [execOp, Instr.makeFunc, hv]
end
section
variable {P : Program} {n : Nat} {T : List (Nat × Value)} {a : Act} {w : World} {Q : Exit → Act → World → Prop} {K : Act → World → Prop} {tt : TypeId} {pos : String} {af : Array Edge} {gd : Option (Nat × Bool)}
theorem e_callC (ha : Has n T a) {d : Tmp} {f : FuncId} {x : Operand} {args : Array Operand} {ats : Array TypeId} {fn : Func} {vs cs : List Value} (hxf : evT T x = some (.func (.func f) #[] cs.toArray)) (hf : P.funcs[f]? = some fn) (hn : (fn.name == "runtime.NumGoroutine") = false) (hb : fn.body.isNone = false) (hargs : evA T args.toList = some vs) (ht : Nat.blt d n = true) {R : Ending → World → Prop} (hc : Calls P f (vs ++ cs).toArray w R) (h : ∀ e w', R e w' → ∃ v, e = .returned v ∧ ∀ a', Has n ((d, v) :: T) a' → K a' w') : Oper.wp P ⟨some d, .call { callee := .value x, args := args, argTypes := ats }, tt, pos, af, gd⟩ a w K Q := by
 have hv : args.map a.eval = vs.toArray := by
   apply Array.ext'; rw [Array.toList_map, ha.evA hargs]
 have hr : (execOp a.eval ⟨some d, .call { callee := .value x, args := args, argTypes := ats }, tt, pos, af, gd⟩).run P w = .ok (.enter f (vs ++ cs).toArray) w := by
   have hn' : ¬ fn.name = "runtime.NumGoroutine" := by simpa using hn
   have hb' : ¬ fn.body = none := by cases h9 : fn.body with | none => rw [h9] at hb; cases hb | some c => simp
   simp [execOp, resolve, ha.ev hxf, Deferred.ofValue, invoke, callFunc, hf, hn', hb', hv]
 show Oper.upon P _ a K Q _
 rw [hr]
 show Calls P f (vs ++ cs).toArray w _
 refine hc.mono (fun e w' hR => ?_)
 obtain ⟨v, rfl, hh⟩ := h e w' hR
 exact hh _ (ha.put ht v)
end
section
variable {P : Program} {n : Nat} {T : List (Nat × Value)} {a : Act} {w w0 : World} {X : Cx} {M : Mm}
theorem retCC (ha : Has n T a) (m : MemOk X w0 M w) {fn : Func} {t s : Tmp} {ty ty2 : TypeId} {td td2 : TypeDesc} {i g i2 g2 : Nat} {e e2 : TypeId} {cs cs2 : List Value} {R : Ending → World → Prop} (hr : fn.results = #[.cell t ty, .cell s ty2]) (hv : lk T t = some (.pointer (some ⟨g, 0, none⟩))) (hv2 : lk T s = some (.pointer (some ⟨g2, 0, none⟩))) (hm : lk M i = some (.box g e cs)) (hm2 : lk M i2 = some (.box g2 e2 cs2)) (hu : P.underlying ty = some td) (hd : td.isRow = true) (hs : (P.info? ty).map (·.size) = some cs.length) (hu2 : P.underlying ty2 = some td2) (hd2 : td2.isRow = true) (hs2 : (P.info? ty2).map (·.size) = some cs2.length) (h : R (.returned (.tuple #[.agg cs.toArray, .agg cs2.toArray])) w) : bodyPost P fn R .ret a w :=
 ⟨ha.d, _, by
   have h1 := ha.h t _ hv
   have h2 := ha.h s _ hv2
   rw [Array.getD_eq_getD_getElem?] at h1 h2
   simp [results, hr, h1, h2, asAddr, run_loadBox m hm hu hd hs, run_loadBox m hm2 hu2 hd2 hs2], h⟩
end
end
section
section
variable {P : Program} {n : Nat} {T : List (Nat × Value)} {a : Act} {w w0 : World} {X : Cx} {M : Mm} {tt : TypeId} {pos : String} {af : Array Edge} {gd : Option (Nat × Bool)} {Q : Exit → Act → World → Prop} {K : Act → World → Prop}
theorem madeZ (k : IntKind) (n : Nat) : (madeCells (Value.int k 0).cells n).toList = (List.replicate n 0).map (Value.int k) := by
 unfold madeCells
 apply List.ext_getElem
 · simp
 intro i h1 h2
 simp [Value.cells, Nat.mod_one]
theorem e_makeN (ha : Has n T a) (m : MemOk X w0 M w) (i : Nat) {d : Tmp} {t e : TypeId} {x y : Operand} {k kx ky : IntKind} {q q2 : Int} {bytes : Nat} (N : Nat) (hx : evT T x = some (.int kx q)) (hy : evT T y = some (.int ky q2)) (hq : q = N) (hq2 : q2 = N) (ht : P.underlying t = some (.slice e)) (hinf : (P.info? e).map (fun i => (i.zero, i.size, i.bytes)) = some (some (.int k 0), 1, bytes)) (hb8 : bytes ≤ 1000) (hN : N ≤ 100000000) (hd : Nat.blt d n = true)
   (h : ∀ p c a' w', Has n ((d, .slice p N c) :: T) a' → MemOk X w0 ((i, .num (.slice p N c) e k (List.replicate N 0)) :: M) w' → K a' w') : Oper.wp P ⟨some d, .makeSlice t x y, tt, pos, af, gd⟩ a w K Q := by
 obtain ⟨i0, hi, hz0, hz1, hz2⟩ := info_parts hinf
 subst hq; subst hq2
 have hby : N * bytes ≤ 100000000000 := Nat.mul_le_mul hN hb8
 have hby2 : (bytes : Int) * (N : Int) ≤ 281474976710656 := by
   rw [← Int.natCast_mul, Nat.mul_comm]; omega
 have hr := run_make (P := P) w t e i0 _ ht hi hz0 kx ky (N : Int) (N : Int) (by omega) (by omega) (by rw [hz2]; exact hby2) (by omega)
 rw [hz1, Nat.mul_one, Int.toNat_natCast] at hr
 have hrun : (execOp a.eval ⟨some d, .makeSlice t x y, tt, pos, af, gd⟩).run P w = .ok (.value (.slice (some ⟨w.heap.size, 0, none⟩) N N)) (w.alloc (.cells (madeCells (Value.int k 0).cells N) e)) := by
   simp [execOp, ha.ev hx, ha.ev hy, hr]
 show Oper.upon P _ a K Q _
 rw [hrun]
 refine h _ _ _ _ (ha.put hd _) (m.newN i ((Below.refl _ w).alloc (Nat.le_refl _) _) ?_)
 rw [List.length_replicate]
 refine ⟨by simp, .inr ⟨w.heap.size, N, madeCells (Value.int k 0).cells N, rfl, Nat.le_refl _, heap_alloc_new w _, Nat.le_refl _, by unfold maxLen; omega, by rw [size_madeCells, Nat.mul_one], ?_⟩⟩
 rw [madeZ, Nat.mul_one, List.take_of_length_le (by simp)]
end
end
section
variable {P : Program} {n : Nat} {T : List (Nat × Value)} {a : Act} {w : World} {d : Option Tmp} {tt : TypeId} {pos : String} {af : Array Edge} {gd : Option (Nat × Bool)}
theorem run_idxA {t e : TypeId} {b o L s : Nat} {k : IntKind} {q : Int} (hu : P.underlying t = some (.array L e)) (hs : (P.info? e).map (·.size) = some s) (j : Nat) (hq : q = j) (hj : j < L) : (Instr.indexAt t (.pointer (some ⟨b, o, none⟩)) (.int k q)).run P w = .ok (.pointer (some ⟨b, o + j * s, none⟩)) w := by
 subst hq
 cases hi : P.info? e with
 | none => simp [hi] at hs
 | some i =>
   have hj' : i.size = s := by simpa [hi] using hs
   have h2 : ((j : Int) < (L : Int)) := by omega
   have h3 : ¬ L ≤ j := by omega
   simp [Instr.indexAt, asIntOf, run_underlying hu, h2, h3, sizeOf, typeInfo, hi, hj', Instr.sureAddr, Addr.add_mid]
theorem y_idxA (ha : Has n T a) {t e : TypeId} {x y : Operand} {b o L s : Nat} {k : IntKind} {q : Int} (hx : evT T x = some (.pointer (some ⟨b, o, none⟩))) (hy : evT T y = some (.int k q)) (hu : P.underlying t = some (.array L e)) (hs : (P.info? e).map (·.size) = some s) (j : Nat) (hq : q = j) (hj : j < L) {off : Nat} (hoff : o + j * s = off) : Yl P a w ⟨d, .indexAddr t x y, tt, pos, af, gd⟩ (.pointer (some ⟨b, off, none⟩)) := by
 subst hoff
 show (execOp _ _).run P w = _
 simp [execOp, ha.ev hx, ha.ev hy, run_idxA hu hs j hq hj]
end
section
inductive Ch (P : Program) (n : Nat) (ops : Array Oper) (w : World) : List Oper → List (Nat × Value) → List Oper → List (Nat × Value) → Prop
 | nil {L : List Oper} {T : List (Nat × Value)} : Ch P n ops w L T L T
 | c {d : Tmp} {op : Op} {v : Value} {L L' : List Oper} {T T' : List (Nat × Value)} {tt : TypeId} {pos : String} {af : Array Edge} (ht : Nat.blt d n = true) (hy : ∀ a, Has n T a → Yl P a w ⟨some d, op, tt, pos, af, none⟩ v) (t : Ch P n ops w L ((d, v) :: T) L' T') : Ch P n ops w (⟨some d, op, tt, pos, af, none⟩ :: L) T L' T'
 | g {d : Tmp} {op : Op} {v : Value} {L L' : List Oper} {T T' : List (Nat × Value)} {tt : TypeId} {pos : String} {af : Array Edge} {j t : Nat} {b : Bool} (hj : (ops[j]?).bind (·.dst) = some t) (hb : lk T t = some (.bool b)) (ht2 : Nat.blt t n = true) (ht : Nat.blt d n = true) (hy : ∀ a, Has n T a → Yl P a w ⟨some d, op, tt, pos, af, some (j, b)⟩ v) (tl : Ch P n ops w L ((d, v) :: T) L' T') : Ch P n ops w (⟨some d, op, tt, pos, af, some (j, b)⟩ :: L) T L' T'
 | s {d : Tmp} {op : Op} {L L' : List Oper} {T T' : List (Nat × Value)} {tt : TypeId} {pos : String} {af : Array Edge} {j t : Nat} {b : Bool} (hj : (ops[j]?).bind (·.dst) = some t) (hb : lk T t = some (.bool !b)) (ht2 : Nat.blt t n = true) (ht : Nat.blt d n = true) (tl : Ch P n ops w L ((d, undef) :: T) L' T') : Ch P n ops w (⟨some d, op, tt, pos, af, some (j, b)⟩ :: L) T L' T'
theorem goCh {P : Program} {n : Nat} {ops : Array Oper} {w : World} {Q : Exit → Act → World → Prop} {L L' : List Oper} {T T' : List (Nat × Value)} {a : Act} (ha : Has n T a) (hc : Ch P n ops w L T L' T') (h : ∀ a', Has n T' a' → wpList P ops Q L' a' w) : wpList P ops Q L a w := by
 induction hc generalizing a with
 | nil => exact h a ha
 | c ht hy t ih => exact st_y ha ht (hy a ha) (fun a' ha' => ih ha' h)
 | g hj hb ht2 ht hy t ih => exact st_g ha hj hb ht2 ht (hy a ha) (fun a' ha' => ih ha' h)
 | s hj hb ht2 ht t ih => exact st_skip ha hj hb ht2 ht (fun a' ha' => ih ha' h)
theorem regS {P : Program} {n id : Nat} {l : List Oper} {y : Code} {w : World} {Q : Exit → Act → World → Prop} {T T' : List (Nat × Value)} {a : Act} (ha : Has n T a) (hc : Ch P n l.toArray w l T [] T') (h : ∀ a', Has n T' a' → y.wp P Q a' w) : ((Code.region id l.toArray false).seq y).wp P Q a w :=
 wp_seq_k (fun K hK => wp_region_lit (goCh ha hc (fun a' ha' => wpList_nil (hK _ _ (h a' ha')))))
/-! short -/
section
variable {P : Program} {n : Nat} {ops : Array Oper} {L L' : List Oper} {T T' : List (Nat × Value)} {w w0 : World} {X : Cx} {M : Mm} {dd : Tmp} {tt : TypeId} {pos : String} {af : Array Edge} {x y z : Operand} {k : IntKind} {p q r : Int} {t t2 : TypeId}
theorem Ch.move {x : Operand} {v : Value} (hx : evT T x = some v) (tl : Ch P n ops w L ((dd, v) :: T) L' T') (ht : Nat.blt dd n = true := by rfl) : Ch P n ops w (⟨some dd, .move x, tt, pos, af, none⟩ :: L) T L' T' := .c ht (fun _ h => y_move h hx) tl
theorem Ch.moveZ {x : Operand} {v : Value} (hx : evT T x = some v) {j tg : Nat} {bb : Bool} (tl : Ch P n ops w L ((dd, v) :: T) L' T') (hj : (ops[j]?).bind (·.dst) = some tg := by rfl) (hb : lk T tg = some (.bool bb) := by rfl) (ht2 : Nat.blt tg n = true := by rfl) (ht : Nat.blt dd n = true := by rfl) : Ch P n ops w (⟨some dd, .move x, tt, pos, af, some (j, bb)⟩ :: L) T L' T' := .g hj hb ht2 ht (fun _ h => y_move h hx) tl
theorem Ch.assign {x : Operand} {v : Value} (hx : evT T x = some v) (tl : Ch P n ops w L ((dd, v) :: T) L' T') (ht : Nat.blt dd n = true := by rfl) : Ch P n ops w (⟨some dd, .assign x, tt, pos, af, none⟩ :: L) T L' T' := .c ht (fun _ h => y_assign h hx) tl
theorem Ch.pickT {c x y : Operand} {v : Value} (hc : evT T c = some (.bool true)) (hx : evT T x = some v) (tl : Ch P n ops w L ((dd, v) :: T) L' T') (ht : Nat.blt dd n = true := by rfl) : Ch P n ops w (⟨some dd, .pick c x y, tt, pos, af, none⟩ :: L) T L' T' := .c ht (fun _ h => y_pickT h hc hx) tl
theorem Ch.pickTZ {c x y : Operand} {v : Value} (hc : evT T c = some (.bool true)) (hx : evT T x = some v) {j tg : Nat} {bb : Bool} (tl : Ch P n ops w L ((dd, v) :: T) L' T') (hj : (ops[j]?).bind (·.dst) = some tg := by rfl) (hb : lk T tg = some (.bool bb) := by rfl) (ht2 : Nat.blt tg n = true := by rfl) (ht : Nat.blt dd n = true := by rfl) : Ch P n ops w (⟨some dd, .pick c x y, tt, pos, af, some (j, bb)⟩ :: L) T L' T' := .g hj hb ht2 ht (fun _ h => y_pickT h hc hx) tl
theorem Ch.pickF {c x y : Operand} {v : Value} (hc : evT T c = some (.bool false)) (hx : evT T y = some v) (tl : Ch P n ops w L ((dd, v) :: T) L' T') (ht : Nat.blt dd n = true := by rfl) : Ch P n ops w (⟨some dd, .pick c x y, tt, pos, af, none⟩ :: L) T L' T' := .c ht (fun _ h => y_pickF h hc hx) tl
theorem Ch.pickFZ {c x y : Operand} {v : Value} (hc : evT T c = some (.bool false)) (hx : evT T y = some v) {j tg : Nat} {bb : Bool} (tl : Ch P n ops w L ((dd, v) :: T) L' T') (hj : (ops[j]?).bind (·.dst) = some tg := by rfl) (hb : lk T tg = some (.bool bb) := by rfl) (ht2 : Nat.blt tg n = true := by rfl) (ht : Nat.blt dd n = true := by rfl) : Ch P n ops w (⟨some dd, .pick c x y, tt, pos, af, some (j, bb)⟩ :: L) T L' T' := .g hj hb ht2 ht (fun _ h => y_pickF h hc hx) tl
theorem Ch.not {t : TypeId} {x : Operand} {b : Bool} (hx : evT T x = some (.bool b)) (tl : Ch P n ops w L ((dd, (.bool !b)) :: T) L' T') (ht : Nat.blt dd n = true := by rfl) : Ch P n ops w (⟨some dd, .unOp .not t x, tt, pos, af, none⟩ :: L) T L' T' := .c ht (fun _ h => y_not h hx) tl
theorem Ch.notZ {t : TypeId} {x : Operand} {b : Bool} (hx : evT T x = some (.bool b)) {j tg : Nat} {bb : Bool} (tl : Ch P n ops w L ((dd, (.bool !b)) :: T) L' T') (hj : (ops[j]?).bind (·.dst) = some tg := by rfl) (hb : lk T tg = some (.bool bb) := by rfl) (ht2 : Nat.blt tg n = true := by rfl) (ht : Nat.blt dd n = true := by rfl) : Ch P n ops w (⟨some dd, .unOp .not t x, tt, pos, af, some (j, bb)⟩ :: L) T L' T' := .g hj hb ht2 ht (fun _ h => y_not h hx) tl
theorem Ch.len {t e : TypeId} {x : Operand} {p : Option Addr} {l c : Nat} (hx : evT T x = some (.slice p l c)) (hu : P.underlying t = some (.slice e)) (tl : Ch P n ops w L ((dd, (.int .i64 l)) :: T) L' T') (ht : Nat.blt dd n = true := by rfl) : Ch P n ops w (⟨some dd, .call { callee := .builtin .len, args := #[x], argTypes := #[t] }, tt, pos, af, none⟩ :: L) T L' T' := .c ht (fun _ h => y_len h hx hu) tl
theorem Ch.lenZ {t e : TypeId} {x : Operand} {p : Option Addr} {l c : Nat} (hx : evT T x = some (.slice p l c)) (hu : P.underlying t = some (.slice e)) {j tg : Nat} {bb : Bool} (tl : Ch P n ops w L ((dd, (.int .i64 l)) :: T) L' T') (hj : (ops[j]?).bind (·.dst) = some tg := by rfl) (hb : lk T tg = some (.bool bb) := by rfl) (ht2 : Nat.blt tg n = true := by rfl) (ht : Nat.blt dd n = true := by rfl) : Ch P n ops w (⟨some dd, .call { callee := .builtin .len, args := #[x], argTypes := #[t] }, tt, pos, af, some (j, bb)⟩ :: L) T L' T' := .g hj hb ht2 ht (fun _ h => y_len h hx hu) tl
theorem Ch.add (hx : evT T x = some (.int k p)) (hy : evT T y = some (.int k q)) (hr : k.wrap (p + q) = r) (tl : Ch P n ops w L ((dd, (.int k r)) :: T) L' T') (ht : Nat.blt dd n = true := by rfl) : Ch P n ops w (⟨some dd, .binOp .add t x y t2, tt, pos, af, none⟩ :: L) T L' T' := .c ht (fun _ h => y_add h hx hy hr) tl
theorem Ch.addZ (hx : evT T x = some (.int k p)) (hy : evT T y = some (.int k q)) (hr : k.wrap (p + q) = r) {j tg : Nat} {bb : Bool} (tl : Ch P n ops w L ((dd, (.int k r)) :: T) L' T') (hj : (ops[j]?).bind (·.dst) = some tg := by rfl) (hb : lk T tg = some (.bool bb) := by rfl) (ht2 : Nat.blt tg n = true := by rfl) (ht : Nat.blt dd n = true := by rfl) : Ch P n ops w (⟨some dd, .binOp .add t x y t2, tt, pos, af, some (j, bb)⟩ :: L) T L' T' := .g hj hb ht2 ht (fun _ h => y_add h hx hy hr) tl
theorem Ch.sub (hx : evT T x = some (.int k p)) (hy : evT T y = some (.int k q)) (hr : k.wrap (p - q) = r) (tl : Ch P n ops w L ((dd, (.int k r)) :: T) L' T') (ht : Nat.blt dd n = true := by rfl) : Ch P n ops w (⟨some dd, .binOp .sub t x y t2, tt, pos, af, none⟩ :: L) T L' T' := .c ht (fun _ h => y_sub h hx hy hr) tl
theorem Ch.subZ (hx : evT T x = some (.int k p)) (hy : evT T y = some (.int k q)) (hr : k.wrap (p - q) = r) {j tg : Nat} {bb : Bool} (tl : Ch P n ops w L ((dd, (.int k r)) :: T) L' T') (hj : (ops[j]?).bind (·.dst) = some tg := by rfl) (hb : lk T tg = some (.bool bb) := by rfl) (ht2 : Nat.blt tg n = true := by rfl) (ht : Nat.blt dd n = true := by rfl) : Ch P n ops w (⟨some dd, .binOp .sub t x y t2, tt, pos, af, some (j, bb)⟩ :: L) T L' T' := .g hj hb ht2 ht (fun _ h => y_sub h hx hy hr) tl
theorem Ch.mul (hx : evT T x = some (.int k p)) (hy : evT T y = some (.int k q)) (hr : k.wrap (p * q) = r) (tl : Ch P n ops w L ((dd, (.int k r)) :: T) L' T') (ht : Nat.blt dd n = true := by rfl) : Ch P n ops w (⟨some dd, .binOp .mul t x y t2, tt, pos, af, none⟩ :: L) T L' T' := .c ht (fun _ h => y_mul h hx hy hr) tl
theorem Ch.quo (hx : evT T x = some (.int k p)) (hy : evT T y = some (.int k q)) (h0 : q ≠ 0) (hr : k.wrap (p.tdiv q) = r) (tl : Ch P n ops w L ((dd, (.int k r)) :: T) L' T') (ht : Nat.blt dd n = true := by rfl) : Ch P n ops w (⟨some dd, .binOp .quo t x y t2, tt, pos, af, none⟩ :: L) T L' T' := .c ht (fun _ h => y_quo h hx hy h0 hr) tl
theorem Ch.rem (hx : evT T x = some (.int k p)) (hy : evT T y = some (.int k q)) (h0 : q ≠ 0) (hr : p.tmod q = r) (tl : Ch P n ops w L ((dd, (.int k r)) :: T) L' T') (ht : Nat.blt dd n = true := by rfl) : Ch P n ops w (⟨some dd, .binOp .rem t x y t2, tt, pos, af, none⟩ :: L) T L' T' := .c ht (fun _ h => y_rem h hx hy h0 hr) tl
theorem Ch.remZ (hx : evT T x = some (.int k p)) (hy : evT T y = some (.int k q)) (h0 : q ≠ 0) (hr : p.tmod q = r) {j tg : Nat} {bb : Bool} (tl : Ch P n ops w L ((dd, (.int k r)) :: T) L' T') (hj : (ops[j]?).bind (·.dst) = some tg := by rfl) (hb : lk T tg = some (.bool bb) := by rfl) (ht2 : Nat.blt tg n = true := by rfl) (ht : Nat.blt dd n = true := by rfl) : Ch P n ops w (⟨some dd, .binOp .rem t x y t2, tt, pos, af, some (j, bb)⟩ :: L) T L' T' := .g hj hb ht2 ht (fun _ h => y_rem h hx hy h0 hr) tl
theorem Ch.and (hx : evT T x = some (.int k p)) (hy : evT T y = some (.int k q)) (hr : k.wrap (BitVec.ofInt k.bits p &&& BitVec.ofInt k.bits q).toNat = r) (tl : Ch P n ops w L ((dd, (.int k r)) :: T) L' T') (ht : Nat.blt dd n = true := by rfl) : Ch P n ops w (⟨some dd, .binOp .and t x y t2, tt, pos, af, none⟩ :: L) T L' T' := .c ht (fun _ h => y_and h hx hy hr) tl
theorem Ch.or (hx : evT T x = some (.int k p)) (hy : evT T y = some (.int k q)) (hr : k.wrap (BitVec.ofInt k.bits p ||| BitVec.ofInt k.bits q).toNat = r) (tl : Ch P n ops w L ((dd, (.int k r)) :: T) L' T') (ht : Nat.blt dd n = true := by rfl) : Ch P n ops w (⟨some dd, .binOp .or t x y t2, tt, pos, af, none⟩ :: L) T L' T' := .c ht (fun _ h => y_or h hx hy hr) tl
theorem Ch.shl {yk : IntKind} (hx : evT T x = some (.int k p)) (hy : evT T y = some (.int yk q)) (h0 : 0 ≤ q) (hr : k.wrap (p * 2 ^ min q.toNat k.bits) = r) (tl : Ch P n ops w L ((dd, (.int k r)) :: T) L' T') (ht : Nat.blt dd n = true := by rfl) : Ch P n ops w (⟨some dd, .binOp .shl t x y t2, tt, pos, af, none⟩ :: L) T L' T' := .c ht (fun _ h => y_shl h hx hy h0 hr) tl
theorem Ch.shr {yk : IntKind} (hx : evT T x = some (.int k p)) (hy : evT T y = some (.int yk q)) (h0 : 0 ≤ q) (hr : p.fdiv (2 ^ min q.toNat k.bits) = r) (tl : Ch P n ops w L ((dd, (.int k r)) :: T) L' T') (ht : Nat.blt dd n = true := by rfl) : Ch P n ops w (⟨some dd, .binOp .shr t x y t2, tt, pos, af, none⟩ :: L) T L' T' := .c ht (fun _ h => y_shr h hx hy h0 hr) tl
theorem Ch.lss (hx : evT T x = some (.int k p)) (hy : evT T y = some (.int k q)) (tl : Ch P n ops w L ((dd, (.bool (decide (p < q)))) :: T) L' T') (ht : Nat.blt dd n = true := by rfl) : Ch P n ops w (⟨some dd, .binOp .lss t x y t2, tt, pos, af, none⟩ :: L) T L' T' := .c ht (fun _ h => y_lss h hx hy) tl
theorem Ch.lssZ (hx : evT T x = some (.int k p)) (hy : evT T y = some (.int k q)) {j tg : Nat} {bb : Bool} (tl : Ch P n ops w L ((dd, (.bool (decide (p < q)))) :: T) L' T') (hj : (ops[j]?).bind (·.dst) = some tg := by rfl) (hb : lk T tg = some (.bool bb) := by rfl) (ht2 : Nat.blt tg n = true := by rfl) (ht : Nat.blt dd n = true := by rfl) : Ch P n ops w (⟨some dd, .binOp .lss t x y t2, tt, pos, af, some (j, bb)⟩ :: L) T L' T' := .g hj hb ht2 ht (fun _ h => y_lss h hx hy) tl
theorem Ch.leq (hx : evT T x = some (.int k p)) (hy : evT T y = some (.int k q)) (tl : Ch P n ops w L ((dd, (.bool (decide (p ≤ q)))) :: T) L' T') (ht : Nat.blt dd n = true := by rfl) : Ch P n ops w (⟨some dd, .binOp .leq t x y t2, tt, pos, af, none⟩ :: L) T L' T' := .c ht (fun _ h => y_leq h hx hy) tl
theorem Ch.leqZ (hx : evT T x = some (.int k p)) (hy : evT T y = some (.int k q)) {j tg : Nat} {bb : Bool} (tl : Ch P n ops w L ((dd, (.bool (decide (p ≤ q)))) :: T) L' T') (hj : (ops[j]?).bind (·.dst) = some tg := by rfl) (hb : lk T tg = some (.bool bb) := by rfl) (ht2 : Nat.blt tg n = true := by rfl) (ht : Nat.blt dd n = true := by rfl) : Ch P n ops w (⟨some dd, .binOp .leq t x y t2, tt, pos, af, some (j, bb)⟩ :: L) T L' T' := .g hj hb ht2 ht (fun _ h => y_leq h hx hy) tl
theorem Ch.gtr (hx : evT T x = some (.int k p)) (hy : evT T y = some (.int k q)) (tl : Ch P n ops w L ((dd, (.bool (decide (q < p)))) :: T) L' T') (ht : Nat.blt dd n = true := by rfl) : Ch P n ops w (⟨some dd, .binOp .gtr t x y t2, tt, pos, af, none⟩ :: L) T L' T' := .c ht (fun _ h => y_gtr h hx hy) tl
theorem Ch.gtrZ (hx : evT T x = some (.int k p)) (hy : evT T y = some (.int k q)) {j tg : Nat} {bb : Bool} (tl : Ch P n ops w L ((dd, (.bool (decide (q < p)))) :: T) L' T') (hj : (ops[j]?).bind (·.dst) = some tg := by rfl) (hb : lk T tg = some (.bool bb) := by rfl) (ht2 : Nat.blt tg n = true := by rfl) (ht : Nat.blt dd n = true := by rfl) : Ch P n ops w (⟨some dd, .binOp .gtr t x y t2, tt, pos, af, some (j, bb)⟩ :: L) T L' T' := .g hj hb ht2 ht (fun _ h => y_gtr h hx hy) tl
theorem Ch.geq (hx : evT T x = some (.int k p)) (hy : evT T y = some (.int k q)) (tl : Ch P n ops w L ((dd, (.bool (decide (q ≤ p)))) :: T) L' T') (ht : Nat.blt dd n = true := by rfl) : Ch P n ops w (⟨some dd, .binOp .geq t x y t2, tt, pos, af, none⟩ :: L) T L' T' := .c ht (fun _ h => y_geq h hx hy) tl
theorem Ch.geqZ (hx : evT T x = some (.int k p)) (hy : evT T y = some (.int k q)) {j tg : Nat} {bb : Bool} (tl : Ch P n ops w L ((dd, (.bool (decide (q ≤ p)))) :: T) L' T') (hj : (ops[j]?).bind (·.dst) = some tg := by rfl) (hb : lk T tg = some (.bool bb) := by rfl) (ht2 : Nat.blt tg n = true := by rfl) (ht : Nat.blt dd n = true := by rfl) : Ch P n ops w (⟨some dd, .binOp .geq t x y t2, tt, pos, af, some (j, bb)⟩ :: L) T L' T' := .g hj hb ht2 ht (fun _ h => y_geq h hx hy) tl
theorem Ch.eql (hx : evT T x = some (.int k p)) (hy : evT T y = some (.int k q)) (tl : Ch P n ops w L ((dd, (.bool (decide (p = q)))) :: T) L' T') (ht : Nat.blt dd n = true := by rfl) : Ch P n ops w (⟨some dd, .binOp .eql t x y t2, tt, pos, af, none⟩ :: L) T L' T' := .c ht (fun _ h => y_eql h hx hy) tl
theorem Ch.eqlZ (hx : evT T x = some (.int k p)) (hy : evT T y = some (.int k q)) {j tg : Nat} {bb : Bool} (tl : Ch P n ops w L ((dd, (.bool (decide (p = q)))) :: T) L' T') (hj : (ops[j]?).bind (·.dst) = some tg := by rfl) (hb : lk T tg = some (.bool bb) := by rfl) (ht2 : Nat.blt tg n = true := by rfl) (ht : Nat.blt dd n = true := by rfl) : Ch P n ops w (⟨some dd, .binOp .eql t x y t2, tt, pos, af, some (j, bb)⟩ :: L) T L' T' := .g hj hb ht2 ht (fun _ h => y_eql h hx hy) tl
theorem Ch.neq (hx : evT T x = some (.int k p)) (hy : evT T y = some (.int k q)) (tl : Ch P n ops w L ((dd, (.bool (decide (p ≠ q)))) :: T) L' T') (ht : Nat.blt dd n = true := by rfl) : Ch P n ops w (⟨some dd, .binOp .neq t x y t2, tt, pos, af, none⟩ :: L) T L' T' := .c ht (fun _ h => y_neq h hx hy) tl
theorem Ch.neqZ (hx : evT T x = some (.int k p)) (hy : evT T y = some (.int k q)) {j tg : Nat} {bb : Bool} (tl : Ch P n ops w L ((dd, (.bool (decide (p ≠ q)))) :: T) L' T') (hj : (ops[j]?).bind (·.dst) = some tg := by rfl) (hb : lk T tg = some (.bool bb) := by rfl) (ht2 : Nat.blt tg n = true := by rfl) (ht : Nat.blt dd n = true := by rfl) : Ch P n ops w (⟨some dd, .binOp .neq t x y t2, tt, pos, af, some (j, bb)⟩ :: L) T L' T' := .g hj hb ht2 ht (fun _ h => y_neq h hx hy) tl
theorem Ch.neqB {b c : Bool} (hx : evT T x = some (.bool b)) (hy : evT T y = some (.bool c)) (hu : P.underlying t = some .bool) (tl : Ch P n ops w L ((dd, (.bool (!(b == c)))) :: T) L' T') (ht : Nat.blt dd n = true := by rfl) : Ch P n ops w (⟨some dd, .binOp .neq t x y t2, tt, pos, af, none⟩ :: L) T L' T' := .c ht (fun _ h => y_neqB h hx hy hu) tl
theorem Ch.neqS {b c : ByteArray} (hx : evT T x = some (.string b)) (hy : evT T y = some (.string c)) (tl : Ch P n ops w L ((dd, (.bool (!(b.toList == c.toList)))) :: T) L' T') (ht : Nat.blt dd n = true := by rfl) : Ch P n ops w (⟨some dd, .binOp .neq t x y t2, tt, pos, af, none⟩ :: L) T L' T' := .c ht (fun _ h => y_neqS h hx hy) tl
theorem Ch.neqSZ {b c : ByteArray} (hx : evT T x = some (.string b)) (hy : evT T y = some (.string c)) {j tg : Nat} {bb : Bool} (tl : Ch P n ops w L ((dd, (.bool (!(b.toList == c.toList)))) :: T) L' T') (hj : (ops[j]?).bind (·.dst) = some tg := by rfl) (hb : lk T tg = some (.bool bb) := by rfl) (ht2 : Nat.blt tg n = true := by rfl) (ht : Nat.blt dd n = true := by rfl) : Ch P n ops w (⟨some dd, .binOp .neq t x y t2, tt, pos, af, some (j, bb)⟩ :: L) T L' T' := .g hj hb ht2 ht (fun _ h => y_neqS h hx hy) tl
theorem Ch.eqlP {e : TypeId} {b : Option Addr} (hx : evT T x = some (.pointer b)) (hy : evT T y = some (.pointer none)) (hu : P.underlying t = some (.pointer e)) (tl : Ch P n ops w L ((dd, (.bool b.isNone)) :: T) L' T') (ht : Nat.blt dd n = true := by rfl) : Ch P n ops w (⟨some dd, .binOp .eql t x y t2, tt, pos, af, none⟩ :: L) T L' T' := .c ht (fun _ h => y_eqlP h hx hy hu) tl
theorem Ch.conv {s e : TypeId} {k' : IntKind} {ds : TypeDesc} (hx : evT T x = some (.int k p)) (hs : P.underlying s = some ds) (hd : P.underlying e = some (.int k')) (hr : k'.wrap p = r) (tl : Ch P n ops w L ((dd, (.int k' r)) :: T) L' T') (ht : Nat.blt dd n = true := by rfl) : Ch P n ops w (⟨some dd, .convert s e x, tt, pos, af, none⟩ :: L) T L' T' := .c ht (fun _ h => y_conv h hx hs hd hr) tl
theorem Ch.extract {x : Operand} {vs : Array Value} {i : Nat} {v : Value} (hx : evT T x = some (.tuple vs)) (hv : nthL vs.toList i = some v) (tl : Ch P n ops w L ((dd, v) :: T) L' T') (ht : Nat.blt dd n = true := by rfl) : Ch P n ops w (⟨some dd, .extract x i, tt, pos, af, none⟩ :: L) T L' T' := .c ht (fun _ h => y_extract h hx hv) tl
theorem Ch.nilCheck {x : Operand} {p : Addr} (hx : evT T x = some (.pointer (some p))) (tl : Ch P n ops w L ((dd, (.pointer (some p))) :: T) L' T') (ht : Nat.blt dd n = true := by rfl) : Ch P n ops w (⟨some dd, .nilCheck x, tt, pos, af, none⟩ :: L) T L' T' := .c ht (fun _ h => y_nilCheck h hx) tl
theorem Ch.nilCheckZ {x : Operand} {p : Addr} (hx : evT T x = some (.pointer (some p))) {j tg : Nat} {bb : Bool} (tl : Ch P n ops w L ((dd, (.pointer (some p))) :: T) L' T') (hj : (ops[j]?).bind (·.dst) = some tg := by rfl) (hb : lk T tg = some (.bool bb) := by rfl) (ht2 : Nat.blt tg n = true := by rfl) (ht : Nat.blt dd n = true := by rfl) : Ch P n ops w (⟨some dd, .nilCheck x, tt, pos, af, some (j, bb)⟩ :: L) T L' T' := .g hj hb ht2 ht (fun _ h => y_nilCheck h hx) tl
theorem Ch.fieldAddr {t : TypeId} {x : Operand} {i g o : Nat} {fs : Array Field} {f : Field} {s off : Nat} (hx : evT T x = some (.pointer (some ⟨g, o, none⟩))) (hu : P.underlying t = some (.struct fs)) (hf : fs[i]? = some f) (hs : (P.info? f.type).map (·.size) = some (s + 1)) (ho : o + f.offset = off) (tl : Ch P n ops w L ((dd, (.pointer (some ⟨g, off, none⟩))) :: T) L' T') (ht : Nat.blt dd n = true := by rfl) : Ch P n ops w (⟨some dd, .fieldAddr t x i, tt, pos, af, none⟩ :: L) T L' T' := .c ht (fun _ h => y_fieldAddr h hx hu hf hs ho) tl
theorem Ch.fieldAddrZ {t : TypeId} {x : Operand} {i g o : Nat} {fs : Array Field} {f : Field} {s off : Nat} (hx : evT T x = some (.pointer (some ⟨g, o, none⟩))) (hu : P.underlying t = some (.struct fs)) (hf : fs[i]? = some f) (hs : (P.info? f.type).map (·.size) = some (s + 1)) (ho : o + f.offset = off) {j tg : Nat} {bb : Bool} (tl : Ch P n ops w L ((dd, (.pointer (some ⟨g, off, none⟩))) :: T) L' T') (hj : (ops[j]?).bind (·.dst) = some tg := by rfl) (hb : lk T tg = some (.bool bb) := by rfl) (ht2 : Nat.blt tg n = true := by rfl) (ht : Nat.blt dd n = true := by rfl) : Ch P n ops w (⟨some dd, .fieldAddr t x i, tt, pos, af, some (j, bb)⟩ :: L) T L' T' := .g hj hb ht2 ht (fun _ h => y_fieldAddr h hx hu hf hs ho) tl
theorem Ch.fieldAddrQ {t : TypeId} {x : Operand} {i g o : Nat} {fs : Array Field} {f : Field} {s : Nat} (q : Nat) (hx : evT T x = some (.pointer (some ⟨g, o, none⟩))) (hu : P.underlying t = some (.struct fs)) (hf : fs[i]? = some f) (hs : (P.info? f.type).map (·.size) = some (s + 1)) (hq : f.offset = q) (tl : Ch P n ops w L ((dd, (.pointer (some ⟨g, o + q, none⟩))) :: T) L' T') (ht : Nat.blt dd n = true := by rfl) : Ch P n ops w (⟨some dd, .fieldAddr t x i, tt, pos, af, none⟩ :: L) T L' T' := .c ht (fun _ h => y_fieldAddrQ h q hx hu hf hs hq) tl
theorem Ch.fieldAddrQZ {t : TypeId} {x : Operand} {i g o : Nat} {fs : Array Field} {f : Field} {s : Nat} (q : Nat) (hx : evT T x = some (.pointer (some ⟨g, o, none⟩))) (hu : P.underlying t = some (.struct fs)) (hf : fs[i]? = some f) (hs : (P.info? f.type).map (·.size) = some (s + 1)) (hq : f.offset = q) {j tg : Nat} {bb : Bool} (tl : Ch P n ops w L ((dd, (.pointer (some ⟨g, o + q, none⟩))) :: T) L' T') (hj : (ops[j]?).bind (·.dst) = some tg := by rfl) (hb : lk T tg = some (.bool bb) := by rfl) (ht2 : Nat.blt tg n = true := by rfl) (ht : Nat.blt dd n = true := by rfl) : Ch P n ops w (⟨some dd, .fieldAddr t x i, tt, pos, af, some (j, bb)⟩ :: L) T L' T' := .g hj hb ht2 ht (fun _ h => y_fieldAddrQ h q hx hu hf hs hq) tl
theorem Ch.build {t : TypeId} {parts : Array (Nat × Operand)} {z cs : List Value} {pl : List (Nat × Value)} (hp : K.evP T parts.toList = some pl) (hz : ((P.info? t).bind (·.zero)).map (·.cells.toList) = some z) (hf : flatS P t z = true) (h1 : pl.all (fun p => decide (p.1 < z.length) && p.2.oneCell') = true) (hc : setL z pl = cs) (tl : Ch P n ops w L ((dd, (.agg cs.toArray)) :: T) L' T') (ht : Nat.blt dd n = true := by rfl) : Ch P n ops w (⟨some dd, .build t parts, tt, pos, af, none⟩ :: L) T L' T' := .c ht (fun _ h => y_build h hp hz hf h1 hc) tl
theorem Ch.loadB1 (m : MemOk X w0 M w) {t : TypeId} {td : TypeDesc} {x : Operand} {i g o : Nat} {e : TypeId} {cs : List Value} {v : Value} (hm : lk M i = some (.box g e cs)) (hx : evT T x = some (.pointer (some ⟨g, o, none⟩))) (hv : cs[o]? = some v) (hu : P.underlying t = some td) (hr : td.isRow = false) (tl : Ch P n ops w L ((dd, v) :: T) L' T') (ht : Nat.blt dd n = true := by rfl) : Ch P n ops w (⟨some dd, .load t x, tt, pos, af, none⟩ :: L) T L' T' := .c ht (fun _ h => y_loadB1 h m hm hx hv hu hr) tl
theorem Ch.loadB1Z (m : MemOk X w0 M w) {t : TypeId} {td : TypeDesc} {x : Operand} {i g o : Nat} {e : TypeId} {cs : List Value} {v : Value} (hm : lk M i = some (.box g e cs)) (hx : evT T x = some (.pointer (some ⟨g, o, none⟩))) (hv : cs[o]? = some v) (hu : P.underlying t = some td) (hr : td.isRow = false) {j tg : Nat} {bb : Bool} (tl : Ch P n ops w L ((dd, v) :: T) L' T') (hj : (ops[j]?).bind (·.dst) = some tg := by rfl) (hb : lk T tg = some (.bool bb) := by rfl) (ht2 : Nat.blt tg n = true := by rfl) (ht : Nat.blt dd n = true := by rfl) : Ch P n ops w (⟨some dd, .load t x, tt, pos, af, some (j, bb)⟩ :: L) T L' T' := .g hj hb ht2 ht (fun _ h => y_loadB1 h m hm hx hv hu hr) tl
theorem Ch.loadBR (m : MemOk X w0 M w) {t : TypeId} {td : TypeDesc} {x : Operand} {i g o k : Nat} {e : TypeId} {cs vs : List Value} (hm : lk M i = some (.box g e cs)) (hx : evT T x = some (.pointer (some ⟨g, o, none⟩))) (hu : P.underlying t = some td) (hr : td.isRow = true) (hs : (P.info? t).map (·.size) = some k) (hk : o + k ≤ cs.length) (hv : (cs.drop o).take k = vs) (tl : Ch P n ops w L ((dd, (.agg vs.toArray)) :: T) L' T') (ht : Nat.blt dd n = true := by rfl) : Ch P n ops w (⟨some dd, .load t x, tt, pos, af, none⟩ :: L) T L' T' := .c ht (fun _ h => y_loadBR h m hm hx hu hr hs hk hv) tl
theorem Ch.loadBRZ (m : MemOk X w0 M w) {t : TypeId} {td : TypeDesc} {x : Operand} {i g o k : Nat} {e : TypeId} {cs vs : List Value} (hm : lk M i = some (.box g e cs)) (hx : evT T x = some (.pointer (some ⟨g, o, none⟩))) (hu : P.underlying t = some td) (hr : td.isRow = true) (hs : (P.info? t).map (·.size) = some k) (hk : o + k ≤ cs.length) (hv : (cs.drop o).take k = vs) {j tg : Nat} {bb : Bool} (tl : Ch P n ops w L ((dd, (.agg vs.toArray)) :: T) L' T') (hj : (ops[j]?).bind (·.dst) = some tg := by rfl) (hb : lk T tg = some (.bool bb) := by rfl) (ht2 : Nat.blt tg n = true := by rfl) (ht : Nat.blt dd n = true := by rfl) : Ch P n ops w (⟨some dd, .load t x, tt, pos, af, some (j, bb)⟩ :: L) T L' T' := .g hj hb ht2 ht (fun _ h => y_loadBR h m hm hx hu hr hs hk hv) tl
theorem Ch.loadC1 (m : MemOk X w0 M w) {t : TypeId} {td : TypeDesc} {x : Operand} {i b o q : Nat} {vs : List Value} {v : Value} (hm : lk M i = some (.cel b o vs)) (hx : evT T x = some (.pointer (some ⟨b, o + q, none⟩))) (hv : vs[q]? = some v) (hu : P.underlying t = some td) (hr : td.isRow = false) (tl : Ch P n ops w L ((dd, v) :: T) L' T') (ht : Nat.blt dd n = true := by rfl) : Ch P n ops w (⟨some dd, .load t x, tt, pos, af, none⟩ :: L) T L' T' := .c ht (fun _ h => y_loadC1 h m hm hx hv hu hr) tl
theorem Ch.loadC0 (m : MemOk X w0 M w) {t : TypeId} {td : TypeDesc} {x : Operand} {i b o : Nat} {vs : List Value} {v : Value} (hm : lk M i = some (.cel b o (v :: vs))) (hx : evT T x = some (.pointer (some ⟨b, o, none⟩))) (hu : P.underlying t = some td) (hr : td.isRow = false) (tl : Ch P n ops w L ((dd, v) :: T) L' T') (ht : Nat.blt dd n = true := by rfl) : Ch P n ops w (⟨some dd, .load t x, tt, pos, af, none⟩ :: L) T L' T' := .c ht (fun _ h => y_loadC0 h m hm hx hu hr) tl
theorem Ch.loadC0Z (m : MemOk X w0 M w) {t : TypeId} {td : TypeDesc} {x : Operand} {i b o : Nat} {vs : List Value} {v : Value} (hm : lk M i = some (.cel b o (v :: vs))) (hx : evT T x = some (.pointer (some ⟨b, o, none⟩))) (hu : P.underlying t = some td) (hr : td.isRow = false) {j tg : Nat} {bb : Bool} (tl : Ch P n ops w L ((dd, v) :: T) L' T') (hj : (ops[j]?).bind (·.dst) = some tg := by rfl) (hb : lk T tg = some (.bool bb) := by rfl) (ht2 : Nat.blt tg n = true := by rfl) (ht : Nat.blt dd n = true := by rfl) : Ch P n ops w (⟨some dd, .load t x, tt, pos, af, some (j, bb)⟩ :: L) T L' T' := .g hj hb ht2 ht (fun _ h => y_loadC0 h m hm hx hu hr) tl
theorem Ch.loadCR (m : MemOk X w0 M w) {t : TypeId} {td : TypeDesc} {x : Operand} {i b o : Nat} {vs : List Value} (hm : lk M i = some (.cel b o vs)) (hx : evT T x = some (.pointer (some ⟨b, o, none⟩))) (hu : P.underlying t = some td) (hr : td.isRow = true) (hs : (P.info? t).map (·.size) = some vs.length) (tl : Ch P n ops w L ((dd, (.agg vs.toArray)) :: T) L' T') (ht : Nat.blt dd n = true := by rfl) : Ch P n ops w (⟨some dd, .load t x, tt, pos, af, none⟩ :: L) T L' T' := .c ht (fun _ h => y_loadCR h m hm hx hu hr hs) tl
theorem Ch.str {s t e : TypeId} {x : Operand} {v : Value} {bs : List Int} (hx : evT T x = some v) (hv : IsNums .u8 w v bs) (hs : P.underlying s = some (.slice e)) (he : P.underlying e = some (.int .u8)) (hd : P.underlying t = some .string) (tl : Ch P n ops w L ((dd, (.string (strOfNums bs))) :: T) L' T') (ht : Nat.blt dd n = true := by rfl) : Ch P n ops w (⟨some dd, .convert s t x, tt, pos, af, none⟩ :: L) T L' T' := .c ht (fun _ h => y_str h hx hv hs he hd) tl
theorem Ch.strZ {s t e : TypeId} {x : Operand} {v : Value} {bs : List Int} (hx : evT T x = some v) (hv : IsNums .u8 w v bs) (hs : P.underlying s = some (.slice e)) (he : P.underlying e = some (.int .u8)) (hd : P.underlying t = some .string) {j tg : Nat} {bb : Bool} (tl : Ch P n ops w L ((dd, (.string (strOfNums bs))) :: T) L' T') (hj : (ops[j]?).bind (·.dst) = some tg := by rfl) (hb : lk T tg = some (.bool bb) := by rfl) (ht2 : Nat.blt tg n = true := by rfl) (ht : Nat.blt dd n = true := by rfl) : Ch P n ops w (⟨some dd, .convert s t x, tt, pos, af, some (j, bb)⟩ :: L) T L' T' := .g hj hb ht2 ht (fun _ h => y_str h hx hv hs he hd) tl
theorem Ch.loadAt {t : TypeId} {td : TypeDesc} {x : Operand} {b o : Nat} {vs : List Value} (hr : w.rangeAt b o vs) (hx : evT T x = some (.pointer (some ⟨b, o, none⟩))) (hu : P.underlying t = some td) (hd : td.isRow = true) (hs : (P.info? t).map (·.size) = some vs.length) (tl : Ch P n ops w L ((dd, (.agg vs.toArray)) :: T) L' T') (ht : Nat.blt dd n = true := by rfl) : Ch P n ops w (⟨some dd, .load t x, tt, pos, af, none⟩ :: L) T L' T' := .c ht (fun _ h => y_loadAt h hr hx hu hd hs) tl
theorem Ch.loadAt1 {t : TypeId} {td : TypeDesc} {x : Operand} {b o q q' : Nat} {vs : List Value} {v : Value} (hr : w.rangeAt b o vs) (hx : evT T x = some (.pointer (some ⟨b, q', none⟩))) (hq : q' = o + q) (hv : nthL vs q = some v) (hu : P.underlying t = some td) (hd : td.isRow = false) (tl : Ch P n ops w L ((dd, v) :: T) L' T') (ht : Nat.blt dd n = true := by rfl) : Ch P n ops w (⟨some dd, .load t x, tt, pos, af, none⟩ :: L) T L' T' := .c ht (fun _ h => y_loadAt1 h hr hx hq hv hu hd) tl
theorem Ch.loadAt1Z {t : TypeId} {td : TypeDesc} {x : Operand} {b o q q' : Nat} {vs : List Value} {v : Value} (hr : w.rangeAt b o vs) (hx : evT T x = some (.pointer (some ⟨b, q', none⟩))) (hq : q' = o + q) (hv : nthL vs q = some v) (hu : P.underlying t = some td) (hd : td.isRow = false) {j tg : Nat} {bb : Bool} (tl : Ch P n ops w L ((dd, v) :: T) L' T') (hj : (ops[j]?).bind (·.dst) = some tg := by rfl) (hb : lk T tg = some (.bool bb) := by rfl) (ht2 : Nat.blt tg n = true := by rfl) (ht : Nat.blt dd n = true := by rfl) : Ch P n ops w (⟨some dd, .load t x, tt, pos, af, some (j, bb)⟩ :: L) T L' T' := .g hj hb ht2 ht (fun _ h => y_loadAt1 h hr hx hq hv hu hd) tl
theorem Ch.cap {t e : TypeId} {x : Operand} {p : Option Addr} {l c : Nat} (hx : evT T x = some (.slice p l c)) (hu : P.underlying t = some (.slice e)) (tl : Ch P n ops w L ((dd, (.int .i64 c)) :: T) L' T') (ht : Nat.blt dd n = true := by rfl) : Ch P n ops w (⟨some dd, .call { callee := .builtin .cap, args := #[x], argTypes := #[t] }, tt, pos, af, none⟩ :: L) T L' T' := .c ht (fun _ h => y_cap h hx hu) tl
theorem Ch.loadSVZ (m : MemOk X w0 M w) {t : TypeId} {td : TypeDesc} {x : Operand} {i g o l c mm : Nat} {e : TypeId} {rows : List (List D)} (hm : lk M i = some (.seg (.slice (some ⟨g, o, none⟩) l c) e mm rows)) (J : Nat) {r : List D} (hr : rows[J]? = some r) {q q' : Nat} {v : Value} (hq : nthL r q = some (.v v)) (hx : evT T x = some (.pointer (some ⟨g, q', none⟩))) (hq' : q' = o + J * mm + q) (hu : P.underlying t = some td) (hd : td.isRow = false) {j tg : Nat} {bb : Bool} (tl : Ch P n ops w L ((dd, v) :: T) L' T') (hj : (ops[j]?).bind (·.dst) = some tg := by rfl) (hb : lk T tg = some (.bool bb) := by rfl) (ht2 : Nat.blt tg n = true := by rfl) (ht : Nat.blt dd n = true := by rfl) : Ch P n ops w (⟨some dd, .load t x, tt, pos, af, some (j, bb)⟩ :: L) T L' T' := .g hj hb ht2 ht (fun _ h => y_loadSV h m hm J hr hq hx hq' hu hd) tl
theorem Ch.makeFunc {f : FuncId} {caps : Array Operand} {vs : List Value} (hargs : evA T caps.toList = some vs) (tl : Ch P n ops w L ((dd, (.func (.func f) #[] vs.toArray)) :: T) L' T') (ht : Nat.blt dd n = true := by rfl) : Ch P n ops w (⟨some dd, .makeFunc (.func f) #[] caps, tt, pos, af, none⟩ :: L) T L' T' := .c ht (fun _ h => y_makeFunc h hargs) tl
theorem Ch.sk {op : Op} {j tg : Nat} {bb : Bool} (tl : Ch P n ops w L ((dd, undef) :: T) L' T') (hj : (ops[j]?).bind (·.dst) = some tg := by rfl) (hb : lk T tg = some (.bool !bb) := by rfl) (ht2 : Nat.blt tg n = true := by rfl) (ht : Nat.blt dd n = true := by rfl) : Ch P n ops w (⟨some dd, op, tt, pos, af, some (j, bb)⟩ :: L) T L' T' := .s hj hb ht2 ht tl
end
/-! shorter -/
theorem znl {P : Program} {ops : Array Oper} {Q : Exit → Act → World → Prop} {a : Act} {w : World} (h : Q .normal a w) : wpList P ops Q [] a w := h
theorem zsr {P : Program} {id : Nat} {l : List Oper} {y : Code} {Q : Exit → Act → World → Prop} {a : Act} {w : World} (h : ∀ K : Act → World → Prop, (∀ a w, y.wp P Q a w → K a w) → wpList P l.toArray (Exit.then K Q) l a w) : ((Code.region id l.toArray false).seq y).wp P Q a w := wp_seq_k fun K hK => wp_region_lit (h K hK)
theorem zss {P : Program} {Q : Exit → Act → World → Prop} {a : Act} {w : World} (h : Q .normal a w) : Code.skip.wp P Q a w := wp_skip h
theorem ent0 {P : Program} {f : FuncId} {fn : Func} {c : Code} {w : World} {R : Ending → World → Prop} {N : Nat} (hf : P.funcs[f]? = some fn) (hb : fn.body = some c) (hN : fn.ntmps = N) (h : ∀ a, Has N [] a → c.wp P (bodyPost P fn R) a w) (hl : Nat.ble 0 N = true := by rfl) : Calls P f #[] w R := enter hf hb hN hl h
theorem ent1 {P : Program} {f : FuncId} {fn : Func} {c : Code} {x0 : Value} {w : World} {R : Ending → World → Prop} {N : Nat} (hf : P.funcs[f]? = some fn) (hb : fn.body = some c) (hN : fn.ntmps = N) (h : ∀ a, Has N [(0, x0)] a → c.wp P (bodyPost P fn R) a w) (hl : Nat.ble 1 N = true := by rfl) : Calls P f #[x0] w R := enter hf hb hN hl h
theorem ent2 {P : Program} {f : FuncId} {fn : Func} {c : Code} {x0 x1 : Value} {w : World} {R : Ending → World → Prop} {N : Nat} (hf : P.funcs[f]? = some fn) (hb : fn.body = some c) (hN : fn.ntmps = N) (h : ∀ a, Has N [(0, x0), (1, x1)] a → c.wp P (bodyPost P fn R) a w) (hl : Nat.ble 2 N = true := by rfl) : Calls P f #[x0, x1] w R := enter hf hb hN hl h
theorem ent3 {P : Program} {f : FuncId} {fn : Func} {c : Code} {x0 x1 x2 : Value} {w : World} {R : Ending → World → Prop} {N : Nat} (hf : P.funcs[f]? = some fn) (hb : fn.body = some c) (hN : fn.ntmps = N) (h : ∀ a, Has N [(0, x0), (1, x1), (2, x2)] a → c.wp P (bodyPost P fn R) a w) (hl : Nat.ble 3 N = true := by rfl) : Calls P f #[x0, x1, x2] w R := enter hf hb hN hl h
theorem ent4 {P : Program} {f : FuncId} {fn : Func} {c : Code} {x0 x1 x2 x3 : Value} {w : World} {R : Ending → World → Prop} {N : Nat} (hf : P.funcs[f]? = some fn) (hb : fn.body = some c) (hN : fn.ntmps = N) (h : ∀ a, Has N [(0, x0), (1, x1), (2, x2), (3, x3)] a → c.wp P (bodyPost P fn R) a w) (hl : Nat.ble 4 N = true := by rfl) : Calls P f #[x0, x1, x2, x3] w R := enter hf hb hN hl h
theorem ent5 {P : Program} {f : FuncId} {fn : Func} {c : Code} {x0 x1 x2 x3 x4 : Value} {w : World} {R : Ending → World → Prop} {N : Nat} (hf : P.funcs[f]? = some fn) (hb : fn.body = some c) (hN : fn.ntmps = N) (h : ∀ a, Has N [(0, x0), (1, x1), (2, x2), (3, x3), (4, x4)] a → c.wp P (bodyPost P fn R) a w) (hl : Nat.ble 5 N = true := by rfl) : Calls P f #[x0, x1, x2, x3, x4] w R := enter hf hb hN hl h
theorem ent6 {P : Program} {f : FuncId} {fn : Func} {c : Code} {x0 x1 x2 x3 x4 x5 : Value} {w : World} {R : Ending → World → Prop} {N : Nat} (hf : P.funcs[f]? = some fn) (hb : fn.body = some c) (hN : fn.ntmps = N) (h : ∀ a, Has N [(0, x0), (1, x1), (2, x2), (3, x3), (4, x4), (5, x5)] a → c.wp P (bodyPost P fn R) a w) (hl : Nat.ble 6 N = true := by rfl) : Calls P f #[x0, x1, x2, x3, x4, x5] w R := enter hf hb hN hl h
theorem ent8 {P : Program} {f : FuncId} {fn : Func} {c : Code} {x0 x1 x2 x3 x4 x5 x6 x7 : Value} {w : World} {R : Ending → World → Prop} {N : Nat} (hf : P.funcs[f]? = some fn) (hb : fn.body = some c) (hN : fn.ntmps = N) (h : ∀ a, Has N [(0, x0), (1, x1), (2, x2), (3, x3), (4, x4), (5, x5), (6, x6), (7, x7)] a → c.wp P (bodyPost P fn R) a w) (hl : Nat.ble 8 N = true := by rfl) : Calls P f #[x0, x1, x2, x3, x4, x5, x6, x7] w R := enter hf hb hN hl h
section
variable {P : Program} {n : Nat} {ops : Array Oper} {L L' : List Oper} {T T' : List (Nat × Value)} {w w0 : World} {X : Cx} {M : Mm} {dd : Tmp} {tt : TypeId} {pos : String} {af : Array Edge}
theorem Ch.fa {t : TypeId} {x : Operand} {i g o : Nat} {fs : Array Field} {f : Field} (off : Nat) (hx : evT T x = some (.pointer (some ⟨g, o, none⟩))) (hu : P.underlying t = some (.struct fs)) (tl : Ch P n ops w L ((dd, (.pointer (some ⟨g, off, none⟩))) :: T) L' T') (hf : fs[i]? = some f := by rfl) (hs : (P.info? f.type).map (·.size) = some (0 + 1) := by kernel_rfl) (ho : o + f.offset = off := by rfl) (ht : Nat.blt dd n = true := by rfl) : Ch P n ops w (⟨some dd, .fieldAddr t x i, tt, pos, af, none⟩ :: L) T L' T' := .c ht (fun _ h => y_fieldAddr h hx hu hf hs ho) tl
theorem Ch.faZ {t : TypeId} {x : Operand} {i g o : Nat} {fs : Array Field} {f : Field} (off : Nat) (hx : evT T x = some (.pointer (some ⟨g, o, none⟩))) (hu : P.underlying t = some (.struct fs)) {j tg : Nat} {bb : Bool} (tl : Ch P n ops w L ((dd, (.pointer (some ⟨g, off, none⟩))) :: T) L' T') (hf : fs[i]? = some f := by rfl) (hs : (P.info? f.type).map (·.size) = some (0 + 1) := by kernel_rfl) (ho : o + f.offset = off := by rfl) (hj : (ops[j]?).bind (·.dst) = some tg := by rfl) (hb : lk T tg = some (.bool bb) := by rfl) (ht2 : Nat.blt tg n = true := by rfl) (ht : Nat.blt dd n = true := by rfl) : Ch P n ops w (⟨some dd, .fieldAddr t x i, tt, pos, af, some (j, bb)⟩ :: L) T L' T' := .g hj hb ht2 ht (fun _ h => y_fieldAddr h hx hu hf hs ho) tl
theorem Ch.lb (m : MemOk X w0 M w) (i : Nat) {t : TypeId} {td : TypeDesc} {x : Operand} {g o : Nat} {e : TypeId} {cs : List Value} {v : Value} (hu : P.underlying t = some td) (hx : evT T x = some (.pointer (some ⟨g, o, none⟩))) (hm : lk M i = some (.box g e cs)) (hv : cs[o]? = some v) (tl : Ch P n ops w L ((dd, v) :: T) L' T') (hr : td.isRow = false := by rfl) (ht : Nat.blt dd n = true := by rfl) : Ch P n ops w (⟨some dd, .load t x, tt, pos, af, none⟩ :: L) T L' T' := .c ht (fun _ h => y_loadB1 h m hm hx hv hu hr) tl
end
theorem U2 : type_of% Tryz.underlying2 := Tryz.underlying2
theorem U3 : type_of% Tryz.underlying3 := Tryz.underlying3
theorem U4 : type_of% Tryz.underlying4 := Tryz.underlying4
theorem U5 : type_of% Tryz.underlying5 := Tryz.underlying5
theorem U9 : type_of% Tryz.underlying9 := Tryz.underlying9
theorem U22 : type_of% Tryz.underlying22 := Tryz.underlying22
theorem U23 : type_of% Tryz.underlying23 := Tryz.underlying23
theorem U26 : type_of% Tryz.underlying26 := Tryz.underlying26
theorem U28 : type_of% Tryz.underlying28 := Tryz.underlying28
theorem U29 : type_of% Tryz.underlying29 := Tryz.underlying29
theorem U30 : type_of% Tryz.underlying30 := Tryz.underlying30
theorem U31 : type_of% Tryz.underlying31 := Tryz.underlying31
theorem U33 : type_of% Tryz.underlying33 := Tryz.underlying33
theorem U38 : type_of% Tryz.underlying38 := Tryz.underlying38
theorem U39 : type_of% Tryz.underlying39 := Tryz.underlying39
theorem U40 : type_of% Tryz.underlying40 := Tryz.underlying40
theorem U42 : type_of% Tryz.underlying42 := Tryz.underlying42
theorem U69 : type_of% Tryz.underlying69 := Tryz.underlying69
theorem U71 : type_of% Tryz.underlying71 := Tryz.underlying71
theorem U73 : type_of% Tryz.underlying73 := Tryz.underlying73
theorem U75 : type_of% Tryz.underlying75 := Tryz.underlying75
theorem U81 : type_of% Tryz.underlying81 := Tryz.underlying81
theorem U84 : type_of% Tryz.underlying84 := Tryz.underlying84
theorem U90 : type_of% Tryz.underlying90 := Tryz.underlying90
theorem U109 : type_of% Tryz.underlying109 := Tryz.underlying109
theorem U111 : type_of% Tryz.underlying111 := Tryz.underlying111
theorem U112 : type_of% Tryz.underlying112 := Tryz.underlying112
theorem U144 : type_of% Tryz.underlying144 := Tryz.underlying144
theorem U149 : type_of% Tryz.underlying149 := Tryz.underlying149
theorem U154 : type_of% Tryz.underlying154 := Tryz.underlying154
theorem U212 : type_of% Tryz.underlying212 := Tryz.underlying212
theorem fct0 : (Tryz.prog.info? 71).map (·.size) = some 2 := by kernel_rfl
theorem fct1 : (Tryz.prog.info? 33).map (·.size) = some 11 := by kernel_rfl
theorem fct2 : ((Tryz.prog.info? 33).bind (·.zero)).map (·.cells.toList) = some [.int .i64 0, .int .i64 0, .int .i64 0, .int .i64 0, .slice none 0 0, .int .i64 0, .int .i64 0, .bool false, .int .i64 0, .slice none 0 0, .slice none 0 0] := by kernel_rfl
theorem fct3 : (Tryz.prog.info? 33).map (fun i => (i.zero, i.size, i.bytes)) = some (some (.agg #[.int .i64 0, .int .i64 0, .int .i64 0, .int .i64 0, .slice none 0 0, .int .i64 0, .int .i64 0, .bool false, .int .i64 0, .slice none 0 0, .slice none 0 0]), 11, 136) := by kernel_rfl
theorem fct4 : (Tryz.prog.info? 73).map (·.size) = some 1 := by kernel_rfl
theorem fct5 : (Tryz.prog.info? 81).map (·.size) = some 10 := by kernel_rfl
theorem fct6 : (Tryz.prog.info? 84).map (·.size) = some 5 := by kernel_rfl
theorem fct7 : ((Tryz.prog.info? 81).bind (·.zero)).map (·.cells.toList) = some [.int .i64 0, .int .i64 0, .int .i64 0, .int .i64 0, .int .i64 0, .slice none 0 0, .int .i64 0, .int .i64 0, .int .i64 0, .slice none 0 0] := by kernel_rfl
theorem fct8 : ((Tryz.prog.info? 84).bind (·.zero)).map (·.cells.toList) = some [.int .i64 0, .int .i64 0, .int .i64 0, .int .i64 0, .slice none 0 0] := by kernel_rfl
theorem fct9 : (Tryz.prog.info? 69).map (fun i => (i.zero, i.size, i.bytes)) = some (some (.slice none 0 0), 1, 24) := by kernel_rfl
theorem fct10 : (Tryz.prog.info? 2).map (·.size) = some 1 := by kernel_rfl
theorem fct11 : (Tryz.prog.info? 26).map (·.size) = some 1 := by kernel_rfl
theorem fct12 : (Tryz.prog.info? 28).map (·.size) = some 7 := by kernel_rfl
theorem fct13 : (Tryz.prog.info? 69).map (·.size) = some 1 := by kernel_rfl
theorem fct14 : (Tryz.prog.info? 90).map (·.size) = some 8 := by kernel_rfl
theorem fct15 : (Tryz.prog.info? 109).map (·.size) = some 2 := by kernel_rfl
theorem fct16 : (Tryz.prog.info? 111).map (·.size) = some 2 := by kernel_rfl
theorem fct17 : ((Tryz.prog.info? 28).bind (·.zero)).map (·.cells.toList) = some [.int .i64 0, .int .i64 0, .int .i64 0, .int .i64 0, .int .i64 0, .int .i64 0, .slice none 0 0] := by kernel_rfl
theorem fct18 : ((Tryz.prog.info? 109).bind (·.zero)).map (·.cells.toList) = some [.int .i64 0, .slice none 0 0] := by kernel_rfl
theorem fct19 : (Tryz.prog.info? 5).map (fun i => (i.zero, i.size, i.bytes)) = some (some (.int .u8 0), 1, 1) := by kernel_rfl
theorem fct20 : (Tryz.prog.info? 149).map (·.size) = some 1 := by kernel_rfl
theorem fct21 : (Tryz.prog.info? 149).map (fun i => (i.zero, i.size, i.bytes)) = some (some (.int .u64 0), 1, 8) := by kernel_rfl
theorem fct22 : (Tryz.prog.info? 2).map (fun i => (i.zero, i.size, i.bytes)) = some (some (.int .i64 0), 1, 8) := by kernel_rfl
theorem fct23 : (Tryz.prog.info? 3).map (·.size) = some 1 := by kernel_rfl
theorem fct24 : (Tryz.prog.info? 111).map (fun i => (i.zero, i.size, i.bytes)) = some (some (.agg #[.int .i64 0, .slice none 0 0]), 2, 32) := by kernel_rfl
theorem fct25 : ((Tryz.prog.info? 111).bind (·.zero)).map (·.cells.toList) = some [.int .i64 0, .slice none 0 0] := by kernel_rfl
theorem fct26 : (Tryz.prog.info? 109).map (fun i => (i.zero, i.size, i.bytes)) = some (some (.agg #[.int .i64 0, .slice none 0 0]), 2, 32) := by kernel_rfl
theorem fct27 : (Tryz.prog.info? 31).map (·.size) = some 1 := by kernel_rfl
theorem fct28 : ((Tryz.prog.info? 90).bind (·.zero)).map (·.cells.toList) = some [.int .i64 0, .int .i64 0, .int .i64 0, .int .i64 0, .int .i64 0, .int .i64 0, .int .i64 0, .slice none 0 0] := by kernel_rfl
theorem fct29 : (Tryz.prog.info? 4).map (·.size) = some 1 := by kernel_rfl
theorem fct30 : (Tryz.prog.info? 30).map (·.size) = some 1 := by kernel_rfl
theorem fct31 : (Tryz.prog.info? 40).map (·.size) = some 1 := by kernel_rfl
theorem fct32 : (Tryz.prog.info? 42).map (·.size) = some 5 := by kernel_rfl
theorem fct33 : ((Tryz.prog.info? 42).bind (·.zero)).map (·.cells.toList) = some [.int .i64 0, .int .i64 0, .int .i64 0, .int .i64 0, .slice none 0 0] := by kernel_rfl
theorem fct34 : (Tryz.prog.info? 5).map (·.size) = some 1 := by kernel_rfl
theorem fct35 : (Tryz.prog.info? 22).map (·.size) = some 1 := by kernel_rfl
theorem fct36 : (Tryz.prog.info? 28).map (fun i => (i.zero, i.size, i.bytes)) = some (some (.agg #[.int .i64 0, .int .i64 0, .int .i64 0, .int .i64 0, .int .i64 0, .int .i64 0, .slice none 0 0]), 7, 72) := by kernel_rfl
theorem fct37 : (Tryz.prog.info? 3).map (fun i => (i.zero, i.size, i.bytes)) = some (some (.int .i64 0), 1, 8) := by kernel_rfl
theorem fct38 : (Tryz.prog.info? 29).map (·.size) = some 1 := by kernel_rfl
theorem fct39 : ((Tryz.prog.info? 154).bind (·.zero)).map (·.cells.toList) = some [.slice none 0 0, .int .i64 0] := by kernel_rfl
theorem fct40 : (Tryz.prog.info? 38).map (fun i => (i.zero, i.size, i.bytes)) = some (some (.agg #[.int .i64 0, .int .i64 0]), 2, 16) := by kernel_rfl
theorem fct41 : (Tryz.prog.info? 38).map (·.size) = some 2 := by kernel_rfl
theorem fct42 : ((Tryz.prog.info? 38).bind (·.zero)).map (·.cells.toList) = some [.int .i64 0, .int .i64 0] := by kernel_rfl
theorem fct43 : ((Tryz.prog.info? 71).bind (·.zero)).map (·.cells.toList) = some [.int .i64 0, .slice none 0 0] := by kernel_rfl
theorem fct44 : (Tryz.prog.info? 71).map (fun i => (i.zero, i.size, i.bytes)) = some (some (.agg #[.int .i64 0, .slice none 0 0]), 2, 32) := by kernel_rfl
theorem fct45 : ((Tryz.prog.info? 75).bind (·.zero)).map (·.cells.toList) = some [.slice none 0 0] := by kernel_rfl
/-! shorter still -/
section
variable {P : Program} {ops : Array Oper} {Q : Exit → Act → World → Prop} {rest : List Oper} {a : Act} {w : World} {o : Oper} {n : Nat} {T : List (Nat × Value)}
theorem plz (h : Oper.wp P o a w (wpList P ops Q rest) Q) (hg : o.guard = none := by rfl) : wpList P ops Q (o :: rest) a w := wpList_plain hg fun K hK => Oper.wp_mono hK h
theorem stz (ha : Has n T a) {j t : Nat} {b : Bool} (h : Oper.wp P o a w (wpList P ops Q rest) Q) (hg : o.guard = some (j, b) := by rfl) (hj : (ops[j]?).bind (·.dst) = some t := by rfl) (hb : lk T t = some (.bool b) := by rfl) (ht2 : Nat.blt t n = true := by rfl) : wpList P ops Q (o :: rest) a w := st_ge ha hg hj hb ht2 fun K hK => Oper.wp_mono hK h
theorem rtd {fn : Func} {R : Ending → World → Prop} (h : bodyPost P fn R .ret a w) (hQ : Q .ret a w = bodyPost P fn R .ret a w := by ((try dsimp only [Exit.then, Exit.inBlock]) <;> rfl)) : Code.ret.wp P Q a w := wp_ret (hQ ▸ h)
theorem wct {x y : Code} {t : Tmp} (ha : Has n T a) (h : x.wp P Q a w) (hc : lk T t = some (.bool true) := by rfl) : (Code.cond (.tmp t) x y).wp P Q a w := wp_cond_true (ha.ev (x := .tmp t) hc) h
theorem wcf {x y : Code} {t : Tmp} (ha : Has n T a) (h : y.wp P Q a w) (hc : lk T t = some (.bool false) := by rfl) : (Code.cond (.tmp t) x y).wp P Q a w := wp_cond_false (ha.ev (x := .tmp t) hc) h
theorem wsk : type_of% @wp_seq_k := @wp_seq_k
inductive KP {α : Type} (T : List (Nat × α)) : List Nat → List (Nat × α) → Prop
  | nil : KP T [] []
  | cons {t : Nat} {v : α} {l : List Nat} {T' : List (Nat × α)} (h : lk T t = some v) (k : KP T l T') : KP T (t :: l) ((t, v) :: T')
theorem KP.lk {α : Type} {T T' : List (Nat × α)} {l : List Nat} (k : KP T l T') : ∀ t v, K.lk T' t = some v → K.lk T t = some v := by
  induction k with
  | nil => intro t v h; cases h
  | cons h k ih =>
    intro t v hh
    rw [lk_cons] at hh
    split at hh
    · rename_i e; subst e; rw [← hh]; exact h
    · exact ih t v hh
theorem Has.oz (h : Has n T a) (l : List Nat) {T' : List (Nat × Value)} (k : KP T l T' := by repeat (first | exact KP.nil | (apply KP.cons; rfl))) : Has n T' a := h.sub k.lk
theorem MemOk.oz {X : Cx} {w0 : World} {M : Mm} (m : MemOk X w0 M w) (l : List Nat) {M' : Mm} (k : KP M l M' := by repeat (first | exact KP.nil | (apply KP.cons; rfl))) : MemOk X w0 M' w := m.sub k.lk
theorem gz {G K : Act → World → Prop} {L : List Oper} {T' : List (Nat × Value)} (hK : ∀ a w, G a w → K a w) (ha : Has n T a) (hc : Ch P n ops w L T [] T') (h : ∀ a', Has n T' a' → G a' w) (hQ : ∀ a, K a w → Q .normal a w := by exact fun _ h => h) : wpList P ops Q L a w := goCh ha hc fun a' ha' => hQ _ (hK _ _ (h a' ha'))
theorem rt1 (ha : Has n T a) {fn : Func} {t : Tmp} {v : Value} {R : Ending → World → Prop} (h : R (.returned v) w) (hQ : Q .ret a w = bodyPost P fn R .ret a w := by ((try dsimp only [Exit.then, Exit.inBlock]) <;> rfl)) (hr : fn.results = #[.tmp t] := by rfl) (hv : lk T t = some v := by rfl) : Code.ret.wp P Q a w := rtd (ret1 ha hr hv h) hQ
theorem rt2 (ha : Has n T a) {fn : Func} {t s : Tmp} {v u : Value} {R : Ending → World → Prop} (h : R (.returned (.tuple #[v, u])) w) (hQ : Q .ret a w = bodyPost P fn R .ret a w := by ((try dsimp only [Exit.then, Exit.inBlock]) <;> rfl)) (hr : fn.results = #[.tmp t, .tmp s] := by rfl) (hv : lk T t = some v := by rfl) (hu : lk T s = some u := by rfl) : Code.ret.wp P Q a w := rtd (ret2 ha hr hv hu h) hQ
theorem stw (ha : Has n T a) {X : Cx} {w0 : World} {M : Mm} (m : MemOk X w0 M w) (i : Nat) {g k : Nat} {t e : TypeId} {x y : Operand} {cs xs : List Value} {K : Act → World → Prop} {tt : TypeId} {pos : String} {af : Array Edge} {gd : Option (Nat × Bool)} (hs : (P.info? t).map (·.size) = some k) (h : ∀ w', MemOk X w0 ((i, .box g e xs) :: M) w' → Keep (fun b => b = g) w w' → K a w') (hm : lk M i = some (.box g e cs) := by rfl) (hx : evT T x = some (.pointer (some ⟨g, 0, none⟩)) := by rfl) (hy : evT T y = some (.agg xs.toArray) := by rfl) (h1 : xs.all (fun v => v.oneCell') = true := by rfl) (hl : xs.length = cs.length := by rfl) (hk : k = xs.length := by rfl) : Oper.wp P ⟨none, .store t x y, tt, pos, af, gd⟩ a w K Q := e_storeW ha m i hm hx hy h1 hl (hk ▸ hs) h
theorem st1 (ha : Has n T a) {X : Cx} {w0 : World} {M : Mm} (m : MemOk X w0 M w) (i : Nat) {g o : Nat} {t e : TypeId} {x y : Operand} {cs cs' : List Value} {v : Value} {K : Act → World → Prop} {tt : TypeId} {pos : String} {af : Array Edge} {gd : Option (Nat × Bool)} (hs : (P.info? t).map (·.size) = some 1) (h : ∀ w', MemOk X w0 ((i, .box g e cs') :: M) w' → Keep (fun b => b = g) w w' → K a w') (hm : lk M i = some (.box g e cs) := by rfl) (hx : evT T x = some (.pointer (some ⟨g, o, none⟩)) := by rfl) (hy : evT T y = some v := by rfl) (h1 : v.oneCell' = true := by rfl) (ho : Nat.blt o cs.length = true := by rfl) (hc : cs.set o v = cs' := by (dsimp only [List.set] <;> rfl)) : Oper.wp P ⟨none, .store t x y, tt, pos, af, gd⟩ a w K Q := e_store1 ha m i hm hx hy h1 ho hs hc h
theorem Ch.inc {L L' : List Oper} {T' : List (Nat × Value)} {dd : Tmp} {tt t t2 : TypeId} {pos : String} {af : Array Edge} {x y : Operand} {p q : Int} (r : Nat) (tl : Ch P n ops w L ((dd, (.int .i64 (r : Int))) :: T) L' T') (hx : evT T x = some (.int .i64 p) := by rfl) (hy : evT T y = some (.int .i64 q) := by rfl) (hr : IntKind.i64.wrap (p + q) = (r : Int) := by (rw [IntWalk.i64_in _ (by omega)]; omega)) (ht : Nat.blt dd n = true := by rfl) : Ch P n ops w (⟨some dd, .binOp .add t x y t2, tt, pos, af, none⟩ :: L) T L' T' := .add hx hy hr tl ht
theorem bc {G : Prop} (h : Has n T a) (t : Nat) {b : Bool} (ht : b = true → Has n ((t, .bool true) :: T) a → G) (hf : b = false → Has n ((t, .bool false) :: T) a → G) (hb : lk T t = some (.bool b) := by rfl) : G := bool_cases h hb ht hf
variable {d : Tmp} {f : FuncId} {args : Array Operand} {ats : Array TypeId} {fn : Func} {vs : List Value} {K : Act → World → Prop} {tt : TypeId} {pos : String} {af : Array Edge} {gd : Option (Nat × Bool)}
theorem ecl (ha : Has n T a) (hf : P.funcs[f]? = some fn) (hargs : evA T args.toList = some vs) {R : Ending → World → Prop} (hc : Calls P f vs.toArray w R) (h : ∀ e w', R e w' → ∃ v, e = .returned v ∧ ∀ a', Has n ((d, v) :: T) a' → K a' w') (hn : (fn.name == "runtime.NumGoroutine") = false := by rfl) (hb : fn.body.isNone = false := by rfl) (ht : Nat.blt d n = true := by rfl) : Oper.wp P ⟨some d, .call { callee := .value (.func f), args := args, argTypes := ats }, tt, pos, af, gd⟩ a w K Q := e_call ha hf hn hb hargs ht hc h
variable {X : Cx} {w0 : World} {M : Mm}
theorem ecn (ha : Has n T a) (hf : P.funcs[f]? = some fn) (hargs : evA T args.toList = some vs) (m : MemOk X w0 M w) (i : Nat) {v u : Option Addr → Nat → Value} {et : TypeId} {k : IntKind} {zs : List Int} (hc : Calls P f vs.toArray w fun e w' => ∃ p c, e = .returned (v p c) ∧ w'.ownsRow w.heap.size et 1 (u p c) zs.length (zs.map (Value.int k)) ∧ Below w.heap.size w w') (h : ∀ p c a' w', Has n ((d, v p c) :: T) a' → MemOk X w0 ((i, .num (u p c) et k zs) :: M) w' → K a' w') (hn : (fn.name == "runtime.NumGoroutine") = false := by rfl) (hb : fn.body.isNone = false := by rfl) (ht : Nat.blt d n = true := by rfl) : Oper.wp P ⟨some d, .call { callee := .value (.func f), args := args, argTypes := ats }, tt, pos, af, gd⟩ a w K Q := e_call ha hf hn hb hargs ht hc fun e w' hR => by
  obtain ⟨p, c, rfl, ho, hb⟩ := hR
  exact ⟨_, rfl, fun a' ha' => h p c a' w' ha' (m.newN i hb ho)⟩
theorem ecb (ha : Has n T a) (hf : P.funcs[f]? = some fn) (hargs : evA T args.toList = some vs) (m : MemOk X w0 M w) {v : Value} (hc : Calls P f vs.toArray w fun e w' => e = .returned v ∧ Below w.heap.size w w') (h : ∀ a' w', Has n ((d, v) :: T) a' → MemOk X w0 M w' → K a' w') (hn : (fn.name == "runtime.NumGoroutine") = false := by rfl) (hb : fn.body.isNone = false := by rfl) (ht : Nat.blt d n = true := by rfl) : Oper.wp P ⟨some d, .call { callee := .value (.func f), args := args, argTypes := ats }, tt, pos, af, gd⟩ a w K Q := e_call ha hf hn hb hargs ht hc fun e w' hR => by
  obtain ⟨rfl, hb⟩ := hR
  exact ⟨_, rfl, fun a' ha' => h a' w' ha' (m.later hb)⟩
variable {md : Region.Mode} {e fuel : Nat} {S : World → Prop} {listed : Array Bool}
theorem so (i : Nat) (h : Oper.wp P o a w (fun a' w' => S w' ∧ wpAnyE P md ops Q e S fuel (listed.setIfInBounds i true) a' w') Q) (hi : ops[i]? = some o := by rfl) (hr : Region.ready md ops listed = [i] := by kernel_rfl) (hw : Region.wanted o (yielded ops a.tmps) = true := by rfl) : wpAnyE P md ops Q e S (fuel + 1) listed a w := stepE_only i hi hr hw fun _ hK => Oper.wp_mono (fun a' w' h => hK a' w' h.1 h.2) h
theorem se (i : Nat) (h : Oper.wp P o a w (wpAnyE P md ops Q e S fuel (listed.setIfInBounds i true)) Q) (hi : ops[i]? = some o := by rfl) (hr : Region.ready md ops listed = [i] := by kernel_rfl) (hw : Region.wanted o (yielded ops a.tmps) = true := by rfl) (hl : (listed.setIfInBounds i true).getD e false = true := by rfl) : wpAnyE P md ops Q e S (fuel + 1) listed a w := stepE_end i hi hr hw hl fun _ hK => Oper.wp_mono hK h
theorem dtw (i j : Nat) {oi oj : Oper} (h1 : Oper.wp P oi a w (fun a' w' => ((listed.setIfInBounds i true).getD e false = false → S w') ∧ wpAnyE P md ops Q e S fuel (listed.setIfInBounds i true) a' w') Q) (h2 : Oper.wp P oj a w (fun a' w' => ((listed.setIfInBounds j true).getD e false = false → S w') ∧ wpAnyE P md ops Q e S fuel (listed.setIfInBounds j true) a' w') Q) (hi : ops[i]? = some oi := by rfl) (hj : ops[j]? = some oj := by rfl) (hr : Region.ready md ops listed = [i, j] := by kernel_rfl) (hwi : Region.wanted oi (Go.yielded ops a.tmps) = true := by rfl) (hwj : Region.wanted oj (Go.yielded ops a.tmps) = true := by rfl) : wpAnyE P md ops Q e S (fuel + 1) listed a w :=
  d_two i j hi hj hr hwi hwj (fun _ hK => Oper.wp_mono (fun a' w' h => hK a' w' h.1 h.2) h1) (fun _ hK => Oper.wp_mono (fun a' w' h => hK a' w' h.1 h.2) h2)
end

section
variable {P : Program} {Q : Exit → Act → World → Prop} {a : Act} {w : World} {n : Nat} {T : List (Nat × Value)}
end
end
section
def gdB (ops : Array Oper) (n : Nat) (T : List (Nat × Value)) : Option (Nat × Bool) → Bool
 | none => true
 | some (j, b) => match (ops[j]?).bind (·.dst) with
   | some t => Nat.blt t n && match lk T t with
     | some (.bool x) => x == b
     | _ => false
   | none => false
theorem gd_wanted {ops : Array Oper} {n : Nat} {T : List (Nat × Value)} {a : Act} (ha : Has n T a) {o : Oper} (h : gdB ops n T o.guard = true) : Region.wanted o (Go.yielded ops a.tmps) = true := by
 unfold gdB at h
 split at h
 · next e => simp [Region.wanted, e]
 next j b e =>
 split at h
 · next t hj =>
   rw [Bool.and_eq_true] at h
   split at h
   · next x hb =>
     obtain rfl : x = b := by simpa using h.2
     simp [Region.wanted, e, ha.yielded hj hb h.1]
   cases h.2
 cases h
inductive Cd (P : Program) (n : Nat) (ops : Array Oper) (S : World → Prop) : List (Oper × Bool) → List (Nat × Value) → List (Nat × Value) → Prop
 | nil {T : List (Nat × Value)} : Cd P n ops S [] T T
 | c {d : Tmp} {op : Op} {v : Value} {L : List (Oper × Bool)} {T T' : List (Nat × Value)} {tt : TypeId} {pos : String} {af : Array Edge} {gd : Option (Nat × Bool)} (hy : ∀ W, S W → ∀ a, Has n T a → Yl P a W ⟨some d, op, tt, pos, af, gd⟩ v) (tl : Cd P n ops S L ((d, v) :: T) T') (hg : gdB ops n T gd = true := by rfl) (ht : Nat.blt d n = true := by rfl) : Cd P n ops S ((⟨some d, op, tt, pos, af, gd⟩, true) :: L) T T'
 | p {d : Tmp} {op : Op} {v : Value} {L : List (Oper × Bool)} {T T' : List (Nat × Value)} {tt : TypeId} {pos : String} {af : Array Edge} {gd : Option (Nat × Bool)} (hy : ∀ W, ∀ a, Has n T a → Yl P a W ⟨some d, op, tt, pos, af, gd⟩ v) (tl : Cd P n ops S L ((d, v) :: T) T') (hg : gdB ops n T gd = true := by rfl) (ht : Nat.blt d n = true := by rfl) : Cd P n ops S ((⟨some d, op, tt, pos, af, gd⟩, false) :: L) T T'
 | s {d : Tmp} {op : Op} {L : List (Oper × Bool)} {T T' : List (Nat × Value)} {tt : TypeId} {pos : String} {af : Array Edge} {j t : Nat} {b : Bool} (tl : Cd P n ops S L ((d, undef) :: T) T') (hj : (ops[j]?).bind (·.dst) = some t := by rfl) (hb : lk T t = some (.bool !b) := by rfl) (ht2 : Nat.blt t n = true := by rfl) (ht : Nat.blt d n = true := by rfl) : Cd P n ops S ((⟨some d, op, tt, pos, af, some (j, b)⟩, false) :: L) T T'
 | u {d : Tmp} {op : Op} {L : List (Oper × Bool)} {T T' : List (Nat × Value)} {tt : TypeId} {pos : String} {af : Array Edge} {j t : Nat} {b : Bool} (tl : Cd P n ops S L ((d, undef) :: T) T') (hj : (ops[j]?).bind (·.dst) = some t := by rfl) (hb : lk T t = some undef := by rfl) (ht2 : Nat.blt t n = true := by rfl) (ht : Nat.blt d n = true := by rfl) : Cd P n ops S ((⟨some d, op, tt, pos, af, some (j, b)⟩, false) :: L) T T'
def opsAt (ops : Array Oper) (rs : List Nat) : List Nat → List (Oper × Bool)
 | [] => []
 | i :: is => match ops[i]? with
   | some o => (o, rs.contains i) :: opsAt ops rs is
   | none => opsAt ops rs is
def lst (s m : Nat) : Array Bool := ((List.range s).map fun i => m.testBit i).toArray
theorem lst_size (s m : Nat) : (lst s m).size = s := by simp [lst]
theorem lst_getD (s m i : Nat) (d : Bool) : (lst s m).getD i d = if i < s then m.testBit i else d := by
 unfold Array.getD
 by_cases h : i < s
 · rw [dif_pos (show i < (lst s m).size by rw [lst_size]; exact h), if_pos h]; simp [lst]
 rw [dif_neg (show ¬ i < (lst s m).size by rw [lst_size]; exact h), if_neg h]
theorem lst_set (s m i : Nat) : (lst s m).setIfInBounds i true = lst s (m ||| (1 <<< i)) := by
 apply Array.ext
 · simp [lst_size]
 intro k h1 h2
 rw [Array.getElem_setIfInBounds (by rw [lst_size]; simpa [lst_size] using h1)]
 have hk : k < s := by rw [lst_size] at h2; exact h2
 by_cases hik : i = k
 · subst hik; simp [lst, Nat.testBit_or, Nat.one_shiftLeft, Nat.testBit_two_pow_self]
 rw [if_neg hik]; simp [lst, Nat.testBit_or, Nat.one_shiftLeft, Nat.testBit_two_pow_of_ne hik]
def pairB (md : Region.Mode) (ops : Array Oper) : Bool := (List.range ops.size).all fun i => match ops[i]? with
 | none => true
 | some oi => (List.range ops.size).all fun j => j == i || match ops[j]? with
   | none => true
   | some oj => oj.after.any (fun e => Region.binds md e && e.on == i) || oi.after.any (fun e => Region.binds md e && e.on == j) || oi.apart ops oj
def rdM (md : Region.Mode) (ops : Array Oper) (e : Nat) (rs : List Nat) : Nat → List Nat → Bool
 | _, [] => true
 | m, i :: is => (match ops[i]? with
   | none => false
   | some o => !(m.testBit i) && o.after.all fun ed => !Region.binds md ed || (m.testBit ed.on && Nat.blt ed.on ops.size)) && Nat.blt i ops.size && decide (i ≠ e) && (!(rs.contains i) || (decide (ops.size ≤ e) || waits md ops e i)) && rdM md ops e rs (m ||| (1 <<< i)) is
def bitsM : Nat → List Nat → Nat
 | m, [] => m
 | m, i :: is => bitsM (m ||| (1 <<< i)) is
theorem rd_ready {md : Region.Mode} {ops : Array Oper} {m i : Nat} {o : Oper} (ho : ops[i]? = some o) (hn : m.testBit i = false) (ha : ∀ ed ∈ o.after, Region.binds md ed = true → m.testBit ed.on = true ∧ ed.on < ops.size) : i ∈ Region.ready md ops (lst ops.size m) := by
 have hi' : i < ops.size := (Array.getElem?_eq_some_iff.1 ho).1
 refine mem_ready.2 ⟨by rw [lst_getD, if_pos hi', hn], o, ho, fun ed hed hb => ?_⟩
 rw [lst_getD, if_pos (ha ed hed hb).2, (ha ed hed hb).1]
theorem pair_free {md : Region.Mode} {ops : Array Oper} {m i : Nat} {o : Oper} (hp : pairB md ops = true) (ho : ops[i]? = some o) (ha : ∀ ed ∈ o.after, Region.binds md ed = true → m.testBit ed.on = true ∧ ed.on < ops.size) : Region.free md ops (lst ops.size m) i = true := by
 simp only [pairB, List.all_eq_true, List.mem_range] at hp
 have hi := hp i (Array.getElem?_eq_some_iff.1 ho).1
 simp only [ho, List.all_eq_true, List.mem_range] at hi
 simp only [Region.free, ho, List.all_eq_true, List.mem_range]
 intro j hj
 have hij := hi j hj
 rw [lst_getD, if_pos hj]
 rw [Bool.or_eq_true] at hij
 rcases hij with h1 | h1
 · rw [h1]; simp
 cases hoj : ops[j]? with
 | none => simp
 | some oj =>
   simp only [hoj, Bool.or_eq_true] at h1
   rcases h1 with (h3 | h3) | h3
   · simp [h3]
   · obtain ⟨ed, hed, h4⟩ := Array.any_eq_true'.1 h3
     rw [Bool.and_eq_true, beq_iff_eq] at h4
     have h5 := ha ed hed h4.1
     rw [h4.2] at h5
     simp [h5.1]
   simp [h3]
theorem rd_after {md : Region.Mode} {ops : Array Oper} {m : Nat} {o : Oper} (h : (o.after.all fun ed => !Region.binds md ed || (m.testBit ed.on && Nat.blt ed.on ops.size)) = true) : ∀ ed ∈ o.after, Region.binds md ed = true → m.testBit ed.on = true ∧ ed.on < ops.size := fun ed hed hb => by
 have h5 := Array.all_eq_true_iff_forall_mem.1 h ed hed
 rw [hb] at h5
 simpa [Nat.blt_eq] using h5
section
variable {P : Program} {n : Nat} {ops : Array Oper} {Q : Exit → Act → World → Prop} {md : Region.Mode} {e fuel : Nat} {S S' : World → Prop}
theorem closedB_of {L : Array Bool} (h : Closed md ops L) : closedB md ops L = true := by
 unfold closedB
 rw [Bool.and_eq_true, decide_eq_true_eq, List.all_eq_true]
 refine ⟨h.1, fun j _ => ?_⟩
 cases hl : L.getD j false with
 | false => rfl
 | true =>
   cases ho : ops[j]? with
   | none => rfl
   | some oj =>
     simp only [Bool.not_true, Bool.false_or]
     rw [Array.all_eq_true_iff_forall_mem]
     intro ed hed
     cases hb : Region.binds md ed with
     | false => rfl
     | true => simpa using h.2 j oj ho hl ed hed hb
theorem hh : ∀ W, S W → S W := fun _ h => h
theorem stepsR (rs : List Nat) (hp : pairB md ops = true) (hs : Region.noSelect ops = true) (hQ : ∀ c a d v w, Q (.panic c) (a.put (some d) v) w → Q (.panic c) a w) : ∀ (is : List Nat) {k m : Nat} {T T' : List (Nat × Value)} {a : Act} {w : World}, is.length = k → Has n T a → (S w ∨ (Nat.testBit m e = true ∧ e < ops.size ∧ rs = [])) → (rs = [] ∨ closedB md ops (lst ops.size m) = true) → Cd P n ops S (opsAt ops rs is) T T' → rdM md ops e rs m is = true → (∀ a', Has n T' a' → wpAnyE P md ops Q e S fuel (lst ops.size (bitsM m is)) a' w) → wpAnyE P md ops Q e S (fuel + k) (lst ops.size m) a w
 | [], k, m, T, T', a, w, hk, ha, hS, hcl, hc, _, h => by
   subst hk
   cases hc
   exact h a ha
 | i :: is, k, m, T, T', a, w, hk, ha, hS, hcl, hc, hr, h => by
   subst hk
   simp only [rdM, Bool.and_eq_true] at hr
   obtain ⟨⟨⟨⟨h1, h2⟩, h4⟩, h6⟩, h7⟩ := hr
   cases ho : ops[i]? with
   | none => rw [ho] at h1; cases h1
   | some o =>
     rw [ho] at h1
     simp only [Bool.and_eq_true, Bool.not_eq_true'] at h1
     have haf := rd_after h1.2
     have hop : opsAt ops rs (i :: is) = (o, rs.contains i) :: opsAt ops rs is := by simp only [opsAt, ho]
     rw [hop] at hc
     have h4' : i ≠ e := of_decide_eq_true h4
     have hrd := rd_ready ho h1.1 haf
     have hrb : (Region.ready md ops (lst ops.size m)).contains i = true := List.contains_iff_mem.2 hrd
     have hf := pair_free hp ho haf
     have hS1 : (lst ops.size m).getD e false = false → S w := fun h => hS.elim (fun h => h) (fun h9 => by rw [lst_getD, if_pos h9.2.1, h9.1] at h; cases h)
     have hS2 : S w ∨ (Nat.testBit (m ||| (1 <<< i)) e = true ∧ e < ops.size ∧ rs = []) := hS.imp (fun h => h) (fun h9 => ⟨by rw [Nat.testBit_or, h9.1]; rfl, h9.2⟩)
     have hcl2 : rs = [] ∨ closedB md ops (lst ops.size (m ||| (1 <<< i))) = true := hcl.imp (fun h => h) (fun h => by
       have := (closedB_spec h).set hrd
       rw [lst_set] at this
       exact closedB_of this)
     have go {d : Tmp} {v : Value} (ha' : Has n ((d, v) :: T) (a.put (some d) v)) (tl : Cd P n ops S (opsAt ops rs is) ((d, v) :: T) T') : wpAnyE P md ops Q e S (fuel + is.length) ((lst ops.size m).setIfInBounds i true) (a.put (some d) v) w := by
       rw [lst_set]
       exact stepsR rs hp hs hQ is rfl ha' hS2 hcl2 tl h7 h
     generalize hb : rs.contains i = b at hc
     cases hc with
     | c hy tl hg ht =>
       rw [hb] at h6
       simp only [Bool.not_true, Bool.false_or, Bool.or_eq_true] at h6
       have hne : rs ≠ [] := fun h => by rw [h] at hb; cases hb
       have hS0 : S w := hS.elim (fun h => h) (fun h9 => absurd h9.2.2 hne)
       have hc0 := hcl.resolve_left hne
       rcases h6 with h9 | h9
       · exact stepE_held i (some _) hS0 ho rfl hs hf hrb hc0 (by rw [h9, h4]; rfl) (fun c a w => hQ c a _ _ w) (gd_wanted ha hg) (fun W hW => hy W hW a ha) (go (ha.put ht _) tl)
       exact stepE_readW i (some _) hS0 ho rfl hs hf hrb hc0 (by rw [h9, h4]; rfl) (fun c a w => hQ c a _ _ w) (gd_wanted ha hg) (fun W hW => hy W hW a ha) (go (ha.put ht _) tl)
     | p hy tl hg ht => exact stepE_any i (some _) hS1 ho rfl hs hf hrb h4 (fun c a w => hQ c a _ _ w) (gd_wanted ha hg) (fun W => hy W a ha) (go (ha.put ht _) tl)
     | s tl hj hb ht2 ht => exact stepE_skip i (some _) hS1 ho rfl hs hf hrb h4 (fun c a w => hQ c a _ _ w) (by simp [Region.wanted, ha.yielded hj hb ht2]) (go (ha.put ht _) tl)
     | u tl hj hb ht2 ht => exact stepE_skip i (some _) hS1 ho rfl hs hf hrb h4 (fun c a w => hQ c a _ _ w) (by simp [Region.wanted, ha.unyielded hj hb ht2]) (go (ha.put ht _) tl)
theorem region_p {P : Program} {a : Act} {w w0 : World} {X : Cx} {M B : Mm} {ops : Array Oper} {Q : Exit → Act → World → Prop} (e : Nat) (mB : MemOk X w0 B w) (m : MemOk X w0 M w) {id : Nat} (hm : P.follows .mixedOrders = true)
   (h : ∀ w', pairB .any ops = true → MemOk X w0 M w' → wpAnyE P .any ops Q e (MemOk X w0 B) ops.size (Array.replicate ops.size false) a w') (hp : pairB .any ops = true := by kernel_rfl) : (Code.region id ops true).wp P Q a w := region_m e mB m hm (fun w' _ m' => h w' hp m')
theorem goR (hp : pairB md ops = true) (is rs : List Nat) (k m m' : Nat) {T T' : List (Nat × Value)} {a : Act} {w : World} {listed : Array Bool} (ha : Has n T a) (hS : S w) (hc : Cd P n ops S (opsAt ops rs is) T T') (h : ∀ a', Has n T' a' → wpAnyE P md ops Q e S fuel (lst ops.size m') a' w) (hl : listed = lst ops.size m := by kernel_rfl) (hm : m' = bitsM m is := by kernel_rfl) (hk : is.length = k := by rfl) (hcl : closedB md ops (lst ops.size m) = true := by kernel_rfl) (hs : Region.noSelect ops = true := by kernel_rfl) (hr : rdM md ops e rs m is = true := by kernel_rfl) (hQ : ∀ c a d v w, Q (.panic c) (a.put (some d) v) w → Q (.panic c) a w := by exact fun _ _ _ _ _ h => h) : wpAnyE P md ops Q e S (fuel + k) listed a w := by
 subst hl; subst hm
 exact stepsR rs hp hs hQ is hk ha (.inl hS) (.inr hcl) hc hr h
theorem goA (hp : pairB md ops = true) (is : List Nat) (k m m' : Nat) {T T' : List (Nat × Value)} {a : Act} {w : World} {listed : Array Bool} (ha : Has n T a) (hS : S w) (hc : Cd P n ops S (opsAt ops [] is) T T') (h : ∀ a', Has n T' a' → wpAnyE P md ops Q e S fuel (lst ops.size m') a' w) (hl : listed = lst ops.size m := by kernel_rfl) (hm : m' = bitsM m is := by kernel_rfl) (hk : is.length = k := by rfl) (hs : Region.noSelect ops = true := by kernel_rfl) (hr : rdM md ops e [] m is = true := by kernel_rfl) (hQ : ∀ c a d v w, Q (.panic c) (a.put (some d) v) w → Q (.panic c) a w := by exact fun _ _ _ _ _ h => h) : wpAnyE P md ops Q e S (fuel + k) listed a w := by
 subst hl; subst hm
 exact stepsR [] hp hs hQ is hk ha (.inl hS) (.inl rfl) hc hr h
theorem goB (hp : pairB md ops = true) (is : List Nat) (k m m' : Nat) {T T' : List (Nat × Value)} {a : Act} {w : World} {listed : Array Bool} (ha : Has n T a) (hc : Cd P n ops S (opsAt ops [] is) T T') (h : ∀ a', Has n T' a' → wpAnyE P md ops Q e S fuel (lst ops.size m') a' w) (hl : listed = lst ops.size m := by kernel_rfl) (hm : m' = bitsM m is := by kernel_rfl) (hk : is.length = k := by rfl) (hb : (Nat.testBit m e && Nat.blt e ops.size) = true := by kernel_rfl) (hs : Region.noSelect ops = true := by kernel_rfl) (hr : rdM md ops e [] m is = true := by kernel_rfl) (hQ : ∀ c a d v w, Q (.panic c) (a.put (some d) v) w → Q (.panic c) a w := by exact fun _ _ _ _ _ h => h) : wpAnyE P md ops Q e S (fuel + k) listed a w := by
 subst hl; subst hm
 rw [Bool.and_eq_true] at hb
 exact stepsR [] hp hs hQ is hk ha (.inr ⟨hb.1, by simpa [Nat.blt_eq] using hb.2, rfl⟩) (.inl rfl) hc hr h
end
/-! short -/
section
variable {P : Program} {n : Nat} {ops : Array Oper} {S : World → Prop} {L : List (Oper × Bool)} {T T' : List (Nat × Value)} {w0 : World} {X : Cx} {M : Mm} {dd : Tmp} {tt : TypeId} {pos : String} {af : Array Edge} {gd : Option (Nat × Bool)} {x y z : Operand} {k : IntKind} {p q r : Int} {t t2 : TypeId}
theorem Cd.move {x : Operand} {v : Value} (hx : evT T x = some v) (tl : Cd P n ops S L ((dd, v) :: T) T') (hg : gdB ops n T gd = true := by rfl) (ht : Nat.blt dd n = true := by rfl) : Cd P n ops S ((⟨some dd, .move x, tt, pos, af, gd⟩, false) :: L) T T' := .p (fun W _ h => y_move h hx) tl hg ht
theorem Cd.assign {x : Operand} {v : Value} (hx : evT T x = some v) (tl : Cd P n ops S L ((dd, v) :: T) T') (hg : gdB ops n T gd = true := by rfl) (ht : Nat.blt dd n = true := by rfl) : Cd P n ops S ((⟨some dd, .assign x, tt, pos, af, gd⟩, false) :: L) T T' := .p (fun W _ h => y_assign h hx) tl hg ht
theorem Cd.pickT {c x y : Operand} {v : Value} (hc : evT T c = some (.bool true)) (hx : evT T x = some v) (tl : Cd P n ops S L ((dd, v) :: T) T') (hg : gdB ops n T gd = true := by rfl) (ht : Nat.blt dd n = true := by rfl) : Cd P n ops S ((⟨some dd, .pick c x y, tt, pos, af, gd⟩, false) :: L) T T' := .p (fun W _ h => y_pickT h hc hx) tl hg ht
theorem Cd.pickF {c x y : Operand} {v : Value} (hc : evT T c = some (.bool false)) (hx : evT T y = some v) (tl : Cd P n ops S L ((dd, v) :: T) T') (hg : gdB ops n T gd = true := by rfl) (ht : Nat.blt dd n = true := by rfl) : Cd P n ops S ((⟨some dd, .pick c x y, tt, pos, af, gd⟩, false) :: L) T T' := .p (fun W _ h => y_pickF h hc hx) tl hg ht
theorem Cd.not {t : TypeId} {x : Operand} {b : Bool} (hx : evT T x = some (.bool b)) (tl : Cd P n ops S L ((dd, (.bool !b)) :: T) T') (hg : gdB ops n T gd = true := by rfl) (ht : Nat.blt dd n = true := by rfl) : Cd P n ops S ((⟨some dd, .unOp .not t x, tt, pos, af, gd⟩, false) :: L) T T' := .p (fun W _ h => y_not h hx) tl hg ht
theorem Cd.len {t e : TypeId} {x : Operand} {p : Option Addr} {l c : Nat} (hx : evT T x = some (.slice p l c)) (hu : P.underlying t = some (.slice e)) (tl : Cd P n ops S L ((dd, (.int .i64 l)) :: T) T') (hg : gdB ops n T gd = true := by rfl) (ht : Nat.blt dd n = true := by rfl) : Cd P n ops S ((⟨some dd, .call { callee := .builtin .len, args := #[x], argTypes := #[t] }, tt, pos, af, gd⟩, false) :: L) T T' := .p (fun W _ h => y_len h hx hu) tl hg ht
theorem Cd.add (hx : evT T x = some (.int k p)) (hy : evT T y = some (.int k q)) (hr : k.wrap (p + q) = r) (tl : Cd P n ops S L ((dd, (.int k r)) :: T) T') (hg : gdB ops n T gd = true := by rfl) (ht : Nat.blt dd n = true := by rfl) : Cd P n ops S ((⟨some dd, .binOp .add t x y t2, tt, pos, af, gd⟩, false) :: L) T T' := .p (fun W _ h => y_add h hx hy hr) tl hg ht
theorem Cd.sub (hx : evT T x = some (.int k p)) (hy : evT T y = some (.int k q)) (hr : k.wrap (p - q) = r) (tl : Cd P n ops S L ((dd, (.int k r)) :: T) T') (hg : gdB ops n T gd = true := by rfl) (ht : Nat.blt dd n = true := by rfl) : Cd P n ops S ((⟨some dd, .binOp .sub t x y t2, tt, pos, af, gd⟩, false) :: L) T T' := .p (fun W _ h => y_sub h hx hy hr) tl hg ht
theorem Cd.mul (hx : evT T x = some (.int k p)) (hy : evT T y = some (.int k q)) (hr : k.wrap (p * q) = r) (tl : Cd P n ops S L ((dd, (.int k r)) :: T) T') (hg : gdB ops n T gd = true := by rfl) (ht : Nat.blt dd n = true := by rfl) : Cd P n ops S ((⟨some dd, .binOp .mul t x y t2, tt, pos, af, gd⟩, false) :: L) T T' := .p (fun W _ h => y_mul h hx hy hr) tl hg ht
theorem Cd.quo (hx : evT T x = some (.int k p)) (hy : evT T y = some (.int k q)) (h0 : q ≠ 0) (hr : k.wrap (p.tdiv q) = r) (tl : Cd P n ops S L ((dd, (.int k r)) :: T) T') (hg : gdB ops n T gd = true := by rfl) (ht : Nat.blt dd n = true := by rfl) : Cd P n ops S ((⟨some dd, .binOp .quo t x y t2, tt, pos, af, gd⟩, false) :: L) T T' := .p (fun W _ h => y_quo h hx hy h0 hr) tl hg ht
theorem Cd.rem (hx : evT T x = some (.int k p)) (hy : evT T y = some (.int k q)) (h0 : q ≠ 0) (hr : p.tmod q = r) (tl : Cd P n ops S L ((dd, (.int k r)) :: T) T') (hg : gdB ops n T gd = true := by rfl) (ht : Nat.blt dd n = true := by rfl) : Cd P n ops S ((⟨some dd, .binOp .rem t x y t2, tt, pos, af, gd⟩, false) :: L) T T' := .p (fun W _ h => y_rem h hx hy h0 hr) tl hg ht
theorem Cd.and (hx : evT T x = some (.int k p)) (hy : evT T y = some (.int k q)) (hr : k.wrap (BitVec.ofInt k.bits p &&& BitVec.ofInt k.bits q).toNat = r) (tl : Cd P n ops S L ((dd, (.int k r)) :: T) T') (hg : gdB ops n T gd = true := by rfl) (ht : Nat.blt dd n = true := by rfl) : Cd P n ops S ((⟨some dd, .binOp .and t x y t2, tt, pos, af, gd⟩, false) :: L) T T' := .p (fun W _ h => y_and h hx hy hr) tl hg ht
theorem Cd.or (hx : evT T x = some (.int k p)) (hy : evT T y = some (.int k q)) (hr : k.wrap (BitVec.ofInt k.bits p ||| BitVec.ofInt k.bits q).toNat = r) (tl : Cd P n ops S L ((dd, (.int k r)) :: T) T') (hg : gdB ops n T gd = true := by rfl) (ht : Nat.blt dd n = true := by rfl) : Cd P n ops S ((⟨some dd, .binOp .or t x y t2, tt, pos, af, gd⟩, false) :: L) T T' := .p (fun W _ h => y_or h hx hy hr) tl hg ht
theorem Cd.shl {yk : IntKind} (hx : evT T x = some (.int k p)) (hy : evT T y = some (.int yk q)) (h0 : 0 ≤ q) (hr : k.wrap (p * 2 ^ min q.toNat k.bits) = r) (tl : Cd P n ops S L ((dd, (.int k r)) :: T) T') (hg : gdB ops n T gd = true := by rfl) (ht : Nat.blt dd n = true := by rfl) : Cd P n ops S ((⟨some dd, .binOp .shl t x y t2, tt, pos, af, gd⟩, false) :: L) T T' := .p (fun W _ h => y_shl h hx hy h0 hr) tl hg ht
theorem Cd.shr {yk : IntKind} (hx : evT T x = some (.int k p)) (hy : evT T y = some (.int yk q)) (h0 : 0 ≤ q) (hr : p.fdiv (2 ^ min q.toNat k.bits) = r) (tl : Cd P n ops S L ((dd, (.int k r)) :: T) T') (hg : gdB ops n T gd = true := by rfl) (ht : Nat.blt dd n = true := by rfl) : Cd P n ops S ((⟨some dd, .binOp .shr t x y t2, tt, pos, af, gd⟩, false) :: L) T T' := .p (fun W _ h => y_shr h hx hy h0 hr) tl hg ht
theorem Cd.lss (hx : evT T x = some (.int k p)) (hy : evT T y = some (.int k q)) (tl : Cd P n ops S L ((dd, (.bool (decide (p < q)))) :: T) T') (hg : gdB ops n T gd = true := by rfl) (ht : Nat.blt dd n = true := by rfl) : Cd P n ops S ((⟨some dd, .binOp .lss t x y t2, tt, pos, af, gd⟩, false) :: L) T T' := .p (fun W _ h => y_lss h hx hy) tl hg ht
theorem Cd.leq (hx : evT T x = some (.int k p)) (hy : evT T y = some (.int k q)) (tl : Cd P n ops S L ((dd, (.bool (decide (p ≤ q)))) :: T) T') (hg : gdB ops n T gd = true := by rfl) (ht : Nat.blt dd n = true := by rfl) : Cd P n ops S ((⟨some dd, .binOp .leq t x y t2, tt, pos, af, gd⟩, false) :: L) T T' := .p (fun W _ h => y_leq h hx hy) tl hg ht
theorem Cd.gtr (hx : evT T x = some (.int k p)) (hy : evT T y = some (.int k q)) (tl : Cd P n ops S L ((dd, (.bool (decide (q < p)))) :: T) T') (hg : gdB ops n T gd = true := by rfl) (ht : Nat.blt dd n = true := by rfl) : Cd P n ops S ((⟨some dd, .binOp .gtr t x y t2, tt, pos, af, gd⟩, false) :: L) T T' := .p (fun W _ h => y_gtr h hx hy) tl hg ht
theorem Cd.geq (hx : evT T x = some (.int k p)) (hy : evT T y = some (.int k q)) (tl : Cd P n ops S L ((dd, (.bool (decide (q ≤ p)))) :: T) T') (hg : gdB ops n T gd = true := by rfl) (ht : Nat.blt dd n = true := by rfl) : Cd P n ops S ((⟨some dd, .binOp .geq t x y t2, tt, pos, af, gd⟩, false) :: L) T T' := .p (fun W _ h => y_geq h hx hy) tl hg ht
theorem Cd.eql (hx : evT T x = some (.int k p)) (hy : evT T y = some (.int k q)) (tl : Cd P n ops S L ((dd, (.bool (decide (p = q)))) :: T) T') (hg : gdB ops n T gd = true := by rfl) (ht : Nat.blt dd n = true := by rfl) : Cd P n ops S ((⟨some dd, .binOp .eql t x y t2, tt, pos, af, gd⟩, false) :: L) T T' := .p (fun W _ h => y_eql h hx hy) tl hg ht
theorem Cd.neq (hx : evT T x = some (.int k p)) (hy : evT T y = some (.int k q)) (tl : Cd P n ops S L ((dd, (.bool (decide (p ≠ q)))) :: T) T') (hg : gdB ops n T gd = true := by rfl) (ht : Nat.blt dd n = true := by rfl) : Cd P n ops S ((⟨some dd, .binOp .neq t x y t2, tt, pos, af, gd⟩, false) :: L) T T' := .p (fun W _ h => y_neq h hx hy) tl hg ht
theorem Cd.neqB {b c : Bool} (hx : evT T x = some (.bool b)) (hy : evT T y = some (.bool c)) (hu : P.underlying t = some .bool) (tl : Cd P n ops S L ((dd, (.bool (!(b == c)))) :: T) T') (hg : gdB ops n T gd = true := by rfl) (ht : Nat.blt dd n = true := by rfl) : Cd P n ops S ((⟨some dd, .binOp .neq t x y t2, tt, pos, af, gd⟩, false) :: L) T T' := .p (fun W _ h => y_neqB h hx hy hu) tl hg ht
theorem Cd.neqS {b c : ByteArray} (hx : evT T x = some (.string b)) (hy : evT T y = some (.string c)) (tl : Cd P n ops S L ((dd, (.bool (!(b.toList == c.toList)))) :: T) T') (hg : gdB ops n T gd = true := by rfl) (ht : Nat.blt dd n = true := by rfl) : Cd P n ops S ((⟨some dd, .binOp .neq t x y t2, tt, pos, af, gd⟩, false) :: L) T T' := .p (fun W _ h => y_neqS h hx hy) tl hg ht
theorem Cd.eqlP {e : TypeId} {b : Option Addr} (hx : evT T x = some (.pointer b)) (hy : evT T y = some (.pointer none)) (hu : P.underlying t = some (.pointer e)) (tl : Cd P n ops S L ((dd, (.bool b.isNone)) :: T) T') (hg : gdB ops n T gd = true := by rfl) (ht : Nat.blt dd n = true := by rfl) : Cd P n ops S ((⟨some dd, .binOp .eql t x y t2, tt, pos, af, gd⟩, false) :: L) T T' := .p (fun W _ h => y_eqlP h hx hy hu) tl hg ht
theorem Cd.conv {s e : TypeId} {k' : IntKind} {ds : TypeDesc} (hx : evT T x = some (.int k p)) (hs : P.underlying s = some ds) (hd : P.underlying e = some (.int k')) (hr : k'.wrap p = r) (tl : Cd P n ops S L ((dd, (.int k' r)) :: T) T') (hg : gdB ops n T gd = true := by rfl) (ht : Nat.blt dd n = true := by rfl) : Cd P n ops S ((⟨some dd, .convert s e x, tt, pos, af, gd⟩, false) :: L) T T' := .p (fun W _ h => y_conv h hx hs hd hr) tl hg ht
theorem Cd.extract {x : Operand} {vs : Array Value} {i : Nat} {v : Value} (hx : evT T x = some (.tuple vs)) (hv : nthL vs.toList i = some v) (tl : Cd P n ops S L ((dd, v) :: T) T') (hg : gdB ops n T gd = true := by rfl) (ht : Nat.blt dd n = true := by rfl) : Cd P n ops S ((⟨some dd, .extract x i, tt, pos, af, gd⟩, false) :: L) T T' := .p (fun W _ h => y_extract h hx hv) tl hg ht
theorem Cd.nilCheck {x : Operand} {p : Addr} (hx : evT T x = some (.pointer (some p))) (tl : Cd P n ops S L ((dd, (.pointer (some p))) :: T) T') (hg : gdB ops n T gd = true := by rfl) (ht : Nat.blt dd n = true := by rfl) : Cd P n ops S ((⟨some dd, .nilCheck x, tt, pos, af, gd⟩, false) :: L) T T' := .p (fun W _ h => y_nilCheck h hx) tl hg ht
theorem Cd.fieldAddr {t : TypeId} {x : Operand} {i g o : Nat} {fs : Array Field} {f : Field} {s off : Nat} (hx : evT T x = some (.pointer (some ⟨g, o, none⟩))) (hu : P.underlying t = some (.struct fs)) (hf : fs[i]? = some f) (hs : (P.info? f.type).map (·.size) = some (s + 1)) (ho : o + f.offset = off) (tl : Cd P n ops S L ((dd, (.pointer (some ⟨g, off, none⟩))) :: T) T') (hg : gdB ops n T gd = true := by rfl) (ht : Nat.blt dd n = true := by rfl) : Cd P n ops S ((⟨some dd, .fieldAddr t x i, tt, pos, af, gd⟩, false) :: L) T T' := .p (fun W _ h => y_fieldAddr h hx hu hf hs ho) tl hg ht
theorem Cd.fieldAddrQ {t : TypeId} {x : Operand} {i g o : Nat} {fs : Array Field} {f : Field} {s : Nat} (q : Nat) (hx : evT T x = some (.pointer (some ⟨g, o, none⟩))) (hu : P.underlying t = some (.struct fs)) (hf : fs[i]? = some f) (hs : (P.info? f.type).map (·.size) = some (s + 1)) (hq : f.offset = q) (tl : Cd P n ops S L ((dd, (.pointer (some ⟨g, o + q, none⟩))) :: T) T') (hg : gdB ops n T gd = true := by rfl) (ht : Nat.blt dd n = true := by rfl) : Cd P n ops S ((⟨some dd, .fieldAddr t x i, tt, pos, af, gd⟩, false) :: L) T T' := .p (fun W _ h => y_fieldAddrQ h q hx hu hf hs hq) tl hg ht
theorem Cd.build {t : TypeId} {parts : Array (Nat × Operand)} {z cs : List Value} {pl : List (Nat × Value)} (hp : K.evP T parts.toList = some pl) (hz : ((P.info? t).bind (·.zero)).map (·.cells.toList) = some z) (hf : flatS P t z = true) (h1 : pl.all (fun p => decide (p.1 < z.length) && p.2.oneCell') = true) (hc : setL z pl = cs) (tl : Cd P n ops S L ((dd, (.agg cs.toArray)) :: T) T') (hg : gdB ops n T gd = true := by rfl) (ht : Nat.blt dd n = true := by rfl) : Cd P n ops S ((⟨some dd, .build t parts, tt, pos, af, gd⟩, false) :: L) T T' := .p (fun W _ h => y_build h hp hz hf h1 hc) tl hg ht
theorem Cd.loadB1 (m : ∀ W, S W → MemOk X w0 M W) {t : TypeId} {td : TypeDesc} {x : Operand} {i g o : Nat} {e : TypeId} {cs : List Value} {v : Value} (hm : lk M i = some (.box g e cs)) (hx : evT T x = some (.pointer (some ⟨g, o, none⟩))) (hv : cs[o]? = some v) (hu : P.underlying t = some td) (hr : td.isRow = false) (tl : Cd P n ops S L ((dd, v) :: T) T') (hg : gdB ops n T gd = true := by rfl) (ht : Nat.blt dd n = true := by rfl) : Cd P n ops S ((⟨some dd, .load t x, tt, pos, af, gd⟩, true) :: L) T T' := .c (fun W hW _ h => y_loadB1 h (m W hW) hm hx hv hu hr) tl hg ht
theorem Cd.loadBR (m : ∀ W, S W → MemOk X w0 M W) {t : TypeId} {td : TypeDesc} {x : Operand} {i g o k : Nat} {e : TypeId} {cs vs : List Value} (hm : lk M i = some (.box g e cs)) (hx : evT T x = some (.pointer (some ⟨g, o, none⟩))) (hu : P.underlying t = some td) (hr : td.isRow = true) (hs : (P.info? t).map (·.size) = some k) (hk : o + k ≤ cs.length) (hv : (cs.drop o).take k = vs) (tl : Cd P n ops S L ((dd, (.agg vs.toArray)) :: T) T') (hg : gdB ops n T gd = true := by rfl) (ht : Nat.blt dd n = true := by rfl) : Cd P n ops S ((⟨some dd, .load t x, tt, pos, af, gd⟩, true) :: L) T T' := .c (fun W hW _ h => y_loadBR h (m W hW) hm hx hu hr hs hk hv) tl hg ht
theorem Cd.loadC1 (m : ∀ W, S W → MemOk X w0 M W) {t : TypeId} {td : TypeDesc} {x : Operand} {i b o q : Nat} {vs : List Value} {v : Value} (hm : lk M i = some (.cel b o vs)) (hx : evT T x = some (.pointer (some ⟨b, o + q, none⟩))) (hv : vs[q]? = some v) (hu : P.underlying t = some td) (hr : td.isRow = false) (tl : Cd P n ops S L ((dd, v) :: T) T') (hg : gdB ops n T gd = true := by rfl) (ht : Nat.blt dd n = true := by rfl) : Cd P n ops S ((⟨some dd, .load t x, tt, pos, af, gd⟩, true) :: L) T T' := .c (fun W hW _ h => y_loadC1 h (m W hW) hm hx hv hu hr) tl hg ht
theorem Cd.loadC0 (m : ∀ W, S W → MemOk X w0 M W) {t : TypeId} {td : TypeDesc} {x : Operand} {i b o : Nat} {vs : List Value} {v : Value} (hm : lk M i = some (.cel b o (v :: vs))) (hx : evT T x = some (.pointer (some ⟨b, o, none⟩))) (hu : P.underlying t = some td) (hr : td.isRow = false) (tl : Cd P n ops S L ((dd, v) :: T) T') (hg : gdB ops n T gd = true := by rfl) (ht : Nat.blt dd n = true := by rfl) : Cd P n ops S ((⟨some dd, .load t x, tt, pos, af, gd⟩, true) :: L) T T' := .c (fun W hW _ h => y_loadC0 h (m W hW) hm hx hu hr) tl hg ht
theorem Cd.loadCR (m : ∀ W, S W → MemOk X w0 M W) {t : TypeId} {td : TypeDesc} {x : Operand} {i b o : Nat} {vs : List Value} (hm : lk M i = some (.cel b o vs)) (hx : evT T x = some (.pointer (some ⟨b, o, none⟩))) (hu : P.underlying t = some td) (hr : td.isRow = true) (hs : (P.info? t).map (·.size) = some vs.length) (tl : Cd P n ops S L ((dd, (.agg vs.toArray)) :: T) T') (hg : gdB ops n T gd = true := by rfl) (ht : Nat.blt dd n = true := by rfl) : Cd P n ops S ((⟨some dd, .load t x, tt, pos, af, gd⟩, true) :: L) T T' := .c (fun W hW _ h => y_loadCR h (m W hW) hm hx hu hr hs) tl hg ht
theorem Cd.str {s t e : TypeId} {x : Operand} {v : Value} {bs : List Int} (hx : evT T x = some v) (hv : ∀ W, S W → IsNums .u8 W v bs) (hs : P.underlying s = some (.slice e)) (he : P.underlying e = some (.int .u8)) (hd : P.underlying t = some .string) (tl : Cd P n ops S L ((dd, (.string (strOfNums bs))) :: T) T') (hg : gdB ops n T gd = true := by rfl) (ht : Nat.blt dd n = true := by rfl) : Cd P n ops S ((⟨some dd, .convert s t x, tt, pos, af, gd⟩, true) :: L) T T' := .c (fun W hW _ h => y_str h hx (hv W hW) hs he hd) tl hg ht
theorem Cd.loadAt {t : TypeId} {td : TypeDesc} {x : Operand} {b o : Nat} {vs : List Value} (hr : ∀ W, S W → W.rangeAt b o vs) (hx : evT T x = some (.pointer (some ⟨b, o, none⟩))) (hu : P.underlying t = some td) (hd : td.isRow = true) (hs : (P.info? t).map (·.size) = some vs.length) (tl : Cd P n ops S L ((dd, (.agg vs.toArray)) :: T) T') (hg : gdB ops n T gd = true := by rfl) (ht : Nat.blt dd n = true := by rfl) : Cd P n ops S ((⟨some dd, .load t x, tt, pos, af, gd⟩, true) :: L) T T' := .c (fun W hW _ h => y_loadAt h (hr W hW) hx hu hd hs) tl hg ht
theorem Cd.loadAt1 {t : TypeId} {td : TypeDesc} {x : Operand} {b o q q' : Nat} {vs : List Value} {v : Value} (hr : ∀ W, S W → W.rangeAt b o vs) (hx : evT T x = some (.pointer (some ⟨b, q', none⟩))) (hq : q' = o + q) (hv : nthL vs q = some v) (hu : P.underlying t = some td) (hd : td.isRow = false) (tl : Cd P n ops S L ((dd, v) :: T) T') (hg : gdB ops n T gd = true := by rfl) (ht : Nat.blt dd n = true := by rfl) : Cd P n ops S ((⟨some dd, .load t x, tt, pos, af, gd⟩, true) :: L) T T' := .c (fun W hW _ h => y_loadAt1 h (hr W hW) hx hq hv hu hd) tl hg ht
theorem Cd.cap {t e : TypeId} {x : Operand} {p : Option Addr} {l c : Nat} (hx : evT T x = some (.slice p l c)) (hu : P.underlying t = some (.slice e)) (tl : Cd P n ops S L ((dd, (.int .i64 c)) :: T) T') (hg : gdB ops n T gd = true := by rfl) (ht : Nat.blt dd n = true := by rfl) : Cd P n ops S ((⟨some dd, .call { callee := .builtin .cap, args := #[x], argTypes := #[t] }, tt, pos, af, gd⟩, false) :: L) T T' := .p (fun W _ h => y_cap h hx hu) tl hg ht
end
section
variable {P : Program} {n : Nat} {ops : Array Oper} {S : World → Prop} {L : List (Oper × Bool)} {T T' : List (Nat × Value)} {w0 : World} {X : Cx} {M : Mm} {dd : Tmp} {tt : TypeId} {pos : String} {af : Array Edge} {gd : Option (Nat × Bool)}
theorem Cd.fa {t : TypeId} {x : Operand} {i g o : Nat} {fs : Array Field} {f : Field} (off : Nat) (hx : evT T x = some (.pointer (some ⟨g, o, none⟩))) (hu : P.underlying t = some (.struct fs)) (tl : Cd P n ops S L ((dd, (.pointer (some ⟨g, off, none⟩))) :: T) T') (hf : fs[i]? = some f := by rfl) (hs : (P.info? f.type).map (·.size) = some (0 + 1) := by kernel_rfl) (ho : o + f.offset = off := by rfl) (hg : gdB ops n T gd = true := by rfl) (ht : Nat.blt dd n = true := by rfl) : Cd P n ops S ((⟨some dd, .fieldAddr t x i, tt, pos, af, gd⟩, false) :: L) T T' := .p (fun W _ h => y_fieldAddr h hx hu hf hs ho) tl hg ht
theorem Cd.lb (m : ∀ W, S W → MemOk X w0 M W) (i : Nat) {t : TypeId} {td : TypeDesc} {x : Operand} {g o : Nat} {e : TypeId} {cs : List Value} {v : Value} (hu : P.underlying t = some td) (hx : evT T x = some (.pointer (some ⟨g, o, none⟩))) (hm : lk M i = some (.box g e cs)) (hv : cs[o]? = some v) (tl : Cd P n ops S L ((dd, v) :: T) T') (hr : td.isRow = false := by rfl) (hg : gdB ops n T gd = true := by rfl) (ht : Nat.blt dd n = true := by rfl) : Cd P n ops S ((⟨some dd, .load t x, tt, pos, af, gd⟩, true) :: L) T T' := .c (fun W hW _ h => y_loadB1 h (m W hW) hm hx hv hu hr) tl hg ht
end
end
section
def PlaceOk (bl pe : Int) (place : List Int) : Prop := (∀ g ∈ place, 1 ≤ g ∧ g ≤ 7) ∧ (place.length : Int) = (bl + pe - 1) / pe
def NewOk (vo bl sz pe to : Int) (place : List Int) : Prop := 0 ≤ vo ∧ vo ≤ 7 ∧ 1 ≤ bl ∧ bl ≤ 256 ∧ 1 ≤ sz ∧ sz ≤ 32 ∧ 1 ≤ pe ∧ pe ≤ bl ∧ PlaceOk bl pe place ∧ 0 ≤ to ∧ to ≤ 1099511627776
theorem getD_mem {l : List Int} {k : Nat} (h : k < l.length) : l.getD k 0 ∈ l := by rw [List.getD, List.getElem?_eq_getElem h]; exact List.getElem_mem _
theorem all_snoc {l : List Int} {k : Nat} {P : Int → Prop} (h : ∀ j, j < k → P (l.getD j 0)) (hk : P (l.getD k 0)) : ∀ j, j < k + 1 → P (l.getD j 0) := fun j hj => by
 rcases Nat.lt_or_ge j k with h1 | h1
 · exact h j h1
 obtain rfl : j = k := by omega
 exact hk
theorem all_mem {l : List Int} {P : Int → Prop} (h : ∀ j, j < l.length → P (l.getD j 0)) : ∀ g ∈ l, P g := fun g hg => by
 obtain ⟨j, hj, rfl⟩ := List.getElem_of_mem hg
 have := h j hj
 rwa [List.getD, List.getElem?_eq_getElem hj] at this
set_option maxRecDepth 100000
set_option maxHeartbeats 4000000
theorem within_any (n lo hi : Int) (w0 : World) :
   Calls Tryz.prog 100 #[.int .i64 n, .int .i64 lo, .int .i64 hi] w0 fun e w' => e = .returned (.bool (decide (lo ≤ n ∧ n ≤ hi))) ∧ Below w0.heap.size w0 w' := by
 refine ent3 Tryz.func100 rfl Tryz.ntmps100 fun Az Hz => ?_
 have m0 := MemOk.start (fun _ => False) w0
 refine regS Hz (.assign rfl .nil) fun Az Hz => ?_
 refine zsr fun K0 hK0 => ?_
 refine goCh Hz (.move rfl <| .move rfl <| .geq rfl rfl <| .move rfl .nil) fun Az Hz => ?_
 refine bc Hz 10 ?_ ?_
 ·
  intro hb10 Hz; try simp only [QQ, Qax] at hb10
  refine gz hK0 Hz (.moveZ rfl <| .moveZ rfl <| .leqZ rfl rfl <| .pickT rfl rfl <| .assign rfl <| .nil) fun Az Hz => ?_
  refine rt1 Hz ?_
  exact ⟨by first | rfl | (simp_all; done) | (simp_all; omega), m0.below⟩
 intro hb10 Hz; try simp only [QQ, Qax] at hb10
 refine gz hK0 Hz (.sk <| .sk <| .sk <| .pickF rfl rfl <| .assign rfl <| .nil) fun Az Hz => ?_
 refine rt1 Hz ?_
 exact ⟨by first | rfl | (simp_all; done) | (simp_all; omega), m0.below⟩
theorem chunks_any (a b : Int) (w0 : World) (ha : 0 ≤ a ∧ a ≤ 1000000) (hb : 1 ≤ b ∧ b ≤ 1000000) :
   Calls Tryz.prog 65 #[.int .i64 a, .int .i64 b] w0 fun e w' => e = .returned (.int .i64 ((a + b - 1) / b)) ∧ Below w0.heap.size w0 w' := by
 refine ent2 Tryz.func65 rfl Tryz.ntmps65 fun Az Hz => ?_
 have m0 := MemOk.start (fun _ => False) w0
 refine regS Hz (.assign rfl .nil) fun Az Hz => ?_
 refine regS Hz (.move rfl <| .move rfl <| .add rfl rfl (r := a + b) (IntWalk.i64_in _ (by omega)) <| .sub rfl rfl (r := a + b - 1) (IntWalk.i64_in _ (by omega)) <| .move rfl <| .quo rfl rfl (by omega) (r := (a + b - 1) / b) (by rw [Int.tdiv_eq_ediv_of_nonneg (by omega)]; exact IntWalk.i64_in _ (by have := Int.ediv_le_self b (show 0 ≤ a + b - 1 by omega); have := Int.ediv_nonneg (show 0 ≤ a + b - 1 by omega) (show 0 ≤ b by omega); omega)) <| .assign rfl .nil) fun Az Hz => ?_
 refine rt1 Hz ?_
 exact ⟨rfl, m0.below⟩
theorem vlen_any (vo bl sz pe to ne fl : Int) (hi : Bool) (pp pn pw : Option Addr) (np cp nn cn nw cw : Nat) (w0 : World) :
   Calls Tryz.prog 69 #[.agg #[.int .i64 vo, .int .i64 bl, .int .i64 sz, .int .i64 pe, .slice pp np cp, .int .i64 to, .int .i64 ne, .bool hi, .int .i64 fl, .slice pn nn cn, .slice pw nw cw]] w0 fun e w' => e = .returned (.int .i64 (nw : Int)) ∧ Below w0.heap.size w0 w' := by
 refine ent1 Tryz.func69 rfl Tryz.ntmps69 fun Az Hz => ?_
 have m0 := MemOk.start (fun _ => False) w0
 refine zsr fun K0 hK0 => ?_
 refine plz (e_box Hz m0 4 (cs := [_, _, _, _, _, _, _, _, _, _, _]) rfl rfl rfl fun g1 Az w2 Hz m2 _ _ => ?_)
 refine gz hK0 Hz (.assign rfl .nil) fun Az Hz => ?_
 refine regS Hz (.fa 10 rfl U33 <| .lb m2 4 U31 rfl rfl rfl <| .len rfl U31 <| .assign rfl .nil) fun Az Hz => ?_
 refine rt1 Hz ?_
 exact ⟨rfl, m2.below⟩
end
section
def itD (x : Int × List Int) : List D := [.v (.int .i64 x.1), .ns .u8 x.2]
def wrD (x : Int × List (Int × List Int)) : List D := [.v (.int .i64 x.1), .l 2 (x.2.map itD)]
theorem itD_get {A : List (Int × List Int)} {k : Nat} {b : Int} {d : List Int} (h : A[k]? = some (b, d)) : (A.map itD)[k]? = some [.v (.int .i64 b), .ns .u8 d] := by simp [h, itD]
theorem wrD_get {A : List (Int × List (Int × List Int))} {k : Nat} {b : Int} {d : List (Int × List Int)} (h : A[k]? = some (b, d)) : (A.map wrD)[k]? = some [.v (.int .i64 b), .l 2 (d.map itD)] := by simp [h, wrD]
def ItsOk (es : List (Int × List Int)) : Prop := ∀ e ∈ es, e.2.length ≤ 140737488351232
def WrsOk (ws : List (Int × List (Int × List Int))) : Prop := ∀ e ∈ ws, e.2.length ≤ 1000000 ∧ ItsOk e.2
theorem take_snoc {α : Type} {l : List α} {k : Nat} {x : α} (h : l[k]? = some x) : l.take (k + 1) = l.take k ++ [x] := by
 obtain ⟨hk, e⟩ := List.getElem?_eq_some_iff.1 h
 rw [List.take_succ_eq_append_getElem hk, e]
theorem rowNil {N : Nat} {S : Nat → Prop} {w : World} {v : Value} {e : TypeId} {k : Nat} (h : w.ownsRow N e k v 0 []) : RowOk N S w v e k [] := ⟨[], by simpa using h, rfl, by simp, by simp, by simp⟩
set_option maxRecDepth 100000
set_option maxHeartbeats 4000000
theorem plainB_any (d : List Int) (p0 : Option Addr) (c0 : Nat) (w0 : World) (h0 : Rd (fun _ => True) w0 (.slice p0 d.length c0) (.ns .u8 d)) (hd : d.length ≤ 140737488351232) :
   Calls Tryz.prog 101 #[.slice p0 d.length c0] w0 fun e w' => ∃ p c, e = .returned (.slice p d.length c) ∧ Rd (New w0) w' (.slice p d.length c) (.ns .u8 d) ∧ Below w0.heap.size w0 w' := by
 refine ent1 Tryz.func101 rfl Tryz.ntmps101 fun Az Hz => ?_
 have m0 := MemOk.start (fun _ => False) w0
 refine regS Hz (.assign rfl .nil) fun Az Hz => ?_
 refine zsr fun K0 hK0 => ?_
 refine goCh Hz (.move rfl .nil) fun Az Hz => ?_
 refine plz (e_app0M Hz m0 2 rfl rfl (h0.now' m0 rfl).ns_out.nums U22 fct19 (by decide) (by omega) rfl fun p4 c4 Az w5 Hz m5 => ?_)
 refine gz hK0 Hz (.assign rfl .nil) fun Az Hz => ?_
 refine rt1 Hz ?_
 have m7 := m5.freezeN 2 rfl
 exact ⟨_, _, rfl, m7.outF (i := 2) rfl, m7.below⟩
end
section
theorem Rise.low {h : List Ver} (hr : Rise h) {t : Int} {j q : Nat} (hj : j < h.length) (hle : (h.getD j v0).1 ≤ t) (hq : q ≤ j) : (h.getD q v0).1 ≤ t := by
 rcases Nat.lt_or_ge q j with h1 | h1
 · have := hr.lt h1 hj; omega
 obtain rfl : q = j := by omega
 exact hle
theorem Rise.high {h : List Ver} (hr : Rise h) {t : Int} {j q : Nat} (hq : q < h.length) (hgt : t < (h.getD j v0).1) (hj : j ≤ q) : t < (h.getD q v0).1 := by
 rcases Nat.lt_or_ge j q with h1 | h1
 · have := hr.lt h1 hq; omega
 obtain rfl : j = q := by omega
 exact hgt
set_option maxRecDepth 100000
set_option maxHeartbeats 4000000
theorem upc_x (X : Cx) (B1 B2 : Nat) (h : List Ver) (t : Int) (i : Nat) (p : Option Addr) (c : Nat) (w0 : World) (hi : i < h.length) (m0 : MemOk X w0 [(1, .box B1 69 [.slice p h.length c]), (2, .box B2 2 [.int .i64 t]), (3, .dat (.slice p h.length c) (.l 2 (h.map itD)))] w0) :
   Calls Tryz.prog 126 #[.int .i64 i, .pointer (some ⟨B1, 0, none⟩), .pointer (some ⟨B2, 0, none⟩)] w0 fun e w' => e = .returned (.bool (decide ((h.getD i v0).1 > t))) ∧ MemOk X w0 [(1, .box B1 69 [.slice p h.length c]), (2, .box B2 2 [.int .i64 t]), (3, .dat (.slice p h.length c) (.l 2 (h.map itD)))] w' := by
 refine ent3 Tryz.func126 rfl Tryz.ntmps126 fun Az Hz => ?_
 obtain ⟨⟨xs, xd⟩, hes⟩ : ∃ e, h[i]? = some e := ⟨_, List.getElem?_eq_getElem hi⟩
 refine regS Hz (.assign rfl .nil) fun Az Hz => ?_
 refine wsk fun K0 hK0 => ?_
 obtain ⟨b2, o2, vs2, hp2, hR2, ho2, m2⟩ := m0.openR (i := 3) rfl (i) (r := [.v (.int .i64 xs), .ns .u8 xd]) (itD_get hes) 20 rfl
 revert Hz
 cases hp2; clear m0 ho2
 rcases hR2 with _ | ⟨hd2_0, _ | ⟨hd2_1, _ | _⟩⟩
 obtain rfl := hd2_0.v_out
 clear hd2_0
 obtain ⟨p3, c3, hv3, hc3⟩ := hd2_1.ns_shape; subst hv3
 intro Hz
 have m3 := m2.dat 21 rfl (hd2_1.cast (fun _ h => (free_add rfl h))); clear m2 hd2_1
 have m4 := m3.oz [1, 2, 3, 20, 21]
 refine region_p 8 (B := [(1, _), (2, _), (3, _), (20, _), (21, _)]) (m4.to ⟨il, il, il, il, il, trivial⟩) m4 (by kernel_rfl) (fun w5 hP5 m5 => ?_); clear m4
 refine goR hP5 [0, 1, 2, 3, 4, 5, 6, 7] [0, 4, 5] 8 0 255 Hz (m5.to ⟨il, il, il, il, il, trivial⟩) (.lb hh 1 U69 rfl rfl rfl <| .move rfl <| .p (fun _ _ h_ => y_idx h_ rfl rfl U69 fct0 (i) rfl hi) <| .fieldAddrQ 0 rfl U71 rfl (s := 0) (by kernel_rfl) rfl <| .loadC0 hh (i := 20) rfl rfl U2 rfl <| .lb hh 2 U2 rfl rfl rfl <| .gtr rfl rfl <| .assign rfl .nil) fun Az Hz => ?_
 refine wpAnyE_done (by kernel_rfl) ?_ _
 refine hK0 _ _ ?_
 refine rt1 Hz ?_
 exact ⟨by rw [show (h.getD i v0).1 = xs by rw [List.getD, hes]; rfl], m5.only [1, 2, 3]⟩
theorem search_x (X : Cx) (B1 B2 : Nat) (h : List Ver) (t : Int) (p : Option Addr) (c : Nat) (w0 : World) (hl : h.length ≤ 1000000) (hr : Rise h) (m0 : MemOk X w0 [(1, .box B1 69 [.slice p h.length c]), (2, .box B2 2 [.int .i64 t]), (3, .dat (.slice p h.length c) (.l 2 (h.map itD)))] w0) :
   Calls Tryz.prog 125 #[.int .i64 h.length, .func (.func 126) #[] #[.pointer (some ⟨B1, 0, none⟩), .pointer (some ⟨B2, 0, none⟩)]] w0 fun e w' => e = .returned (.int .i64 (upN h t)) ∧ MemOk X w0 [(1, .box B1 69 [.slice p h.length c]), (2, .box B2 2 [.int .i64 t]), (3, .dat (.slice p h.length c) (.l 2 (h.map itD)))] w' := by
 refine ent2 Tryz.func125 rfl Tryz.ntmps125 fun Az Hz => ?_
 refine regS Hz (.assign rfl .nil) fun Az Hz => ?_
 refine regS Hz (.move rfl <| .assign rfl <| .assign rfl .nil) fun Az Hz => ?_
 refine wsk fun K0 hK0 => ?_
 refine wp_block ?_
 refine wp_loop_ghost (fun g a w => ∃ (i j : Nat), i ≤ j ∧ j ≤ h.length ∧ g = j - i ∧ (∀ q, q < i → (h.getD q v0).1 ≤ t) ∧ (∀ q, j ≤ q → q < h.length → t < (h.getD q v0).1) ∧ Has 26 [(1, .func (.func 126) #[] #[.pointer (some ⟨B1, 0, none⟩), .pointer (some ⟨B2, 0, none⟩)]), (5, .int .i64 i), (6, .int .i64 j)] a ∧ MemOk X w0 [(1, .box B1 69 [.slice p h.length c]), (2, .box B2 2 [.int .i64 t]), (3, .dat (.slice p h.length c) (.l 2 (h.map itD)))] w) (h.length) ?_ ?_
 · exact ⟨0, h.length, Nat.zero_le _, Nat.le_refl _, rfl, fun q hq => by omega, fun q h1 h2 => by omega, Hz.only [1, 5, 6], m0.only [1, 2, 3]⟩
 clear Hz m0
 rintro g Az w5 ⟨i, j, hij, hj, hg, hA, hB, Hz, m5⟩
 refine wsk fun K1 hK1 => ?_
 refine regS Hz (.move rfl <| .move rfl <| .lss rfl rfl .nil) fun Az Hz => ?_
 refine bc Hz 11 ?_ ?_
 ·
  intro hb9 Hz; try simp only [QQ, Qax] at hb9
  have hlt : i < j := by have := hb9; first | omega | (simp at this; omega)
  refine wct Hz ?_
  refine zss (hK1 _ _ ?_)
  refine wp_block ?_
  refine regS Hz (.move rfl <| .move rfl <| .add rfl rfl (IntWalk.i64_in _ (by omega)) <| .conv rfl U3 U144 (IntWalk.u64_in _ (by omega)) <| .shr rfl rfl (by omega) (r := (((i + j) / 2 : Nat) : Int)) (by rw [show ((2 : Int) ^ min (1 : Int).toNat IntKind.u64.bits) = 2 from rfl, Int.fdiv_eq_ediv_of_nonneg _ (by omega)]; omega) <| .conv rfl U144 U3 (IntWalk.i64_in _ (by omega)) <| .assign rfl .nil) fun Az Hz => ?_
  replace Hz := Hz.oz [1, 5, 6, 7]
  refine zsr fun K2 hK2 => ?_
  refine goCh Hz (.move rfl <| .move rfl .nil) fun Az Hz => ?_
  refine plz (e_callC Hz rfl Tryz.func126 rfl rfl rfl rfl (upc_x _ B1 B2 h t ((i + j) / 2) _ _ _ (by omega) (m5.into [(1, 1), (2, 2), (3, 3)] (by decide) rfl)) ?_)
  rintro e w22 ⟨rfl, hm22⟩
  have mx22 := m5.back hm22 [(1, 1), (2, 2), (3, 3)] (by decide); clear hm22 m5
  have m22 := mx22.oz [1, 2, 3]
  refine ⟨_, rfl, ?_⟩; intro Az Hz
  refine gz hK2 Hz (.not rfl .nil) fun Az Hz => ?_
  refine bc Hz 21 ?_ ?_
  ·
   intro hb25 Hz; try simp only [QQ, Qax] at hb25
   have hle : (h.getD ((i + j) / 2) v0).1 ≤ t := by have := hb25; first | omega | (simp at this; omega)
   refine wct Hz ?_
   refine wp_region_lit ?_
   refine goCh Hz (.move rfl <| .add rfl rfl (r := (((i + j) / 2 + 1 : Nat) : Int)) (by rw [IntWalk.i64_in _ (by omega)]; omega) <| .assign rfl .nil) fun Az Hz => ?_
   refine wpList_nil ?_
   show ∃ n', n' < _ ∧ _
   exact ⟨j - ((i + j) / 2 + 1), by omega, (i + j) / 2 + 1, j, by omega, hj, rfl, fun q hq => Rise.low hr (by omega) hle (by omega), hB, Hz.only [1, 5, 6], m22.only [1, 2, 3]⟩
  intro hb25 Hz; try simp only [QQ, Qax] at hb25
  have hgt : t < (h.getD ((i + j) / 2) v0).1 := by have := hb25; first | omega | (simp at this; omega)
  refine wcf Hz ?_
  refine wp_region_lit ?_
  refine goCh Hz (.move rfl <| .assign rfl .nil) fun Az Hz => ?_
  refine wpList_nil ?_
  show ∃ n', n' < _ ∧ _
  exact ⟨(i + j) / 2 - i, by omega, i, (i + j) / 2, by omega, by omega, rfl, hA, fun q hq h9 => Rise.high hr h9 hgt hq, Hz.only [1, 5, 6], m22.only [1, 2, 3]⟩
 intro hb9 Hz; try simp only [QQ, Qax] at hb9
 have hge : i = j := by have := hb9; first | omega | (simp at this; omega)
 refine wcf Hz ?_
 refine wp_exit ?_
 refine hK0 _ _ ?_
 refine regS Hz (.move rfl <| .assign rfl .nil) fun Az Hz => ?_
 refine rt1 Hz ?_
 revert Hz
 subst hge
 intro Hz
 rw [upN_eq hA (fun h9 => hB i (Nat.le_refl _) h9) hj]
 exact ⟨rfl, m5.only [1, 2, 3]⟩
theorem upto_x (X : Cx) (h : List Ver) (t : Int) (p : Option Addr) (c : Nat) (w0 : World) (hl : h.length ≤ 1000000) (hr : Rise h) (m0 : MemOk X w0 [(1, .dat (.slice p h.length c) (.l 2 (h.map itD)))] w0) :
   Calls Tryz.prog 99 #[.slice p h.length c, .int .i64 t] w0 fun e w' => e = .returned (.int .i64 (upN h t)) ∧ MemOk X w0 [(1, .dat (.slice p h.length c) (.l 2 (h.map itD)))] w' := by
 refine ent2 Tryz.func99 rfl Tryz.ntmps99 fun Az Hz => ?_
 refine zsr fun K0 hK0 => ?_
 refine plz (e_box Hz m0 20 rfl rfl rfl fun g1 Az w2 Hz m2 _ _ => ?_)
 refine plz (e_box Hz m2 21 rfl rfl rfl fun g3 Az w4 Hz m4 _ _ => ?_)
 refine gz hK0 Hz (.assign rfl .nil) fun Az Hz => ?_
 refine zsr fun K1 hK1 => ?_
 refine goCh Hz (.lb m4 20 U69 rfl rfl rfl <| .len rfl U69 <| .makeFunc rfl .nil) fun Az Hz => ?_
 refine plz (ecl Hz Tryz.func125 rfl (search_x _ _ _ h t _ _ _ hl hr (m4.into [(1, 20), (2, 21), (3, 1)] (by decide) rfl)) ?_)
 rintro e w12 ⟨rfl, hm12⟩
 have mx12 := m4.back hm12 [(20, 1), (21, 2), (1, 3)] (by decide); clear hm12 m4
 have m12 := mx12.oz [20, 21, 1]
 refine ⟨_, rfl, ?_⟩; intro Az Hz
 refine gz hK1 Hz (.assign rfl .nil) fun Az Hz => ?_
 refine rt1 Hz ?_
 exact ⟨rfl, m12.only [1]⟩
end
section
def hD (h : List Ver) : List D := [.l 2 (h.map itD)]
theorem nnOf {S : Nat → Prop} {w : World} {p : Option Addr} {nn c mm : Nat} {α : Type} {f : α → List D} {es : List α} (h : Rd S w (.slice p nn c) (.l mm (es.map f))) : nn = es.length := by
 obtain ⟨pq, cq, hv, _⟩ := h.l_shape
 injection hv with _ e2 _
 rw [List.length_map] at e2
 exact e2
theorem hD_get {A : List (List Ver)} {k : Nat} {h : List Ver} (e : A[k]? = some h) : (A.map hD)[k]? = some [.l 2 (h.map itD)] := by simp [e, hD]
def HsOk (H : List (List Ver)) : Prop := ∀ h ∈ H, h.length ≤ 1000000 ∧ ∀ v ∈ h, v.2.length ≤ 1000000
def RPre (h : List Ver) (k : Nat) : Prop := ∀ j, j < k → (1 ≤ (h.getD j v0).1 ∧ (h.getD j v0).1 ≤ 1099511627776) ∧ (0 < j → (h.getD (j - 1) v0).1 < (h.getD j v0).1)
theorem RPre.snoc {h : List Ver} {k : Nat} {xs : Int} {xd : List Int} (hp : RPre h k) (hes : h[k]? = some (xs, xd)) (ht : 1 ≤ xs ∧ xs ≤ 1099511627776) (hz : 0 < k → (h.getD (k - 1) v0).1 < xs) : RPre h (k + 1) := fun j hj => by
 rcases Nat.lt_or_ge j k with h1 | h1
 · exact hp j h1
 obtain rfl : j = k := by omega
 rw [show (h.getD j v0).1 = xs by rw [List.getD, hes]; rfl]
 exact ⟨ht, hz⟩
section
variable {P : Program} {n : Nat} {T : List (Nat × Value)} {a : Act} {w : World} {d : Option Tmp} {tt : TypeId} {pos : String} {af : Array Edge} {gd : Option (Nat × Bool)}
end
set_option maxRecDepth 100000
set_option maxHeartbeats 4000000
theorem growV_any_inf : (Tryz.prog.info? 71).map (fun i => (i.zero, i.size, i.bytes)) = some (some (.agg #[.int .i64 0, .slice none 0 0]), 2, 32) := by kernel_rfl
theorem growV_any (n : Nat) (w : World) (hn : n ≤ 100000000) :
   Calls Tryz.prog 127 #[.slice none 0 0, .int .i64 n] w fun e w' => ∃ p c, e = .returned (.slice p 0 c) ∧ w'.ownsRow w.heap.size 71 2 (.slice p 0 c) 0 [] ∧ Below w.heap.size w w' := by
 by_cases h0 : n = 0
 · subst h0
   go_enter Tryz.func127, Tryz.ntmps127
   go_wp2
   go_ret
   exact ⟨_, _, rfl, World.ownsRow_nil _ _ _ _, Below.refl _ _⟩
 obtain ⟨i0, hi, hz0, hz1, hz2⟩ := info_parts growV_any_inf
 have hbn : n * i0.bytes ≤ 140737488355328 := by rw [hz2]; omega
 obtain ⟨z, hz⟩ : ∃ z : Value, (.agg #[.int .i64 0, .slice none 0 0]) = z := ⟨_, rfl⟩
 have hzc : z.cells.size = 2 := by rw [← hz]; rfl
 rw [hz] at hz0
 have hrz : ∀ ty, (Builtin.append_ #[69, 3] ty #[.slice none 0 0, .int .i64 (n : Int)]).run Tryz.prog w =
     .ok (.slice (some ⟨w.heap.size, 0, none⟩) n (grownCap w n 0 71)) (w.drew.alloc (.cells (#[] ++ Builtin.zeroCells z.cells n ++ Builtin.zeroCells z.cells (grownCap w n 0 71 - n)) 71)) := fun ty => by
   have h := Lib.run_append_grow_zeros w 69 3 ty 71 i0 z .i64 .i64 U69 U3 hi hz0 none 0 0 [] (run_firstCells_none w.drew i0.size 0 0 0) n (by omega) (by omega) (by omega) (by omega) (by omega)
     (by rw [Nat.zero_add]; exact growslice_fits (by omega) hbn)
   rw [Nat.zero_add] at h
   exact h
 have hG := grownCap_ge w n 0 71
 have hM := grownCap_le_maxLen w n 0 71 (by unfold maxLen; omega)
 generalize grownCap w n 0 71 = G at hrz hG hM
 have hown : (w.drew.alloc (.cells (#[] ++ Builtin.zeroCells z.cells n ++ Builtin.zeroCells z.cells (G - n)) 71)).ownsRow w.heap.size 71 2 (.slice (some ⟨w.heap.size, 0, none⟩) 0 G) 0 [] := by
   refine World.ownsRow_made w.drew _ G (Nat.le_refl _) hM ?_
   simp [size_zeroCells, hzc]
   omega
 have hbel : Below w.heap.size w (w.drew.alloc (.cells (#[] ++ Builtin.zeroCells z.cells n ++ Builtin.zeroCells z.cells (G - n)) 71)) := ((Below.refl _ w).drew).alloc (Nat.le_refl _) _
 generalize (w.drew.alloc (.cells (#[] ++ Builtin.zeroCells z.cells n ++ Builtin.zeroCells z.cells (G - n)) 71)) = W' at hrz hown hbel
 have HO := Lib.hid hown
 have HB := Lib.hid hbel
 clear hown hbel hi hz0 hz1 hz2 hz hzc
 unfold maxLen at hM
 go_enter Tryz.func127, Tryz.ntmps127
 go_wp2_with (at_builtin; refine Lib.wpList_append_run _ rfl _ _ _ _ rfl _ _ rfl rfl _ _ (hrz _) ?_)
 all_goals (go_ret; exact ⟨_, _, rfl, HO.out, HB.out⟩)
theorem growH_any_inf : (Tryz.prog.info? 69).map (fun i => (i.zero, i.size, i.bytes)) = some (some (.slice none 0 0), 1, 24) := by kernel_rfl
theorem growH_any (n : Nat) (w : World) (hn : n ≤ 100000000) :
   Calls Tryz.prog 102 #[.slice none 0 0, .int .i64 n] w fun e w' => ∃ p c, e = .returned (.slice p 0 c) ∧ w'.ownsRow w.heap.size 69 1 (.slice p 0 c) 0 [] ∧ Below w.heap.size w w' := by
 by_cases h0 : n = 0
 · subst h0
   go_enter Tryz.func102, Tryz.ntmps102
   go_wp2
   go_ret
   exact ⟨_, _, rfl, World.ownsRow_nil _ _ _ _, Below.refl _ _⟩
 obtain ⟨i0, hi, hz0, hz1, hz2⟩ := info_parts growH_any_inf
 have hbn : n * i0.bytes ≤ 140737488355328 := by rw [hz2]; omega
 obtain ⟨z, hz⟩ : ∃ z : Value, (.slice none 0 0) = z := ⟨_, rfl⟩
 have hzc : z.cells.size = 1 := by rw [← hz]; rfl
 rw [hz] at hz0
 have hrz : ∀ ty, (Builtin.append_ #[26, 3] ty #[.slice none 0 0, .int .i64 (n : Int)]).run Tryz.prog w =
     .ok (.slice (some ⟨w.heap.size, 0, none⟩) n (grownCap w n 0 69)) (w.drew.alloc (.cells (#[] ++ Builtin.zeroCells z.cells n ++ Builtin.zeroCells z.cells (grownCap w n 0 69 - n)) 69)) := fun ty => by
   have h := Lib.run_append_grow_zeros w 26 3 ty 69 i0 z .i64 .i64 U26 U3 hi hz0 none 0 0 [] (run_firstCells_none w.drew i0.size 0 0 0) n (by omega) (by omega) (by omega) (by omega) (by omega)
     (by rw [Nat.zero_add]; exact growslice_fits (by omega) hbn)
   rw [Nat.zero_add] at h
   exact h
 have hG := grownCap_ge w n 0 69
 have hM := grownCap_le_maxLen w n 0 69 (by unfold maxLen; omega)
 generalize grownCap w n 0 69 = G at hrz hG hM
 have hown : (w.drew.alloc (.cells (#[] ++ Builtin.zeroCells z.cells n ++ Builtin.zeroCells z.cells (G - n)) 69)).ownsRow w.heap.size 69 1 (.slice (some ⟨w.heap.size, 0, none⟩) 0 G) 0 [] := by
   refine World.ownsRow_made w.drew _ G (Nat.le_refl _) hM ?_
   simp [size_zeroCells, hzc]
   omega
 have hbel : Below w.heap.size w (w.drew.alloc (.cells (#[] ++ Builtin.zeroCells z.cells n ++ Builtin.zeroCells z.cells (G - n)) 69)) := ((Below.refl _ w).drew).alloc (Nat.le_refl _) _
 generalize (w.drew.alloc (.cells (#[] ++ Builtin.zeroCells z.cells n ++ Builtin.zeroCells z.cells (G - n)) 69)) = W' at hrz hown hbel
 have HO := Lib.hid hown
 have HB := Lib.hid hbel
 clear hown hbel hi hz0 hz1 hz2 hz hzc
 unfold maxLen at hM
 go_enter Tryz.func102, Tryz.ntmps102
 go_wp2_with (at_builtin; refine Lib.wpList_append_run _ rfl _ _ _ _ rfl _ _ rfl rfl _ _ (hrz _) ?_)
 all_goals (go_ret; exact ⟨_, _, rfl, HO.out, HB.out⟩)
theorem hat_x (X : Cx) (h : List Ver) (t : Int) (p : Option Addr) (nn c : Nat) (w0 : World) (hl : h.length ≤ 1000000) (hok : ∀ v ∈ h, v.2.length ≤ 1000000) (hr : Rise h) (m0 : MemOk X w0 [(1, .dat (.slice p nn c) (.l 2 (h.map itD)))] w0) :
   Calls Tryz.prog 97 #[.slice p nn c, .int .i64 t] w0 fun e w' => (atF h t = none ∧ e = .returned (.tuple #[.slice none 0 0, .bool false]) ∧ MemOk X w0 [(1, .dat (.slice p nn c) (.l 2 (h.map itD)))] w') ∨ ∃ (d : List Int) (p9 : Option Addr) (c9 : Nat), atF h t = some d ∧ e = .returned (.tuple #[.slice p9 d.length c9, .bool true]) ∧ MemOk X w0 [(1, .dat (.slice p nn c) (.l 2 (h.map itD))), (9, .dat (.slice p9 d.length c9) (.ns .u8 d))] w' := by
 obtain rfl : nn = h.length := nnOf (m0.rd (i := 1) rfl)
 refine ent2 Tryz.func97 rfl Tryz.ntmps97 fun Az Hz => ?_
 have hul := upN_le h t
 refine regS Hz (.assign rfl <| .assign rfl .nil) fun Az Hz => ?_
 refine zsr fun K0 hK0 => ?_
 refine goCh Hz (.move rfl <| .move rfl .nil) fun Az Hz => ?_
 refine plz (ecl Hz Tryz.func99 rfl (upto_x _ h t _ _ _ hl hr (m0.into [(1, 1)] (by decide) rfl)) ?_)
 rintro e w7 ⟨rfl, hm7⟩
 have mx7 := m0.back hm7 [(1, 1)] (by decide); clear hm7 m0
 have m7 := mx7.oz [1]
 refine ⟨_, rfl, ?_⟩; intro Az Hz
 refine gz hK0 Hz (.assign rfl .nil) fun Az Hz => ?_
 refine wsk fun K1 hK1 => ?_
 refine regS Hz (.move rfl <| .eql rfl rfl .nil) fun Az Hz => ?_
 refine bc Hz 11 ?_ ?_
 ·
  intro hb12 Hz; try simp only [QQ, Qax] at hb12
  have hz : upN h t = 0 := by have := hb12; first | omega | (simp at this; omega)
  refine wct Hz ?_
  refine regS Hz (.assign rfl <| .assign rfl .nil) fun Az Hz => ?_
  refine rt2 Hz ?_
  exact .inl ⟨by unfold atF; rw [if_pos hz], rfl, m7.only [1]⟩
 intro hb12 Hz; try simp only [QQ, Qax] at hb12
 have hz : ¬ upN h t = 0 := by have := hb12; first | omega | (simp at this; omega)
 obtain ⟨⟨xs, xd⟩, hes⟩ : ∃ e, h[upN h t - 1]? = some e := ⟨_, List.getElem?_eq_getElem (by omega)⟩
 have hxd : xd.length ≤ 1000000 := hok _ (List.mem_of_getElem? hes)
 have hx9 : (h.getD (upN h t - 1) v0).2 = xd := by rw [List.getD, hes]; rfl
 refine wcf Hz ?_
 refine zss (hK1 _ _ ?_)
 refine zsr fun K2 hK2 => ?_
 refine goCh Hz (.move rfl <| .move rfl <| .sub rfl rfl (r := ((upN h t - 1 : Nat) : Int)) (by rw [IntWalk.i64_in _ (by omega)]; omega) .nil) fun Az Hz => ?_
 obtain ⟨b22, o22, vs22, hp22, hR22, ho22, m22⟩ := m7.openR (i := 1) rfl (upN h t - 1) (r := [.v (.int .i64 xs), .ns .u8 xd]) (itD_get hes) 20 rfl
 revert Hz
 cases hp22; clear m7 ho22
 rcases hR22 with _ | ⟨hd22_0, _ | ⟨hd22_1, _ | _⟩⟩
 obtain rfl := hd22_0.v_out
 clear hd22_0
 obtain ⟨p23, c23, hv23, hc23⟩ := hd22_1.ns_shape; subst hv23
 intro Hz
 have m23 := m22.dat 21 rfl (hd22_1.cast (fun _ h => (free_add rfl h))); clear m22 hd22_1
 refine goCh Hz (.c rfl (fun _ h_ => y_idx h_ rfl rfl U69 fct0 (upN h t - 1) rfl (by omega)) <| .fieldAddrQ 1 rfl U71 rfl (s := 0) (by kernel_rfl) rfl <| .loadC1 m23 (i := 20) (q := 1) rfl rfl rfl U22 rfl .nil) fun Az Hz => ?_
 refine plz (e_app0M Hz m23 22 rfl rfl (m23.nums (i := 21) rfl) U22 fct19 (by decide) (by omega) rfl fun p27 c27 Az w28 Hz m28 => ?_)
 refine gz hK2 Hz (.assign rfl <| .assign rfl <| .nil) fun Az Hz => ?_
 refine rt2 Hz ?_
 have m31 := m28.freezeN 22 rfl
 exact .inr ⟨xd, _, _, by unfold atF; rw [if_neg hz, hx9], rfl, m31.ren [(1, 1), (9, 22)] (by decide)⟩
theorem ver_x (X : Cx) (s9 : Int) (d : List Int) (p : Option Addr) (c : Nat) (w0 : World) (hd : d.length ≤ 140737488351232) (m0 : MemOk X w0 [(1, .dat (.slice p d.length c) (.ns .u8 d))] w0) :
   Calls Tryz.prog 104 #[.agg #[.int .i64 s9, .slice p d.length c]] w0 fun e w' => ∃ (p9 : Option Addr) (c9 : Nat), e = .returned (.agg #[.int .i64 s9, .slice p9 d.length c9]) ∧ MemOk X w0 [(1, .dat (.slice p d.length c) (.ns .u8 d)), (9, .dat (.slice p9 d.length c9) (.ns .u8 d))] w' := by
 refine ent1 Tryz.func104 rfl Tryz.ntmps104 fun Az Hz => ?_
 refine zsr fun K0 hK0 => ?_
 refine plz (e_box Hz m0 20 (cs := [_, _]) rfl rfl rfl fun g1 Az w2 Hz m2 _ _ => ?_)
 refine plz (e_alloc Hz m2 21 fct43 rfl fun g3 Az w4 Hz m4 _ _ => ?_)
 refine znl (hK0 _ _ ?_)
 refine zsr fun K1 hK1 => ?_
 refine goCh Hz (.fa 1 rfl U71 <| .lb m4 20 U22 rfl rfl rfl .nil) fun Az Hz => ?_
 refine plz (ecl Hz Tryz.func101 rfl (plainB_any d _ _ _ (m4.rd (i := 1) rfl).any hd) ?_)
 rintro e w9 ⟨p9, c9, rfl, hd9, hb9⟩
 have m10 := m4.callF 22 rfl hb9 hd9
 refine ⟨_, rfl, ?_⟩; intro Az Hz
 refine goCh Hz (.fieldAddr (off := 1) rfl U71 rfl (s := 0) (by kernel_rfl) rfl .nil) fun Az Hz => ?_
 refine plz (st1 Hz m10 20 fct35 fun w13 m13 _ => ?_)
 refine znl (hK1 _ _ ?_)
 refine zsr fun K2 hK2 => ?_
 refine goCh Hz (.loadBR m13 (i := 20) rfl rfl U71 rfl fct0 (by simp) (by dsimp only [List.drop, List.take] <;> rfl) .nil) fun Az Hz => ?_
 refine plz (stw Hz m13 21 fct0 fun w16 m16 _ => ?_)
 refine znl (hK2 _ _ ?_)
 refine rtd (retC (fn := Tryz.f104) Hz m16 (i := 21) rfl rfl rfl U71 rfl fct0 ?_)
 exact ⟨_, _, rfl, m16.ren [(1, 1), (9, 22)] (by decide)⟩
theorem listV_x (X : Cx) (es : List Ver) (p0 : Option Addr) (c0 : Nat) (w0 : World) (hl : es.length ≤ 1000000) (hok : ∀ v ∈ es, v.2.length ≤ 1000000) (m0 : MemOk X w0 [(1, .dat (.slice p0 es.length c0) (.l 2 (es.map itD)))] w0) :
   Calls Tryz.prog 103 #[.slice p0 es.length c0, .func (.func 104) #[] #[]] w0 fun e w' => ∃ (p9 : Option Addr) (c9 : Nat), e = .returned (.slice p9 (es.map itD).length c9) ∧ MemOk X w0 [(1, .dat (.slice p0 es.length c0) (.l 2 (es.map itD))), (9, .row (.slice p9 (es.map itD).length c9) 71 2 (es.map itD))] w' := by
 refine ent2 Tryz.func103 rfl Tryz.ntmps103 fun Az Hz => ?_
 refine regS Hz (.assign rfl .nil) fun Az Hz => ?_
 refine zsr fun K0 hK0 => ?_
 refine goCh Hz (.move rfl <| .len rfl U69 .nil) fun Az Hz => ?_
 refine plz (ecl Hz Tryz.func127 rfl (growV_any _ _ (by omega)) ?_)
 rintro e w6 ⟨p6, c6, rfl, ho6, hb6⟩
 have m7 := m0.newR 20 hb6 (rowNil ho6)
 refine ⟨_, rfl, ?_⟩; intro Az Hz
 refine gz hK0 Hz (.assign rfl .nil) fun Az Hz => ?_
 refine wsk fun K1 hK1 => ?_
 refine regS Hz (.move rfl <| .len rfl U69 <| .move rfl .nil) fun Az Hz => ?_
 refine wp_block ?_
 refine wp_loop_ghost (fun g a w => ∃ (k : Nat) (p : Option Addr) (c : Nat), k ≤ es.length ∧ g = es.length - k ∧ Has 25 [(1, .func (.func 104) #[] #[]), (5, .slice p ((es.take k).map itD).length c), (11, .slice p0 es.length c0), (12, .int .i64 es.length), (13, .int .i64 k)] a ∧ MemOk X w0 [(1, .dat (.slice p0 es.length c0) (.l 2 (es.map itD))), (9, .row (.slice p ((es.take k).map itD).length c) 71 2 ((es.take k).map itD))] w) (es.length) ?_ ?_
 · exact ⟨0, _, _, Nat.zero_le _, rfl, Hz.only [1, 5, 11, 12, 13], m7.ren [(1, 1), (9, 20)] (by decide)⟩
 clear Hz m7
 rintro g Az w13 ⟨k, p, c, hkl, hg, Hz, m13⟩
 refine regS Hz (.lss rfl rfl .nil) fun Az Hz => ?_
 refine wsk fun K2 hK2 => ?_
 refine bc Hz 14 ?_ ?_
 ·
  intro hb15 Hz; try simp only [QQ, Qax] at hb15
  have hk : k < es.length := by have := hb15; first | omega | (simp at this; omega)
  obtain ⟨⟨xs, xd⟩, hes⟩ : ∃ e, es[k]? = some e := ⟨_, List.getElem?_eq_getElem hk⟩
  have hed := hok _ (List.mem_of_getElem? hes)
  dsimp only at hed
  refine wct Hz ?_
  refine zss (hK2 _ _ ?_)
  refine wsk fun K3 hK3 => ?_
  refine wp_block ?_
  refine zsr fun K4 hK4 => ?_
  obtain ⟨b17, o17, vs17, hp17, hR17, ho17, m17⟩ := m13.openR (i := 1) rfl (k) (r := [.v (.int .i64 xs), .ns .u8 xd]) (itD_get hes) 100 rfl
  revert Hz
  cases hp17; clear m13 ho17
  rcases hR17 with _ | ⟨hd17_0, _ | ⟨hd17_1, _ | _⟩⟩
  obtain rfl := hd17_0.v_out
  clear hd17_0
  obtain ⟨p18, c18, hv18, hc18⟩ := hd17_1.ns_shape; subst hv18
  intro Hz
  have m18 := m17.dat 101 rfl (hd17_1.cast (fun _ h => (free_add rfl h))); clear m17 hd17_1
  refine goCh Hz (.c rfl (fun _ h_ => y_idx h_ rfl rfl U69 fct0 (k) rfl hk) <| .loadCR m18 (i := 100) rfl rfl U71 rfl fct0 .nil) fun Az Hz => ?_
  refine plz (e_alloc Hz m18 102 fct43 rfl fun g21 Az w22 Hz m22 _ _ => ?_)
  refine plz (stw Hz m22 102 fct0 fun w23 m23 _ => ?_)
  refine znl (hK4 _ _ ?_)
  refine wp_region_lit ?_
  refine goCh Hz (.move rfl <| .move rfl <| .loadBR m23 (i := 102) rfl rfl U71 rfl fct0 (by simp) (by dsimp only [List.drop, List.take] <;> rfl) .nil) fun Az Hz => ?_
  refine plz (e_callV Hz rfl Tryz.func104 rfl rfl rfl rfl (ver_x _ xs xd _ _ _ (by omega) (m23.into [(1, 101)] (by decide) rfl)) ?_)
  rintro e w27 ⟨p27, c27, rfl, hm27⟩
  have mx27 := m23.back hm27 [(101, 1), (103, 9)] (by decide); clear hm27 m23
  have m27 := mx27.oz [101, 103, 1, 9, 100, 102]
  refine ⟨_, rfl, ?_⟩; intro Az Hz
  refine plz (e_litR Hz m27 104 (mm := 2) rfl (.cons rfl rfl (.cons (.v _) (.cons (m27.rd (i := 103) rfl) .nil)) .nil) U69 fct44 rfl rfl rfl rfl rfl fun g29 Az w30 Hz m30 => ?_)
  have m32 := m30.freezeR 104 rfl
  refine plz (e_appR Hz m32 9 rfl rfl rfl (m32.rd (i := 104) rfl) U69 fct44 rfl rfl (by decide) (by simp; omega) rfl fun p31 c31 Az w33 Hz m33 => ?_)
  refine gz hK3 Hz (.assign rfl .nil) fun Az Hz => ?_
  replace Hz := Hz.oz [1, 5, 11, 12, 13]
  refine wp_region_lit ?_
  refine goCh Hz (.inc (k + 1) <| .move rfl .nil) fun Az Hz => ?_
  refine wpList_nil ?_
  show ∃ n', n' < _ ∧ _
  have hE : ((es.take k).map itD) ++ [[D.v (.int .i64 xs), .ns .u8 xd]] = ((es.take (k + 1)).map itD) := by rw [take_snoc hes, List.map_append]; rfl
  rw [hE] at m33 Hz
  exact ⟨es.length - (k + 1), by omega, k + 1, _, _, by omega, rfl, Hz.only [1, 5, 11, 12, 13], m33.only [1, 9]⟩
 intro hb15 Hz; try simp only [QQ, Qax] at hb15
 revert Hz
 obtain rfl : k = es.length := by have := hb15; first | omega | (simp at this; omega)
 intro Hz
 refine wcf Hz ?_
 refine wp_exit ?_
 refine hK1 _ _ ?_
 refine regS Hz (.move rfl <| .assign rfl .nil) fun Az Hz => ?_
 refine rt1 Hz ?_
 rw [List.take_length] at m13
 rw [List.take_length]
 exact ⟨_, _, rfl, m13.ren [(1, 1), (9, 9)] (by decide)⟩
theorem vers_x (X : Cx) (es : List Ver) (p0 : Option Addr) (nn c0 : Nat) (w0 : World) (hl : es.length ≤ 1000000) (hok : ∀ v ∈ es, v.2.length ≤ 1000000) (m0 : MemOk X w0 [(1, .dat (.slice p0 nn c0) (.l 2 (es.map itD)))] w0) :
   Calls Tryz.prog 76 #[.slice p0 nn c0] w0 fun e w' => ∃ (p9 : Option Addr) (c9 : Nat), e = .returned (.slice p9 es.length c9) ∧ MemOk X w0 [(1, .dat (.slice p0 nn c0) (.l 2 (es.map itD))), (9, .dat (.slice p9 es.length c9) (.l 2 (es.map itD)))] w' := by
 obtain rfl : nn = es.length := nnOf (m0.rd (i := 1) rfl)
 refine ent1 Tryz.func76 rfl Tryz.ntmps76 fun Az Hz => ?_
 refine regS Hz (.assign rfl .nil) fun Az Hz => ?_
 refine zsr fun K0 hK0 => ?_
 refine goCh Hz (.move rfl .nil) fun Az Hz => ?_
 refine plz (ecl Hz Tryz.func103 rfl (listV_x _ es _ _ _ hl hok (m0.into [(1, 1)] (by decide) rfl)) ?_)
 rintro e w4 ⟨p4, c4, rfl, hm4⟩
 have mx4 := m0.back hm4 [(1, 1), (20, 9)] (by decide); clear hm4 m0
 have m4 := mx4.oz [1, 20]
 refine ⟨_, rfl, ?_⟩; intro Az Hz
 refine gz hK0 Hz (.assign rfl .nil) fun Az Hz => ?_
 refine rt1 Hz ?_
 have m7 := m4.freezeR 20 rfl
 rw [List.length_map] at m7
 rw [List.length_map]
 exact ⟨_, _, rfl, m7.ren [(1, 1), (9, 20)] (by decide)⟩
theorem listH_x (X : Cx) (es : List (List Ver)) (p0 : Option Addr) (c0 : Nat) (w0 : World) (hl : es.length ≤ 1000000) (hok : HsOk es) (m0 : MemOk X w0 [(1, .dat (.slice p0 es.length c0) (.l 1 (es.map hD)))] w0) :
   Calls Tryz.prog 75 #[.slice p0 es.length c0, .func (.func 76) #[] #[]] w0 fun e w' => ∃ (p9 : Option Addr) (c9 : Nat), e = .returned (.slice p9 (es.map hD).length c9) ∧ MemOk X w0 [(1, .dat (.slice p0 es.length c0) (.l 1 (es.map hD))), (9, .row (.slice p9 (es.map hD).length c9) 69 1 (es.map hD))] w' := by
 refine ent2 Tryz.func75 rfl Tryz.ntmps75 fun Az Hz => ?_
 refine regS Hz (.assign rfl .nil) fun Az Hz => ?_
 refine zsr fun K0 hK0 => ?_
 refine goCh Hz (.move rfl <| .len rfl U26 .nil) fun Az Hz => ?_
 refine plz (ecl Hz Tryz.func102 rfl (growH_any _ _ (by omega)) ?_)
 rintro e w6 ⟨p6, c6, rfl, ho6, hb6⟩
 have m7 := m0.newR 20 hb6 (rowNil ho6)
 refine ⟨_, rfl, ?_⟩; intro Az Hz
 refine gz hK0 Hz (.assign rfl .nil) fun Az Hz => ?_
 refine wsk fun K1 hK1 => ?_
 refine regS Hz (.move rfl <| .len rfl U26 <| .move rfl .nil) fun Az Hz => ?_
 refine wp_block ?_
 refine wp_loop_ghost (fun g a w => ∃ (k : Nat) (p : Option Addr) (c : Nat), k ≤ es.length ∧ g = es.length - k ∧ Has 25 [(1, .func (.func 76) #[] #[]), (5, .slice p ((es.take k).map hD).length c), (11, .slice p0 es.length c0), (12, .int .i64 es.length), (13, .int .i64 k)] a ∧ MemOk X w0 [(1, .dat (.slice p0 es.length c0) (.l 1 (es.map hD))), (9, .row (.slice p ((es.take k).map hD).length c) 69 1 ((es.take k).map hD))] w) (es.length) ?_ ?_
 · exact ⟨0, _, _, Nat.zero_le _, rfl, Hz.only [1, 5, 11, 12, 13], m7.ren [(1, 1), (9, 20)] (by decide)⟩
 clear Hz m7
 rintro g Az w13 ⟨k, p, c, hkl, hg, Hz, m13⟩
 refine regS Hz (.lss rfl rfl .nil) fun Az Hz => ?_
 refine wsk fun K2 hK2 => ?_
 refine bc Hz 14 ?_ ?_
 ·
  intro hb15 Hz; try simp only [QQ, Qax] at hb15
  have hk : k < es.length := by have := hb15; first | omega | (simp at this; omega)
  obtain ⟨e9, hes⟩ : ∃ e, es[k]? = some e := ⟨_, List.getElem?_eq_getElem hk⟩
  have hed := hok _ (List.mem_of_getElem? hes)
  refine wct Hz ?_
  refine zss (hK2 _ _ ?_)
  refine wsk fun K3 hK3 => ?_
  refine wp_block ?_
  refine zsr fun K4 hK4 => ?_
  obtain ⟨b17, o17, vs17, hp17, hR17, ho17, m17⟩ := m13.openR (i := 1) rfl (k) (r := [.l 2 (e9.map itD)]) (hD_get hes) 100 rfl
  revert Hz
  cases hp17; clear m13 ho17
  rcases hR17 with _ | ⟨hd17_0, _ | _⟩
  obtain ⟨p18, c18, hv18, hc18⟩ := hd17_0.l_shape; subst hv18
  intro Hz
  have m18 := m17.dat 101 rfl (hd17_0.cast (fun _ h => (free_add rfl h))); clear m17 hd17_0
  refine gz hK4 Hz (.c rfl (fun _ h_ => y_idx h_ rfl rfl U26 fct13 (k) rfl hk) <| .loadC0 m18 (i := 100) rfl rfl U69 rfl <| .assign rfl <| .nil) fun Az Hz => ?_
  refine wp_region_lit ?_
  refine goCh Hz (.move rfl <| .move rfl <| .move rfl .nil) fun Az Hz => ?_
  refine plz (e_callV Hz rfl Tryz.func76 rfl rfl rfl rfl (vers_x _ e9 _ _ _ _ hed.1 hed.2 (m18.into [(1, 101)] (by decide) rfl)) ?_)
  rintro e w25 ⟨p25, c25, rfl, hm25⟩
  have mx25 := m18.back hm25 [(101, 1), (102, 9)] (by decide); clear hm25 m18
  have m25 := mx25.oz [101, 102, 1, 9, 100]
  refine ⟨_, rfl, ?_⟩; intro Az Hz
  refine plz (e_litR Hz m25 103 (mm := 1) rfl (.cons rfl rfl (.cons (m25.rd (i := 102) rfl) .nil) .nil) U26 fct9 rfl rfl rfl rfl rfl fun g27 Az w28 Hz m28 => ?_)
  have m30 := m28.freezeR 103 rfl
  refine plz (e_appR Hz m30 9 rfl rfl rfl (m30.rd (i := 103) rfl) U26 fct9 rfl rfl (by decide) (by simp; omega) rfl fun p29 c29 Az w31 Hz m31 => ?_)
  refine gz hK3 Hz (.assign rfl .nil) fun Az Hz => ?_
  replace Hz := Hz.oz [1, 5, 11, 12, 13]
  refine wp_region_lit ?_
  refine goCh Hz (.inc (k + 1) <| .move rfl .nil) fun Az Hz => ?_
  refine wpList_nil ?_
  show ∃ n', n' < _ ∧ _
  have hE : ((es.take k).map hD) ++ [[D.l 2 (e9.map itD)]] = ((es.take (k + 1)).map hD) := by rw [take_snoc hes, List.map_append]; rfl
  rw [hE] at m31 Hz
  exact ⟨es.length - (k + 1), by omega, k + 1, _, _, by omega, rfl, Hz.only [1, 5, 11, 12, 13], m31.only [1, 9]⟩
 intro hb15 Hz; try simp only [QQ, Qax] at hb15
 revert Hz
 obtain rfl : k = es.length := by have := hb15; first | omega | (simp at this; omega)
 intro Hz
 refine wcf Hz ?_
 refine wp_exit ?_
 refine hK1 _ _ ?_
 refine regS Hz (.move rfl <| .assign rfl .nil) fun Az Hz => ?_
 refine rt1 Hz ?_
 rw [List.take_length] at m13
 rw [List.take_length]
 exact ⟨_, _, rfl, m13.ren [(1, 1), (9, 9)] (by decide)⟩
theorem pchunk_x (X : Cx) (vo ch cn sz mk fl : Int) (H : List (List Ver)) (p : Option Addr) (c : Nat) (w0 : World) (hl : H.length ≤ 1000000) (hok : HsOk H) (m0 : MemOk X w0 [(1, .dat (.slice p H.length c) (.l 1 (H.map hD)))] w0) :
   Calls Tryz.prog 46 #[.agg #[.int .i64 vo, .int .i64 ch, .int .i64 cn, .int .i64 sz, .int .i64 mk, .int .i64 fl, .slice p H.length c]] w0 fun e w' => ∃ (p9 : Option Addr) (c9 : Nat), e = .returned (.agg #[.int .i64 vo, .int .i64 ch, .int .i64 cn, .int .i64 sz, .int .i64 mk, .int .i64 fl, .slice p9 H.length c9]) ∧ MemOk X w0 [(1, .dat (.slice p H.length c) (.l 1 (H.map hD))), (9, .row (.slice p9 H.length c9) 69 1 (H.map hD))] w' := by
 refine ent1 Tryz.func46 rfl Tryz.ntmps46 fun Az Hz => ?_
 refine zsr fun K0 hK0 => ?_
 refine plz (e_box Hz m0 20 (cs := [_, _, _, _, _, _, _]) rfl rfl rfl fun g1 Az w2 Hz m2 _ _ => ?_)
 refine plz (e_alloc Hz m2 21 fct17 rfl fun g3 Az w4 Hz m4 _ _ => ?_)
 refine znl (hK0 _ _ ?_)
 refine zsr fun K1 hK1 => ?_
 refine goCh Hz (.fa 6 rfl U28 <| .lb m4 20 U26 rfl rfl rfl .nil) fun Az Hz => ?_
 refine plz (ecl Hz Tryz.func75 rfl (listH_x _ H _ _ _ hl hok (m4.into [(1, 1)] (by decide) rfl)) ?_)
 rintro e w9 ⟨p9, c9, rfl, hm9⟩
 have mx9 := m4.back hm9 [(1, 1), (22, 9)] (by decide); clear hm9 m4
 have m9 := mx9.oz [1, 22, 20, 21]
 refine ⟨_, rfl, ?_⟩; intro Az Hz
 refine goCh Hz (.fieldAddr (off := 6) rfl U28 rfl (s := 0) (by kernel_rfl) rfl .nil) fun Az Hz => ?_
 refine plz (st1 Hz m9 20 fct11 fun w12 m12 _ => ?_)
 refine znl (hK1 _ _ ?_)
 refine zsr fun K2 hK2 => ?_
 refine goCh Hz (.loadBR m12 (i := 20) rfl rfl U28 rfl fct12 (by simp) (by dsimp only [List.drop, List.take] <;> rfl) .nil) fun Az Hz => ?_
 refine plz (stw Hz m12 21 fct12 fun w15 m15 _ => ?_)
 refine znl (hK2 _ _ ?_)
 refine rtd (retC (fn := Tryz.f46) Hz m15 (i := 21) rfl rfl rfl U28 rfl fct12 ?_)
 rw [List.length_map] at m15
 rw [List.length_map]
 exact ⟨_, _, rfl, m15.ren [(1, 1), (9, 22)] (by decide)⟩
end
section
abbrev i0 : Int × List Int := (0, [])
theorem getI {l : List (Int × List Int)} {k : Nat} {e : Int × List Int} (h : l[k]? = some e) : l.getD k i0 = e := by rw [List.getD, h]; rfl
theorem ne_snoc {l : List (Int × List Int)} {k : Nat} {xb yb : Int} {yd : List Int} (h : ∀ j, j < k → (l.getD j i0).1 ≠ xb) (hes : l[k]? = some (yb, yd)) (hne : ¬ yb = xb) : ∀ j, j < k + 1 → (l.getD j i0).1 ≠ xb := fun j hj => by
 rcases Nat.lt_or_ge j k with h1 | h1
 · exact h j h1
 obtain rfl : j = k := by omega
 rw [getI hes]; exact hne
def ItPre (bl sz : Int) (l : List (Int × List Int)) (k : Nat) : Prop := ∀ j, j < k → 0 ≤ (l.getD j i0).1 ∧ (l.getD j i0).1 < bl ∧ ((l.getD j i0).2.length : Int) = sz ∧ ¬ ∃ e ∈ l.take j, e.1 = (l.getD j i0).1
def ItemsR (bl sz : Int) (l : List (Int × List Int)) : Prop := 1 ≤ l.length ∧ l.length ≤ 8 ∧ ItPre bl sz l l.length
theorem itpre_snoc {bl sz : Int} {l : List (Int × List Int)} {k : Nat} {yb : Int} {yd : List Int} (h : ItPre bl sz l k) (hes : l[k]? = some (yb, yd)) (hb : 0 ≤ yb ∧ yb < bl) (hs : (yd.length : Int) = sz) (hn : ¬ ∃ e ∈ l.take k, e.1 = yb) : ItPre bl sz l (k + 1) := fun j hj => by
 rcases Nat.lt_or_ge j k with h1 | h1
 · exact h j h1
 obtain rfl : j = k := by omega
 rw [getI hes]; exact ⟨hb.1, hb.2, hs, hn⟩
set_option maxRecDepth 100000
set_option maxHeartbeats 4000000
end
section
abbrev w1 : Int × List (Int × List Int) := (0, [])
def lastP (fl : Int) (pins : List Int) : Nat → Int
 | 0 => fl
 | k + 1 => pins.getD k 0
def PinsPre (fl : Int) (n : Nat) (pins : List Int) (k : Nat) : Prop := ∀ j, j < k → lastP fl pins j ≤ pins.getD j 0 ∧ pins.getD j 0 ≤ n
def lowL (n : Nat) (pins : List Int) : Int := pins.foldl min (n : Int)
theorem low_snoc {n : Nat} {pins : List Int} {k : Nat} (hk : k < pins.length) : min (lowL n (pins.take k)) (pins.getD k 0) = lowL n (pins.take (k + 1)) := by
 rw [List.take_succ_eq_append_getElem hk, lowL, lowL, List.foldl_append, List.getD, List.getElem?_eq_getElem hk]; rfl
def WrPre (bl sz : Int) (ws : List (Int × List (Int × List Int))) (k : Nat) : Prop := ∀ j, j < k → (ws.getD j w1).1 = j + 1 ∧ ItemsR bl sz (ws.getD j w1).2
def VolR (vo bl sz pe to ne fl : Int) (hi : Bool) (place pins : List Int) (ws : List (Int × List (Int × List Int))) : Prop := NewOk vo bl sz pe to place ∧ 0 ≤ ne ∧ ne ≤ to ∧ (hi = true → to ≠ 0) ∧ (hi = false → ne = to) ∧ 0 ≤ fl ∧ fl ≤ ws.length ∧ PinsPre fl ws.length pins pins.length ∧ WrPre bl sz ws ws.length
set_option maxRecDepth 100000
set_option maxHeartbeats 4000000
end
section
set_option maxRecDepth 100000
set_option maxHeartbeats 4000000
end
section
theorem fl111io : flatS Tryz.prog 111 [.int .i64 0, .slice none 0 0] = true := by kernel_rfl
def bD (l : List Int) : List D := [.ns .u8 l]
def itemsL (fi cn9 : Int) (es : List (Int × List Int)) : List (Int × List Int) := (es.filter (fun x => decide (fi ≤ x.1 ∧ x.1 ≤ fi + cn9 - 1))).map (fun x => (x.1 - fi, x.2))
theorem itemsL_yes {fi cn9 : Int} {es : List (Int × List Int)} {k : Nat} {xb : Int} {xd : List Int} (h : es[k]? = some (xb, xd)) (hb : fi ≤ xb ∧ xb ≤ fi + cn9 - 1) : itemsL fi cn9 (es.take (k + 1)) = itemsL fi cn9 (es.take k) ++ [(xb - fi, xd)] := by
 unfold itemsL
 rw [take_snoc h, List.filter_append, List.map_append]
 simp [hb]
theorem itemsL_no {fi cn9 : Int} {es : List (Int × List Int)} {k : Nat} {xb : Int} {xd : List Int} (h : es[k]? = some (xb, xd)) (hb : ¬ (fi ≤ xb ∧ xb ≤ fi + cn9 - 1)) : itemsL fi cn9 (es.take (k + 1)) = itemsL fi cn9 (es.take k) := by
 unfold itemsL
 rw [take_snoc h, List.filter_append, List.map_append]
 simp; omega
theorem itemsL_len (fi cn9 : Int) (es : List (Int × List Int)) : (itemsL fi cn9 es).length ≤ es.length := by
 unfold itemsL; rw [List.length_map]; exact List.length_filter_le _ _
set_option maxRecDepth 100000
set_option maxHeartbeats 4000000
theorem itemsOf_any (fi cn9 sq : Int) (es : List (Int × List Int)) (p0 : Option Addr) (c0 nn : Nat) (w0 : World) (h0 : Rd (fun _ => True) w0 (.slice p0 nn c0) (.l 2 (es.map itD))) (hl : es.length ≤ 1000000) (hok : ItsOk es) (hf : 0 ≤ fi ∧ fi ≤ 1000000) (hc : 0 ≤ cn9 ∧ cn9 ≤ 1000000) :
   Calls Tryz.prog 74 #[.agg #[.int .i64 sq, .slice p0 nn c0], .int .i64 fi, .int .i64 cn9] w0 fun e w' => ∃ p c, e = .returned (.slice p ((itemsL fi cn9 es).map itD).length c) ∧ Rd (New w0) w' (.slice p ((itemsL fi cn9 es).map itD).length c) (.l 2 ((itemsL fi cn9 es).map itD)) ∧ Below w0.heap.size w0 w' := by
 obtain rfl : nn = es.length := by obtain ⟨pq, cq, hv, _⟩ := h0.l_shape; injection hv with _ e2 _; rw [List.length_map] at e2; exact e2
 refine ent3 Tryz.func74 rfl Tryz.ntmps74 fun Az Hz => ?_
 have m0 := MemOk.start (fun _ => False) w0
 refine zsr fun K0 hK0 => ?_
 refine plz (e_box Hz m0 20 (cs := [_, _]) rfl rfl rfl fun g1 Az w2 Hz m2 _ _ => ?_)
 refine gz hK0 Hz (.assign rfl .nil) fun Az Hz => ?_
 refine regS Hz (.assign rfl .nil) fun Az Hz => ?_
 refine wsk fun K1 hK1 => ?_
 refine regS Hz (.fa 1 rfl U109 <| .lb m2 20 U40 rfl rfl rfl <| .len rfl U40 <| .move rfl .nil) fun Az Hz => ?_
 refine wp_block ?_
 refine wp_loop_ghost (fun g a w => ∃ (k : Nat) (p : Option Addr) (c : Nat), k ≤ es.length ∧ g = es.length - k ∧ Has 38 [(1, .int .i64 fi), (2, .int .i64 cn9), (7, .slice p ((itemsL fi cn9 (es.take k)).map itD).length c), (11, .slice p0 es.length c0), (12, .int .i64 es.length), (13, .int .i64 k)] a ∧ MemOk (cn w0) w0 [(9, .row (.slice p ((itemsL fi cn9 (es.take k)).map itD).length c) 111 2 ((itemsL fi cn9 (es.take k)).map itD))] w) (es.length) ?_ ?_
 · have mz := m2.nilR 9 111 2
   exact ⟨0, _, _, Nat.zero_le _, rfl, Hz.only [1, 2, 7, 11, 12, 13], mz.only [9]⟩
 clear Hz m2
 rintro g Az w9 ⟨k, p, c, hkl, hg, Hz, m9⟩
 refine regS Hz (.lss rfl rfl .nil) fun Az Hz => ?_
 refine wsk fun K2 hK2 => ?_
 refine bc Hz 14 ?_ ?_
 ·
  intro hb11 Hz; try simp only [QQ, Qax] at hb11
  have hk : k < es.length := by omega
  obtain ⟨⟨xb, xd⟩, hes⟩ : ∃ e, es[k]? = some e := ⟨_, List.getElem?_eq_getElem hk⟩
  have hed := hok _ (List.mem_of_getElem? hes)
  dsimp only at hed
  refine wct Hz ?_
  refine zss (hK2 _ _ ?_)
  refine wsk fun K3 hK3 => ?_
  refine wp_block ?_
  refine zsr fun K4 hK4 => ?_
  obtain ⟨gx13, ox13, vx13, hp13, hl13, hR13, hrg13⟩ := h0.extA (k) (r := [.v (.int .i64 xb), .ns .u8 xd]) (itD_get hes)
  revert Hz
  cases hp13
  rcases hR13 with _ | ⟨hd13_0, _ | ⟨hd13_1, _ | _⟩⟩
  obtain rfl := hd13_0.v_out
  clear hd13_0
  obtain ⟨p14, c14, hv14, hw14⟩ := hd13_1.ns_shape; subst hv14
  intro Hz
  refine goCh Hz (.c rfl (fun _ h_ => y_idx h_ rfl rfl U40 fct16 (k) rfl hk) <| .loadAt (hrg13 m9 rfl) rfl U111 rfl fct16 .nil) fun Az Hz => ?_
  refine plz (e_alloc Hz m9 101 fct25 rfl fun g17 Az w18 Hz m18 _ _ => ?_)
  refine plz (stw Hz m18 101 fct16 fun w19 m19 _ => ?_)
  refine znl (hK4 _ _ ?_)
  refine zsr fun K5 hK5 => ?_
  refine goCh Hz (.fa 0 rfl U111 <| .lb m19 101 U3 rfl rfl rfl <| .move rfl <| .move rfl <| .move rfl <| .add rfl rfl (r := fi + cn9) (IntWalk.i64_in _ (by omega)) <| .sub rfl rfl (r := fi + cn9 - 1) (IntWalk.i64_in _ (by omega)) .nil) fun Az Hz => ?_
  refine plz (ecb Hz Tryz.func100 rfl m19 (within_any _ _ _ _) fun Az w34 Hz m35 => ?_)
  refine znl (hK5 _ _ ?_)
  refine bc Hz 24 ?_ ?_
  ·
   intro hb37 Hz; try simp only [QQ, Qax] at hb37
   refine wct Hz ?_
   replace Hz := Hz.oz [1, 2, 7, 11, 12, 13, 9, 24]
   have m39 := m35.oz [9, 101]
   refine region_p 10 (B := [(9, _), (101, _)]) (m39.to ⟨il, il, trivial⟩) m39 (by kernel_rfl) (fun w40 hP40 m40 => ?_); clear m39
   refine goR hP40 [0, 1, 2, 3, 4, 5, 6] [2, 6] 7 0 127 Hz (m40.to ⟨il, il, trivial⟩) (.move rfl <| .fa 0 rfl U111 <| .lb hh 101 U3 rfl rfl rfl <| .move rfl <| .sub rfl rfl (r := xb - fi) (IntWalk.i64_in _ (by omega)) <| .fa 1 rfl U111 <| .lb hh 101 U22 rfl rfl rfl .nil) fun Az Hz => ?_
   refine so 7 ?_
   refine ecl Hz Tryz.func101 rfl (plainB_any xd _ _ _ ((hd13_1.now' m40 rfl).any) hed) ?_
   rintro e w48 ⟨p48, c48, rfl, hd48, hb48⟩
   have m49 := m40.callF 102 rfl hb48 hd48
   refine ⟨_, rfl, ?_⟩; intro Az Hz
   refine ⟨m49.to ⟨il, il, trivial⟩, ?_⟩
   refine goA hP40 [8] 1 255 511 Hz (m49.to ⟨il, il, trivial⟩) (.build rfl fct25 fl111io rfl (by dsimp only [setL, List.set] <;> rfl) .nil) fun Az Hz => ?_
   refine so 9 ?_
   refine e_litR Hz m49 103 (mm := 2) rfl (.cons rfl rfl (.cons (.v _) (.cons (m49.rd (i := 102) rfl) .nil)) .nil) U40 fct24 rfl rfl rfl rfl rfl fun g52 Az w53 Hz m53 => ?_
   refine ⟨m53.to ⟨il, il, trivial⟩, ?_⟩
   have m55 := m53.freezeR 103 rfl
   refine se 10 ?_
   refine e_appR Hz m55 9 rfl rfl rfl (m55.rd (i := 103) rfl) U40 fct24 rfl rfl (by decide) (by have := itemsL_len fi cn9 (es.take k); rw [List.length_take] at this; simp; omega) rfl fun p54 c54 Az w56 Hz m56 => ?_
   refine goB hP40 [11] 1 2047 4095 Hz (.assign rfl .nil) fun Az Hz => ?_
   refine wpAnyE_done (by kernel_rfl) ?_ _
   refine hK3 _ _ ?_
   replace Hz := Hz.oz [1, 2, 7, 11, 12, 13, 24]
   refine wp_region_lit ?_
   refine goCh Hz (.inc (k + 1) <| .move rfl .nil) fun Az Hz => ?_
   refine wpList_nil ?_
   show ∃ n', n' < _ ∧ _
   have hE : (itemsL fi cn9 (es.take k)).map itD ++ [[D.v (.int .i64 (xb - fi)), .ns .u8 xd]] = (itemsL fi cn9 (es.take (k + 1))).map itD := by rw [itemsL_yes hes (by omega), List.map_append]; rfl
   rw [hE] at m56 Hz
   exact ⟨es.length - (k + 1), by omega, k + 1, _, _, by omega, rfl, Hz.only [1, 2, 7, 11, 12, 13], m56.only [9]⟩
  intro hb37 Hz; try simp only [QQ, Qax] at hb37
  refine wcf Hz ?_
  refine zss (hK3 _ _ ?_)
  replace Hz := Hz.oz [1, 2, 7, 11, 12, 13, 24]
  refine wp_region_lit ?_
  refine goCh Hz (.inc (k + 1) <| .move rfl .nil) fun Az Hz => ?_
  refine wpList_nil ?_
  show ∃ n', n' < _ ∧ _
  have hE : itemsL fi cn9 (es.take k) = itemsL fi cn9 (es.take (k + 1)) := (itemsL_no hes (by omega)).symm
  rw [hE] at m35 Hz
  exact ⟨es.length - (k + 1), by omega, k + 1, _, _, by omega, rfl, Hz.only [1, 2, 7, 11, 12, 13], m35.only [9]⟩
 intro hb11 Hz; try simp only [QQ, Qax] at hb11
 revert Hz
 obtain rfl : k = es.length := by omega
 intro Hz
 refine wcf Hz ?_
 refine wp_exit ?_
 refine hK1 _ _ ?_
 refine regS Hz (.move rfl <| .assign rfl .nil) fun Az Hz => ?_
 refine rt1 Hz ?_
 rw [List.take_length] at *
 have m66 := m9.freezeR 9 rfl
 exact ⟨_, _, rfl, m66.outF (i := 9) rfl, m66.below⟩
end
section
def stStep (L : List (List Int)) (x : Int × List Int) : List (List Int) := if 0 ≤ x.1 ∧ x.1 ≤ (L.length : Int) - 1 then L.set x.1.toNat x.2 else L
def stW (L : List (List Int)) (x : Int × List (Int × List Int)) : List (List Int) := x.2.foldl stStep L
set_option maxRecDepth 100000
set_option maxHeartbeats 4000000
end
end Go.Proofs.YtamjnimaeecmoaaGreat.K
