/- Parameters of any plain type (numbers, bools, strings, slices, structs, one in the other), opened as data. For any program. -/
import Derived.Test.YtocfbocdnklllaaAb11
import Derived.Deep.Slices
import Derived.SizedLaws
namespace Go.Proofs.Ytocfbocdnklllaa.K
open Go.ChangeShapes Go.WideShapes Go.ChangeAt Go.RowKit
set_option linter.unusedVariables false
set_option linter.unusedSimpArgs false

inductive Shp where
 | i (k : IntKind)
 | bo
 | st
 | ns (k : IntKind)
 | l (ss : List Shp)
mutual
inductive DOk : Shp → D → Prop
 | i {k : IntKind} {z : Int} (h : (Lit.int k z).wf = true) : DOk (.i k) (.v (.int k z))
 | bo (x : Bool) : DOk .bo (.v (.bool x))
 | st (x : ByteArray) (h : x.size ≤ reachBytes) : DOk .st (.v (.string x))
 | ns {k : IntKind} {zs : List Int} (h1 : zs.length ≤ reachBytes) (h : ∀ z ∈ zs, (Lit.int k z).wf = true) : DOk (.ns k) (.ns k zs)
 | l {ss : List Shp} {rows : List (List D)} (h1 : rows.length ≤ reachBytes) (h : ∀ r ∈ rows, DOkL ss r) : DOk (.l ss) (.l ss.length rows)
inductive DOkL : List Shp → List D → Prop
 | nil : DOkL [] []
 | cons {s : Shp} {d : D} {ss : List Shp} {ds : List D} (h : DOk s d) (t : DOkL ss ds) : DOkL (s :: ss) (d :: ds)
end
theorem DOkL.len {ss : List Shp} {ds : List D} (h : DOkL ss ds) : ds.length = ss.length := by
 induction ss generalizing ds with
 | nil => cases h; rfl
 | cons s ss ih => cases h with | cons h t => simp [ih t]
theorem DOkL.app {s1 s2 : List Shp} {d1 d2 : List D} (h1 : DOkL s1 d1) (h2 : DOkL s2 d2) : DOkL (s1 ++ s2) (d1 ++ d2) := by
 induction s1 generalizing d1 with
 | nil => cases h1; exact h2
 | cons s ss ih => cases h1 with | cons h t => exact .cons h (ih t)
theorem RdL.app {S : Nat → Prop} {w : World} {v1 v2 : List Value} {d1 d2 : List D} (h1 : RdL S w v1 d1) (h2 : RdL S w v2 d2) : RdL S w (v1 ++ v2) (d1 ++ d2) := by
 induction h1 with
 | nil => exact h2
 | cons h t ih => exact .cons h ih
inductive Fits (P : Program) : TypeId → List Shp → Prop
 | int {t : TypeId} {k : IntKind} (hu : P.underlying t = some (.int k)) : Fits P t [.i k]
 | bool {t : TypeId} (hu : P.underlying t = some .bool) : Fits P t [.bo]
 | str {t : TypeId} (hu : P.underlying t = some .string) : Fits P t [.st]
 | nums {t e : TypeId} {k : IntKind} (hu : P.underlying t = some (.slice e)) (he : P.underlying e = some (.int k)) (ce : P.cellsOf e = 1) (hb : Nat.ble 1 (P.bytesOf e) = true) : Fits P t [.ns k]
 | rows {t e : TypeId} {ss : List Shp} (hu : P.underlying t = some (.slice e)) (hf : Fits P e ss) (ce : P.cellsOf e = ss.length) (h0 : Nat.blt 0 ss.length = true) (hb : Nat.ble 1 (P.bytesOf e) = true) : Fits P t [.l ss]
 | struct {t : TypeId} {fs : Array Field} {sss : List (List Shp)} (hu : P.underlying t = some (.struct fs)) (ce : P.cellsOf t = sss.flatten.length) (hl : sss.length = fs.size)
     (ho : ∀ (i : Nat) (f : Field) (s : List Shp), fs[i]? = some f → sss[i]? = some s → f.offset = (sss.take i).flatten.length ∧ P.cellsOf f.type = s.length)
     (hf : ∀ (i : Nat) (f : Field) (s : List Shp), fs[i]? = some f → sss[i]? = some s → Fits P f.type s) : Fits P t sss.flatten
 | array {t e : TypeId} {n : Nat} {ss : List Shp} (hu : P.underlying t = some (.array n e)) (hf : Fits P e ss) (ce : P.cellsOf e = ss.length) (ct : P.cellsOf t = (List.replicate n ss).flatten.length) : Fits P t (List.replicate n ss).flatten
inductive FitsL (P : Program) : List Field → Nat → List (List Shp) → Prop
 | nil (o : Nat) : FitsL P [] o []
 | cons {f : Field} {fs : List Field} {o : Nat} {s : List Shp} {ss : List (List Shp)} (ho : f.offset = o) (hc : P.cellsOf f.type = s.length) (hf : Fits P f.type s) (t : FitsL P fs (o + s.length) ss) : FitsL P (f :: fs) o (s :: ss)
theorem FitsL.at {P : Program} {fs : List Field} {o : Nat} {ss : List (List Shp)} (h : FitsL P fs o ss) : ∀ (i : Nat) (f : Field) (s : List Shp), fs[i]? = some f → ss[i]? = some s → (f.offset = o + (ss.take i).flatten.length ∧ P.cellsOf f.type = s.length) ∧ Fits P f.type s := by
 induction h with
 | nil o => intro i f s h1; simp at h1
 | cons ho hc hf t ih =>
   intro i f s h1 h2
   cases i with
   | zero => simp at h1 h2; subst h1; subst h2; exact ⟨⟨by simpa using ho, hc⟩, hf⟩
   | succ i =>
     have := ih i f s (by simpa using h1) (by simpa using h2)
     refine ⟨⟨?_, this.1.2⟩, this.2⟩
     rw [this.1.1]; simp; omega
theorem FitsL.len {P : Program} {fs : List Field} {o : Nat} {ss : List (List Shp)} (h : FitsL P fs o ss) : ss.length = fs.length := by
 induction h with
 | nil => rfl
 | cons _ _ _ _ ih => simp [ih]
theorem Fits.mk {P : Program} {t : TypeId} {fs : Array Field} {sss : List (List Shp)} {ss : List Shp} (hu : P.underlying t = some (.struct fs)) (ce : P.cellsOf t = ss.length) (he : sss.flatten = ss) (h : FitsL P fs.toList 0 sss) : Fits P t ss := by
 subst he
 refine .struct hu ce (by simpa using h.len) (fun i f s h1 h2 => ?_) (fun i f s h1 h2 => (h.at i f s (by simpa using h1) h2).2)
 have := (h.at i f s (by simpa using h1) h2).1
 exact ⟨by rw [this.1, Nat.zero_add], this.2⟩
theorem Fits.arr {P : Program} {t e : TypeId} {n : Nat} {ss ss' : List Shp} (hu : P.underlying t = some (.array n e)) (hf : Fits P e ss) (ce : P.cellsOf e = ss.length) (he : (List.replicate n ss).flatten = ss') (ct : P.cellsOf t = ss'.length) : Fits P t ss' := by
 subst he
 exact .array hu hf ce ct
theorem glue {S : Nat → Prop} {w : World} {cs : List Value} : ∀ (sss : List (List Shp)) (o : Nat), o + sss.flatten.length = cs.length →
   (∀ i s, sss[i]? = some s → (∃ ds, RdL S w ((cs.drop (o + (sss.take i).flatten.length)).take s.length) ds ∧ DOkL s ds) ∧ ∀ c ∈ (cs.drop (o + (sss.take i).flatten.length)).take s.length, c.oneCell' = true) →
   (∃ ds, RdL S w (cs.drop o) ds ∧ DOkL sss.flatten ds) ∧ ∀ c ∈ cs.drop o, c.oneCell' = true
 | [], o, ho, _ => by
   have : cs.drop o = [] := List.drop_of_length_le (by simp at ho; omega)
   rw [this]
   exact ⟨⟨[], .nil, .nil⟩, by simp⟩
 | s :: r, o, ho, h => by
   obtain ⟨⟨d1, h1, h2⟩, h3⟩ := h 0 s rfl
   simp only [List.take_zero, List.flatten_nil, List.length_nil, Nat.add_zero] at h1 h3
   obtain ⟨⟨d2, g1, g2⟩, g3⟩ := glue (S := S) (w := w) (cs := cs) r (o + s.length) (by rw [List.flatten_cons, List.length_append] at ho; omega) (fun i s' hi => by
     have := h (i + 1) s' (by simpa using hi)
     simpa [Nat.add_assoc] using this)
   have e : cs.drop o = (cs.drop o).take s.length ++ cs.drop (o + s.length) := by
     rw [← List.drop_drop, List.take_append_drop]
   rw [e]
   refine ⟨⟨d1 ++ d2, h1.app g1, by simpa using h2.app g2⟩, fun c hc => ?_⟩
   rcases List.mem_append.1 hc with hc | hc
   · exact h3 c hc
   · exact g3 c hc
theorem weightsAll_mem {H : Type} {P : Program} {e : TypeId} : ∀ {l : List (DataW H)} {d : DataW H}, d ∈ l → ∀ n ∈ d.weights P e, n ∈ DataW.weightsAll P e l
 | x :: r, d, h, n, hn => by
   simp only [DataW.weightsAll, List.mem_append]
   rcases List.mem_cons.1 h with rfl | h
   · exact .inl hn
   · exact .inr (weightsAll_mem h n hn)
theorem open_shp {H : Type} {enc : TypeId × Value → H} {P : Program} {w : World} {base : Nat} {held : Bool} {t : TypeId} {ss : List Shp} (hf : Fits P t ss) : ∀ {fuel : Nat} {cs : List Value} {x : DataW H × List MemPlace},
   DataW.trod enc P w base (fun _ => true) held fuel t cs = some x → (∀ n ∈ x.1.weights P t, n ≤ reachBytes) → (∃ ds, RdL (fun _ => True) w cs ds ∧ DOkL ss ds) ∧ ∀ c ∈ cs, c.oneCell' = true := by
 induction hf with
 | int hu =>
   intro fuel cs x h hw
   obtain ⟨n, rfl, rfl, hwf⟩ := DataW.trod_int hu h
   exact ⟨⟨_, .cons (.v _) .nil, .cons (.i hwf) .nil⟩, fun c hc => by rw [List.mem_singleton.1 hc]; rfl⟩
 | bool hu =>
   intro fuel cs x h hw
   obtain ⟨n, rfl, rfl⟩ := DataW.trod_bool hu h
   exact ⟨⟨_, .cons (.v _) .nil, .cons (.bo _) .nil⟩, fun c hc => by rw [List.mem_singleton.1 hc]; rfl⟩
 | str hu =>
   intro fuel cs x h hw
   obtain ⟨n, rfl, rfl, hm⟩ := DataW.trod_string hu h
   have := hw n.data.toList.length (by simp [DataW.weights])
   exact ⟨⟨_, .cons (.v _) .nil, .cons (.st _ (by simpa using this)) .nil⟩, fun c hc => by rw [List.mem_singleton.1 hc]; rfl⟩
 | @nums t e k hu he ce hb =>
   intro fuel cs x h hw
   have hb' : 1 ≤ P.bytesOf e := Nat.le_of_ble_eq_true hb
   rcases open_ints hu he ce h with ⟨rfl, rfl⟩ | ⟨a, l, c, zs, rfl, _, hl, hm, hz, rfl, hcell, hwz⟩
   · exact ⟨⟨[.ns k []], .cons (Rd.nilN _ _ _ _) .nil, .cons (.ns (Nat.zero_le _) (by intro z hz; cases hz)) .nil⟩, fun c hc => by rw [List.mem_singleton.1 hc]; rfl⟩
   · obtain ⟨ys, h1, h2, h3⟩ := NumsS.ofRow (k := k) (w := w) (a := some a) (len := l) (cap := c) (zs := zs) (.inr ⟨_, rfl, hl, hm, by simpa using hz, hcell, hwz⟩)
     subst h2
     have hlen := hw (((zs.take ys.length).length + (zs.drop ys.length).length) * P.bytesOf e) (by simp [DataW.weights, hu, lits])
     have hge : (zs.take ys.length).length + (zs.drop ys.length).length ≤ ((zs.take ys.length).length + (zs.drop ys.length).length) * P.bytesOf e := Nat.le_mul_of_pos_right _ hb'
     have hsum : (zs.take ys.length).length + (zs.drop ys.length).length = zs.length := by rw [← List.length_append, List.take_append_drop]
     have hzl : zs.length = c := by simpa using hz
     exact ⟨⟨[.ns k ys], .cons h1 .nil, .cons (.ns (by omega) h3) .nil⟩, fun c hc => by rw [List.mem_singleton.1 hc]; rfl⟩
 | @rows t e ss hu hf ce h0 hb ih =>
   intro fuel cs x h hw
   have hb' : 1 ≤ P.bytesOf e := Nat.le_of_ble_eq_true hb
   rcases Deep.open_slice hu h with ⟨rfl, rfl⟩ | ⟨a, len, cap, m, n, DD, Pl, rfl, _, hl, hm, hmm, rfl, hx⟩
   · exact ⟨⟨[.l ss.length []], .cons (.l0 none 0 _) .nil, .cons (.l (Nat.zero_le _) (by intro r hr; cases hr)) .nil⟩, fun c hc => by rw [List.mem_singleton.1 hc]; rfl⟩
   · simp only [if_true] at hmm
     subst hmm
     rw [ce] at hx
     have hlen := hw ((((List.range len).map DD).length + ((List.range (m - len)).map fun j => DD (len + j)).length) * P.bytesOf e) (by simp [DataW.weights, hu])
     have hge : (((List.range len).map DD).length + ((List.range (m - len)).map fun j => DD (len + j)).length) ≤ (((List.range len).map DD).length + ((List.range (m - len)).map fun j => DD (len + j)).length) * P.bytesOf e := Nat.le_mul_of_pos_right _ hb'
     simp only [List.length_map, List.length_range] at hlen hge
     have each : ∀ i, i < len → ∃ y : List Value × List D, w.cells? base (a.add (i * ss.length)) ss.length = some y.1 ∧ RdL (fun _ => True) w y.1 y.2 ∧ DOkL ss y.2 ∧ ∀ c ∈ y.1, c.oneCell' = true := by
       intro i hi
       obtain ⟨cs', h1, h2⟩ := hx i (by omega)
       obtain ⟨⟨ds, g1, g2⟩, g3⟩ := ih h2 (fun n' hn' => hw n' (by
         simp only [DataW.weights, hu, List.mem_cons, List.mem_append]
         exact .inr (.inl (weightsAll_mem (List.mem_map.2 ⟨i, List.mem_range.2 hi, rfl⟩) n' hn'))))
       exact ⟨(cs', ds), h1, g1, g2, g3⟩
     obtain ⟨y, hy⟩ := Deep.choose_lt each
     have hrows : (((List.range len).map fun i => (y i).2)).length = len := by simp
     refine ⟨⟨[.l ss.length ((List.range len).map fun i => (y i).2)], .cons ?_ .nil, .cons (.l (by omega) (fun r hr => ?_)) .nil⟩, fun c hc => by rw [List.mem_singleton.1 hc]; rfl⟩
     · have h0' : 0 < ss.length := by simpa using h0
       by_cases hl0 : len = 0
       · subst hl0; exact .l0 _ _ _
       · obtain ⟨bb, off, spot⟩ := a
         have hc0 : w.cell? ((⟨bb, off, spot⟩ : Addr).add (0 * ss.length + 0)) = some ((y 0).1[0]'(by have := (World.cells?_some (hy 0 (by omega)).1).2.1; omega)) := by
           have h3 := (World.cells?_some (hy 0 (by omega)).1).2.2 0 h0'
           simp only [Addr.add_add] at h3
           rw [h3]
           exact List.getElem?_eq_getElem _
         have hspot : spot = none := by simpa [Addr.add] using World.cell?_spot hc0
         subst hspot
         have hbl := World.block_lt_of_cell? w _ hc0
         rw [Addr.add_mid] at hbl
         have hrd := Rd.l (S := fun _ => True) (w := w) ss.length bb off m ((List.range len).map fun i => (y i).2) (fun j q => ((y j).1[q]?).getD undef) trivial hbl (by rw [hrows]; exact hl)
           (fun r hr => by obtain ⟨i, hi, rfl⟩ := List.mem_map.1 hr; exact (hy i (List.mem_range.1 hi)).2.2.1.len)
           (fun j q hj hq => by
             have hj' : j < len := by omega
             obtain ⟨e1, e2, e3, e4⟩ := hy j hj'
             obtain ⟨-, f2, f3⟩ := World.cells?_some e1
             have := f3 q hq
             rw [Addr.add_mid, Addr.add_mid] at this
             rw [this, List.getElem?_eq_getElem (by omega)]
             exact ⟨rfl, e4 _ (List.getElem_mem _)⟩)
           (fun j q r d hj hq => by
             have hj' : j < len := by have := (List.getElem?_eq_some_iff.1 hj).1; omega
             obtain ⟨e1, e2, e3, e4⟩ := hy j hj'
             simp [hj'] at hj
             subst hj
             have hql := (List.getElem?_eq_some_iff.1 hq).1
             have hvl := e2.len
             have hv : (y j).1[q]? = some ((y j).1[q]'(by omega)) := List.getElem?_eq_getElem (by omega)
             show Rd _ w (((y j).1[q]?).getD undef) d
             rw [hv]
             exact e2.get q _ d hv hq)
         rw [hrows] at hrd
         exact hrd
     · obtain ⟨i, hi, rfl⟩ := List.mem_map.1 hr
       exact (hy i (List.mem_range.1 hi)).2.2.1
 | @struct t fs sss hu ce hl ho hf ih =>
   intro fuel cs x h hw
   obtain ⟨xs, n, rfl, rfl, hcl, hxl, hxs⟩ := DataW.trod_struct hu h
   have := glue (S := fun _ => True) (w := w) (cs := cs) sss 0 (by rw [Nat.zero_add, hcl, ce]) (fun i s hi => by
     have hil : i < sss.length := (List.getElem?_eq_some_iff.1 hi).1
     have hfi : fs[i]? = some fs[i] := Array.getElem?_eq_getElem (by omega)
     obtain ⟨h1, h2⟩ := ho i _ s hfi hi
     have h3 := hxs i _ hfi
     have hxi : xs[i]? = some xs[i] := List.getElem?_eq_getElem (by omega)
     rw [h1, h2, hxi] at h3
     rw [Nat.zero_add]
     refine ih i _ s hfi hi h3 (fun n' hn' => hw n' ?_)
     simp only [DataW.weights, hu]
     exact DataW.weights_mem_each (j := i) (t := fs[i].type) (d := xs[i].1) (by simp [hfi]) (by simp [hxi]) n' hn')
   simpa using this
 | @array t e k ss hu hf ce ct ih =>
   intro fuel cs x h hw
   obtain ⟨xs, n, rfl, rfl, hcl, hxl, hxs⟩ := DataW.trod_array hu h
   have := glue (S := fun _ => True) (w := w) (cs := cs) (List.replicate k ss) 0 (by rw [Nat.zero_add, hcl, ct]) (fun i s hi => by
     obtain ⟨hik, hs⟩ := List.getElem?_eq_some_iff.1 hi
     rw [List.length_replicate] at hik
     rw [List.getElem_replicate] at hs
     subst hs
     have h3 := hxs i hik
     have hxi : xs[i]? = some xs[i] := List.getElem?_eq_getElem (by omega)
     rw [ce, hxi] at h3
     have hoff : ((List.replicate k ss).take i).flatten.length = i * ss.length := by
       rw [List.take_replicate, Nat.min_eq_left (by omega), List.length_flatten, List.map_replicate, List.sum_replicate_nat]
     rw [Nat.zero_add, hoff]
     refine ih h3 (fun n' hn' => hw n' ?_)
     simp only [DataW.weights, hu]
     exact weightsAll_mem (d := xs[i].1) (List.mem_map.2 ⟨xs[i], List.getElem_mem _, rfl⟩) n' hn')
   simpa using this
theorem open_val {H : Type} {enc : TypeId × Value → H} {P : Program} {w : World} {base : Nat} {held : Bool} {t : TypeId} {ss : List Shp} (hf : Fits P t ss) {d : DataW H} {ps : List MemPlace} {cs : Array Value}
   (h : DataW.Trod enc P w base (fun _ => true) held t (.agg cs) d ps) (hw : ∀ n ∈ d.weights P t, n ≤ reachBytes) :
   ∃ ds, RdL (fun _ => True) w cs.toList ds ∧ DOkL ss ds := by
 obtain ⟨fuel, h⟩ := h
 exact (open_shp hf h hw).1
theorem open_rows {H : Type} {enc : TypeId × Value → H} {P : Program} {w : World} {base : Nat} {held : Bool} {t : TypeId} {ss : List Shp} (hf : Fits P t [.l ss]) {fuel : Nat} {a : Option Addr} {len cap : Nat} {x : DataW H × List MemPlace}
   (h : DataW.trod enc P w base (fun _ => true) held fuel t [.slice a len cap] = some x) (hw : ∀ n ∈ x.1.weights P t, n ≤ reachBytes) :
   ∃ rows : List (List D), Rd (fun _ => True) w (.slice a rows.length cap) (.l ss.length rows) ∧ rows.length = len ∧ rows.length ≤ reachBytes ∧ ∀ r ∈ rows, DOkL ss r := by
 obtain ⟨⟨ds, h1, h2⟩, -⟩ := open_shp hf h hw
 cases h2 with
 | cons h2 h3 =>
   cases h3
   cases h2 with
   | l h4 h5 =>
     cases h1 with
     | cons h1 _ =>
       obtain ⟨p, c, e, -⟩ := h1.l_shape
       injection e with e1 e2 e3
       subst e1; subst e3
       exact ⟨_, e2 ▸ h1, e2.symm, h4, h5⟩
theorem rows_map {α : Type} {f : α → List D} {Q : α → Prop} : ∀ {rows : List (List D)}, (∀ r ∈ rows, ∃ a, r = f a ∧ Q a) → ∃ al : List α, rows = al.map f ∧ ∀ a ∈ al, Q a
 | [], _ => ⟨[], rfl, by simp⟩
 | r :: rs, h => by
   obtain ⟨a, h1, h2⟩ := h r (by simp)
   obtain ⟨al, h3, h4⟩ := rows_map (fun r' hr => h r' (List.mem_cons_of_mem _ hr))
   exact ⟨a :: al, by rw [h1, h3]; rfl, fun x hx => by rcases List.mem_cons.1 hx with rfl | hx; exact h2; exact h4 x hx⟩
theorem DOk.l_out {ss : List Shp} {d : D} (h : DOk (.l ss) d) : ∃ rows, d = .l ss.length rows ∧ rows.length ≤ reachBytes ∧ ∀ r ∈ rows, DOkL ss r := by cases h with | l h1 h2 => exact ⟨_, rfl, h1, h2⟩
theorem DOk.ns_out {k : IntKind} {d : D} (h : DOk (.ns k) d) : ∃ zs, d = .ns k zs ∧ zs.length ≤ reachBytes ∧ ∀ z ∈ zs, (Lit.int k z).wf = true := by cases h with | ns h1 h2 => exact ⟨_, rfl, h1, h2⟩
theorem DOk.i_out {k : IntKind} {d : D} (h : DOk (.i k) d) : ∃ z, d = .v (.int k z) ∧ (Lit.int k z).wf = true := by cases h with | i h => exact ⟨_, rfl, h⟩
theorem DOkL.cons_out {s : Shp} {ss : List Shp} {ds : List D} (h : DOkL (s :: ss) ds) : ∃ d r, ds = d :: r ∧ DOk s d ∧ DOkL ss r := by cases h with | cons h t => exact ⟨_, _, rfl, h, t⟩
theorem DOkL.nil_out {ds : List D} (h : DOkL [] ds) : ds = [] := by cases h; rfl
end Go.Proofs.Ytocfbocdnklllaa.K
