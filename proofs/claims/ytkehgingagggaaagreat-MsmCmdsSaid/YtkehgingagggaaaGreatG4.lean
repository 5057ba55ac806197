/- General laws of walks. -/
import Derived.Test.YtkehgingagggaaaGreatG3
import Derived.Deep.Slices
import Derived.SizedLaws
import Derived.Laws.MakeOwn
namespace Go.Proofs.YtkehgingagggaaaGreat.K
open Go.ChangeShapes Go.WideShapes Go.ChangeAt Go.RowKit
set_option linter.unusedVariables false
set_option linter.unusedSimpArgs false
section
theorem run_appM {P : Program} {w : World} (base : Nat) (t ty e : TypeId) (k : IntKind) (bytes : Nat) (ht : P.underlying t = some (.slice e)) (hinf : (P.info? e).map (fun i => (i.zero,i.size,i.bytes)) = some (some (.int k 0),1,bytes))
   (u : Value) (zs : List Int) (hu : IsNums k w u zs) (hn : zs.length ≤ maxLen) (hbn : zs.length * bytes ≤ 140737488355328) (hbase : base ≤ w.heap.size) :
   ∃ v' w',(Builtin.append_ #[t,t] ty #[.slice none 0 0,u]).run P w = .ok v' w' ∧ w'.ownsRow base e 1 v' zs.length (zs.map (Value.int k)) ∧ w.grownBy w' none ∧ (v'.ownBlock = none ∨ v'.ownBlock = some w.heap.size) := by
 obtain ⟨p,c,rfl,hp⟩ := hu
 have hown : w.ownsRow base e 1 (.slice none 0 0) 0 [] := World.ownsRow_nil _ _ _ _
 have main : ∀ ad : Addr,p = some ad → (∀ j v,(zs.map (Value.int k))[j]? = some v → w.cell? (ad.add j) = some v) → ∃ v' w',(Builtin.append_ #[t,t] ty #[.slice none 0 0,.slice p zs.length c]).run P w = .ok v' w' ∧ w'.ownsRow base e 1 v' zs.length (zs.map (Value.int k)) ∧ w.grownBy w' none ∧ (v'.ownBlock = none ∨ v'.ownBlock = some w.heap.size) := by
   intro ad hpa hcells
   rw [hpa]
   have := run_append_where (P := P) w base t ty e (.int k 0) 1 bytes ht hinf rfl (by decide) (.slice none 0 0) 0 [] hown ad zs.length c (zs.map (Value.int k)) (by simp) hcells (by intro u hu; obtain ⟨y,_,rfl⟩ := List.mem_map.1 hu; rfl) (by omega) (by rw [Nat.zero_add]; exact hbn) hbase
   simpa [Value.ownBlock] using this
 by_cases h0 : zs.length = 0
 · obtain rfl := List.length_eq_zero_iff.1 h0
   cases p with
   | none =>
     obtain ⟨i0,hi,-⟩ := info_parts hinf
     exact ⟨.slice none 0 0,w,run_app_none ht hi hown c,by simpa using hown,⟨rfl,rfl,rfl,Nat.le_refl _,fun _ _ _ => rfl⟩,.inl rfl⟩
   | some ad => exact main ad rfl (by simp)
 rcases hp with hp | ⟨b,off,rfl,hblk,hc⟩
 · exact absurd hp h0
 refine main _ rfl ?_
 intro j u hj
 have hjn : j < zs.length := by
   have := (List.getElem?_eq_some_iff.1 hj).1
   simpa using this
 rw [Addr.add_lit,hc j hjn]
 simp [hjn] at hj
 subst hj
 simp [List.getD,hjn]
section
variable {P : Program} {n : Nat} {T : List (Nat × Value)} {a : Act} {w w0 : World} {X : Cx} {M : Mm} {tt : TypeId} {pos : String} {af : Array Edge} {gd : Option (Nat × Bool)} {Q : Exit → Act → World → Prop} {K : Act → World → Prop}
theorem e_app0M (ha : Has n T a) (m : MemOk X w0 M w) (i : Nat) {d : Tmp} {t e : TypeId} {k : IntKind} {bytes : Nat} {s x : Operand} {u : Value} {zs : List Int} (hs : evT T s = some (.slice none 0 0)) (hx : evT T x = some u) (hu : IsNums k w u zs)
   (ht : P.underlying t = some (.slice e)) (hinf : (P.info? e).map (fun i => (i.zero,i.size,i.bytes)) = some (some (.int k 0),1,bytes)) (hb8 : 1 ≤ bytes) (hn : zs.length * bytes ≤ 140737488355328) (hd : Nat.blt d n = true)
   (h : ∀ p c a' w',Has n ((d,.slice p zs.length c) :: T) a' → MemOk X w0 ((i,.num (.slice p zs.length c) e k zs) :: M) w' → K a' w') : Oper.wp P ⟨some d,.call { callee := .builtin .append,args := #[s,x],argTypes := #[t,t] },tt,pos,af,gd⟩ a w K Q := by
 have hle : zs.length ≤ zs.length * bytes := Nat.le_mul_of_pos_right _ hb8
 obtain ⟨v',w',hr,h1,h2,h3⟩ := run_appM (P := P) w0.heap.size t tt e k bytes ht hinf u zs hu (by unfold maxLen; omega) hn m.keep.size
 have hm' : MemOk X w0 ((i,.num v' e k zs) :: M) w' := m.upd i _ ((keep_grown (v := .slice none 0 0) h2).mono (fun b e => by cases e)) (fun b hb => by
   rcases h3 with e1 | e1
   · rw [show (Res.num v' e k zs).blk = v'.ownBlock from rfl,e1] at hb; cases hb
   have : some w.heap.size = some b := e1.symm.trans hb
   injection this with this; right; omega) (fun _ _ => h1)
 obtain ⟨p,c,e1⟩ := ownsRow_shape h1
 have hrun : (execOp a.eval ⟨some d,.call { callee := .builtin .append,args := #[s,x],argTypes := #[t,t] },tt,pos,af,gd⟩).run P w = .ok (.value v') w' := by
   simp only [execOp,resolve,invoke,builtin,Sem.run_bind,Sem.run_pure,Result.andThen_ok,List.map_toArray,List.map_cons,List.map_nil,ha.ev hs,ha.ev hx,hr]
 show Oper.upon P _ a K Q _
 rw [hrun]
 subst e1
 exact h p c _ _ (ha.put hd _) hm'
end
theorem SegOk.src {S : Nat → Prop} {w : World} {v : Value} {e : TypeId} {mm : Nat} {rows : List (List D)} (h : SegOk S w v e mm rows) : SrcOk S w v mm rows := by
 obtain ⟨cs,h1,h2,h3,h4,h5⟩ := h
 rcases h1.2 with ⟨e1,h0⟩ | ⟨g,off,cap,cur,e1,hg,hbk,hcap,h7,h8,h9⟩
 · exact ⟨none,0,cs,by rw [e1,h0],h2,h3,h4,h5,.inl h0⟩
 refine ⟨_,cap,cs,e1,h2,h3,h4,h5,.inr ⟨_,rfl,fun j u hj =>?_⟩⟩
 have hjl : j < rows.length * mm := by rw [← h1.1]; exact (List.getElem?_eq_some_iff.1 hj).1
 have := h1.cellAt e1 j hjl
 rw [Addr.add_mid,this,hj]
end
section
inductive Shp where
 | i (k : IntKind)
 | bo
 | st
 | ns (k : IntKind)
 | l (ss : List Shp)
mutual
inductive DOk : Shp → D → Prop
 | i {k : IntKind} {z : Int} (h : (Lit.int k z).wf = true) : DOk (.i k) (.v (.int k z))
 | bo (x : Bool) : DOk .bo (.v (.bool x))
 | st (x : ByteArray) (h : x.size ≤ reachBytes) : DOk .st (.v (.string x))
 | ns {k : IntKind} {zs : List Int} (h1 : zs.length ≤ reachBytes) (h : ∀ z ∈ zs,(Lit.int k z).wf = true) : DOk (.ns k) (.ns k zs)
 | l {ss : List Shp} {rows : List (List D)} (h1 : rows.length ≤ reachBytes) (h : ∀ r ∈ rows,DOkL ss r) : DOk (.l ss) (.l ss.length rows)
inductive DOkL : List Shp → List D → Prop
 | nil : DOkL [] []
 | cons {s : Shp} {d : D} {ss : List Shp} {ds : List D} (h : DOk s d) (t : DOkL ss ds) : DOkL (s :: ss) (d :: ds)
end
theorem DOkL.len {ss : List Shp} {ds : List D} (h : DOkL ss ds) : ds.length = ss.length := by
 induction ss generalizing ds with
 | nil => cases h; rfl
 | cons s ss ih => cases h with | cons h t => simp [ih t]
theorem DOkL.app {s1 s2 : List Shp} {d1 d2 : List D} (h1 : DOkL s1 d1) (h2 : DOkL s2 d2) : DOkL (s1 ++ s2) (d1 ++ d2) := by
 induction s1 generalizing d1 with
 | nil => cases h1; exact h2
 | cons s ss ih => cases h1 with | cons h t => exact .cons h (ih t)
theorem RdL.app {S : Nat → Prop} {w : World} {v1 v2 : List Value} {d1 d2 : List D} (h1 : RdL S w v1 d1) (h2 : RdL S w v2 d2) : RdL S w (v1 ++ v2) (d1 ++ d2) := by
 induction h1 with
 | nil => exact h2
 | cons h t ih => exact .cons h ih
inductive Fits (P : Program) : TypeId → List Shp → Prop
 | int {t : TypeId} {k : IntKind} (hu : P.underlying t = some (.int k)) : Fits P t [.i k]
 | bool {t : TypeId} (hu : P.underlying t = some .bool) : Fits P t [.bo]
 | str {t : TypeId} (hu : P.underlying t = some .string) : Fits P t [.st]
 | nums {t e : TypeId} {k : IntKind} (hu : P.underlying t = some (.slice e)) (he : P.underlying e = some (.int k)) (ce : P.cellsOf e = 1) (hb : Nat.ble 1 (P.bytesOf e) = true) : Fits P t [.ns k]
 | rows {t e : TypeId} {ss : List Shp} (hu : P.underlying t = some (.slice e)) (hf : Fits P e ss) (ce : P.cellsOf e = ss.length) (h0 : Nat.blt 0 ss.length = true) (hb : Nat.ble 1 (P.bytesOf e) = true) : Fits P t [.l ss]
 | struct {t : TypeId} {fs : Array Field} {sss : List (List Shp)} (hu : P.underlying t = some (.struct fs)) (ce : P.cellsOf t = sss.flatten.length) (hl : sss.length = fs.size)
     (ho : ∀ (i : Nat) (f : Field) (s : List Shp),fs[i]? = some f → sss[i]? = some s → f.offset = (sss.take i).flatten.length ∧ P.cellsOf f.type = s.length)
     (hf : ∀ (i : Nat) (f : Field) (s : List Shp),fs[i]? = some f → sss[i]? = some s → Fits P f.type s) : Fits P t sss.flatten
 | array {t e : TypeId} {n : Nat} {ss : List Shp} (hu : P.underlying t = some (.array n e)) (hf : Fits P e ss) (ce : P.cellsOf e = ss.length) (ct : P.cellsOf t = (List.replicate n ss).flatten.length) : Fits P t (List.replicate n ss).flatten
inductive FitsL (P : Program) : List Field → Nat → List (List Shp) → Prop
 | nil (o : Nat) : FitsL P [] o []
 | cons {f : Field} {fs : List Field} {o : Nat} {s : List Shp} {ss : List (List Shp)} (ho : f.offset = o) (hc : P.cellsOf f.type = s.length) (hf : Fits P f.type s) (t : FitsL P fs (o + s.length) ss) : FitsL P (f :: fs) o (s :: ss)
theorem FitsL.at {P : Program} {fs : List Field} {o : Nat} {ss : List (List Shp)} (h : FitsL P fs o ss) : ∀ (i : Nat) (f : Field) (s : List Shp),fs[i]? = some f → ss[i]? = some s → (f.offset = o + (ss.take i).flatten.length ∧ P.cellsOf f.type = s.length) ∧ Fits P f.type s := by
 induction h with
 | nil o => intro i f s h1; simp at h1
 | cons ho hc hf t ih =>
   intro i f s h1 h2
   cases i with
   | zero => simp at h1 h2; subst h1; subst h2; exact ⟨⟨by simpa using ho,hc⟩,hf⟩
   | succ i =>
     have := ih i f s (by simpa using h1) (by simpa using h2)
     refine ⟨⟨?_,this.1.2⟩,this.2⟩
     rw [this.1.1]; simp; omega
theorem FitsL.len {P : Program} {fs : List Field} {o : Nat} {ss : List (List Shp)} (h : FitsL P fs o ss) : ss.length = fs.length := by
 induction h with
 | nil => rfl
 | cons _ _ _ _ ih => simp [ih]
theorem Fits.mk {P : Program} {t : TypeId} {fs : Array Field} {sss : List (List Shp)} {ss : List Shp} (hu : P.underlying t = some (.struct fs)) (ce : P.cellsOf t = ss.length) (he : sss.flatten = ss) (h : FitsL P fs.toList 0 sss) : Fits P t ss := by
 subst he
 refine .struct hu ce (by simpa using h.len) (fun i f s h1 h2 =>?_) (fun i f s h1 h2 => (h.at i f s (by simpa using h1) h2).2)
 have := (h.at i f s (by simpa using h1) h2).1
 exact ⟨by rw [this.1,Nat.zero_add],this.2⟩
theorem glue {S : Nat → Prop} {w : World} {cs : List Value} : ∀ (sss : List (List Shp)) (o : Nat),o + sss.flatten.length = cs.length →
   (∀ i s,sss[i]? = some s → (∃ ds,RdL S w ((cs.drop (o + (sss.take i).flatten.length)).take s.length) ds ∧ DOkL s ds) ∧ ∀ c ∈ (cs.drop (o + (sss.take i).flatten.length)).take s.length,c.oneCell' = true) →
   (∃ ds,RdL S w (cs.drop o) ds ∧ DOkL sss.flatten ds) ∧ ∀ c ∈ cs.drop o,c.oneCell' = true
 | [],o,ho,_ => by
   have : cs.drop o = [] := List.drop_of_length_le (by simp at ho; omega)
   rw [this]
   exact ⟨⟨[],.nil,.nil⟩,by simp⟩
 | s :: r,o,ho,h => by
   obtain ⟨⟨d1,h1,h2⟩,h3⟩ := h 0 s rfl
   simp only [List.take_zero,List.flatten_nil,List.length_nil,Nat.add_zero] at h1 h3
   obtain ⟨⟨d2,g1,g2⟩,g3⟩ := glue (S := S) (w := w) (cs := cs) r (o + s.length) (by rw [List.flatten_cons,List.length_append] at ho; omega) (fun i s' hi => by
     have := h (i + 1) s' (by simpa using hi)
     simpa [Nat.add_assoc] using this)
   have e : cs.drop o = (cs.drop o).take s.length ++ cs.drop (o + s.length) := by
     rw [← List.drop_drop,List.take_append_drop]
   rw [e]
   refine ⟨⟨d1 ++ d2,h1.app g1,by simpa using h2.app g2⟩,fun c hc =>?_⟩
   rcases List.mem_append.1 hc with hc | hc
   · exact h3 c hc
   exact g3 c hc
theorem weightsAll_mem {H : Type} {P : Program} {e : TypeId} : ∀ {l : List (DataW H)} {d : DataW H},d ∈ l → ∀ n ∈ d.weights P e,n ∈ DataW.weightsAll P e l
 | x :: r,d,h,n,hn => by
   simp only [DataW.weightsAll,List.mem_append]
   rcases List.mem_cons.1 h with rfl | h
   · exact .inl hn
   exact .inr (weightsAll_mem h n hn)
theorem open_shp {H : Type} {enc : TypeId × Value → H} {P : Program} {w : World} {base : Nat} {held : Bool} {t : TypeId} {ss : List Shp} (hf : Fits P t ss) : ∀ {fuel : Nat} {cs : List Value} {x : DataW H × List MemPlace},
   DataW.trod enc P w base (fun _ => true) held fuel t cs = some x → (∀ n ∈ x.1.weights P t,n ≤ reachBytes) → (∃ ds,RdL (fun _ => True) w cs ds ∧ DOkL ss ds) ∧ ∀ c ∈ cs,c.oneCell' = true := by
 induction hf with
 | int hu =>
   intro fuel cs x h hw
   obtain ⟨n,rfl,rfl,hwf⟩ := DataW.trod_int hu h
   exact ⟨⟨_,.cons (.v _) .nil,.cons (.i hwf) .nil⟩,fun c hc => by rw [List.mem_singleton.1 hc]; rfl⟩
 | bool hu =>
   intro fuel cs x h hw
   obtain ⟨n,rfl,rfl⟩ := DataW.trod_bool hu h
   exact ⟨⟨_,.cons (.v _) .nil,.cons (.bo _) .nil⟩,fun c hc => by rw [List.mem_singleton.1 hc]; rfl⟩
 | str hu =>
   intro fuel cs x h hw
   obtain ⟨n,rfl,rfl,hm⟩ := DataW.trod_string hu h
   have := hw n.data.toList.length (by simp [DataW.weights])
   exact ⟨⟨_,.cons (.v _) .nil,.cons (.st _ (by simpa using this)) .nil⟩,fun c hc => by rw [List.mem_singleton.1 hc]; rfl⟩
 | @nums t e k hu he ce hb =>
   intro fuel cs x h hw
   have hb' : 1 ≤ P.bytesOf e := Nat.le_of_ble_eq_true hb
   rcases open_ints hu he ce h with ⟨rfl,rfl⟩ | ⟨a,l,c,zs,rfl,_,hl,hm,hz,rfl,hcell,hwz⟩
   · exact ⟨⟨[.ns k []],.cons (Rd.nilN _ _ _ _) .nil,.cons (.ns (Nat.zero_le _) (by intro z hz; cases hz)) .nil⟩,fun c hc => by rw [List.mem_singleton.1 hc]; rfl⟩
   obtain ⟨ys,h1,h2,h3⟩ := NumsS.ofRow (k := k) (w := w) (a := some a) (len := l) (cap := c) (zs := zs) (.inr ⟨_,rfl,hl,hm,by simpa using hz,hcell,hwz⟩)
   subst h2
   have hlen := hw (((zs.take ys.length).length + (zs.drop ys.length).length) * P.bytesOf e) (by simp [DataW.weights,hu,lits])
   have hge : (zs.take ys.length).length + (zs.drop ys.length).length ≤ ((zs.take ys.length).length + (zs.drop ys.length).length) * P.bytesOf e := Nat.le_mul_of_pos_right _ hb'
   have hsum : (zs.take ys.length).length + (zs.drop ys.length).length = zs.length := by rw [← List.length_append,List.take_append_drop]
   have hzl : zs.length = c := by simpa using hz
   exact ⟨⟨[.ns k ys],.cons h1 .nil,.cons (.ns (by omega) h3) .nil⟩,fun c hc => by rw [List.mem_singleton.1 hc]; rfl⟩
 | @rows t e ss hu hf ce h0 hb ih =>
   intro fuel cs x h hw
   have hb' : 1 ≤ P.bytesOf e := Nat.le_of_ble_eq_true hb
   rcases Deep.open_slice hu h with ⟨rfl,rfl⟩ | ⟨a,len,cap,m,n,DD,Pl,rfl,_,hl,hm,hmm,rfl,hx⟩
   · exact ⟨⟨[.l ss.length []],.cons (.l0 none 0 _) .nil,.cons (.l (Nat.zero_le _) (by intro r hr; cases hr)) .nil⟩,fun c hc => by rw [List.mem_singleton.1 hc]; rfl⟩
   simp only [if_true] at hmm
   subst hmm
   rw [ce] at hx
   have hlen := hw ((((List.range len).map DD).length + ((List.range (m - len)).map fun j => DD (len + j)).length) * P.bytesOf e) (by simp [DataW.weights,hu])
   have hge : (((List.range len).map DD).length + ((List.range (m - len)).map fun j => DD (len + j)).length) ≤ (((List.range len).map DD).length + ((List.range (m - len)).map fun j => DD (len + j)).length) * P.bytesOf e := Nat.le_mul_of_pos_right _ hb'
   simp only [List.length_map,List.length_range] at hlen hge
   have each : ∀ i,i < len → ∃ y : List Value × List D,w.cells? base (a.add (i * ss.length)) ss.length = some y.1 ∧ RdL (fun _ => True) w y.1 y.2 ∧ DOkL ss y.2 ∧ ∀ c ∈ y.1,c.oneCell' = true := by
     intro i hi
     obtain ⟨cs',h1,h2⟩ := hx i (by omega)
     obtain ⟨⟨ds,g1,g2⟩,g3⟩ := ih h2 (fun n' hn' => hw n' (by
       simp only [DataW.weights,hu,List.mem_cons,List.mem_append]
       exact .inr (.inl (weightsAll_mem (List.mem_map.2 ⟨i,List.mem_range.2 hi,rfl⟩) n' hn'))))
     exact ⟨(cs',ds),h1,g1,g2,g3⟩
   obtain ⟨y,hy⟩ := Deep.choose_lt each
   have hrows : (((List.range len).map fun i => (y i).2)).length = len := by simp
   refine ⟨⟨[.l ss.length ((List.range len).map fun i => (y i).2)],.cons ?_ .nil,.cons (.l (by omega) (fun r hr =>?_)) .nil⟩,fun c hc => by rw [List.mem_singleton.1 hc]; rfl⟩
   · have h0' : 0 < ss.length := by simpa using h0
     by_cases hl0 : len = 0
     · subst hl0; exact .l0 _ _ _
     obtain ⟨bb,off,spot⟩ := a
     have hc0 : w.cell? ((⟨bb,off,spot⟩ : Addr).add (0 * ss.length + 0)) = some ((y 0).1[0]'(by have := (World.cells?_some (hy 0 (by omega)).1).2.1; omega)) := by
       have h3 := (World.cells?_some (hy 0 (by omega)).1).2.2 0 h0'
       simp only [Addr.add_add] at h3
       rw [h3]
       exact List.getElem?_eq_getElem _
     have hspot : spot = none := by simpa [Addr.add] using World.cell?_spot hc0
     subst hspot
     have hbl := World.block_lt_of_cell? w _ hc0
     rw [Addr.add_mid] at hbl
     have hrd := Rd.l (S := fun _ => True) (w := w) ss.length bb off m ((List.range len).map fun i => (y i).2) (fun j q => ((y j).1[q]?).getD undef) trivial hbl (by rw [hrows]; exact hl)
       (fun r hr => by obtain ⟨i,hi,rfl⟩ := List.mem_map.1 hr; exact (hy i (List.mem_range.1 hi)).2.2.1.len)
       (fun j q hj hq => by
         have hj' : j < len := by omega
         obtain ⟨e1,e2,e3,e4⟩ := hy j hj'
         obtain ⟨-,f2,f3⟩ := World.cells?_some e1
         have := f3 q hq
         rw [Addr.add_mid,Addr.add_mid] at this
         rw [this,List.getElem?_eq_getElem (by omega)]
         exact ⟨rfl,e4 _ (List.getElem_mem _)⟩)
       (fun j q r d hj hq => by
         have hj' : j < len := by have := (List.getElem?_eq_some_iff.1 hj).1; omega
         obtain ⟨e1,e2,e3,e4⟩ := hy j hj'
         simp [hj'] at hj
         subst hj
         have hql := (List.getElem?_eq_some_iff.1 hq).1
         have hvl := e2.len
         have hv : (y j).1[q]? = some ((y j).1[q]'(by omega)) := List.getElem?_eq_getElem (by omega)
         show Rd _ w (((y j).1[q]?).getD undef) d
         rw [hv]
         exact e2.get q _ d hv hq)
     rw [hrows] at hrd
     exact hrd
   obtain ⟨i,hi,rfl⟩ := List.mem_map.1 hr
   exact (hy i (List.mem_range.1 hi)).2.2.1
 | @struct t fs sss hu ce hl ho hf ih =>
   intro fuel cs x h hw
   obtain ⟨xs,n,rfl,rfl,hcl,hxl,hxs⟩ := DataW.trod_struct hu h
   have := glue (S := fun _ => True) (w := w) (cs := cs) sss 0 (by rw [Nat.zero_add,hcl,ce]) (fun i s hi => by
     have hil : i < sss.length := (List.getElem?_eq_some_iff.1 hi).1
     have hfi : fs[i]? = some fs[i] := Array.getElem?_eq_getElem (by omega)
     obtain ⟨h1,h2⟩ := ho i _ s hfi hi
     have h3 := hxs i _ hfi
     have hxi : xs[i]? = some xs[i] := List.getElem?_eq_getElem (by omega)
     rw [h1,h2,hxi] at h3
     rw [Nat.zero_add]
     refine ih i _ s hfi hi h3 (fun n' hn' => hw n' ?_)
     simp only [DataW.weights,hu]
     exact DataW.weights_mem_each (j := i) (t := fs[i].type) (d := xs[i].1) (by simp [hfi]) (by simp [hxi]) n' hn')
   simpa using this
 | @array t e k ss hu hf ce ct ih =>
   intro fuel cs x h hw
   obtain ⟨xs,n,rfl,rfl,hcl,hxl,hxs⟩ := DataW.trod_array hu h
   have := glue (S := fun _ => True) (w := w) (cs := cs) (List.replicate k ss) 0 (by rw [Nat.zero_add,hcl,ct]) (fun i s hi => by
     obtain ⟨hik,hs⟩ := List.getElem?_eq_some_iff.1 hi
     rw [List.length_replicate] at hik
     rw [List.getElem_replicate] at hs
     subst hs
     have h3 := hxs i hik
     have hxi : xs[i]? = some xs[i] := List.getElem?_eq_getElem (by omega)
     rw [ce,hxi] at h3
     have hoff : ((List.replicate k ss).take i).flatten.length = i * ss.length := by
       rw [List.take_replicate,Nat.min_eq_left (by omega),List.length_flatten,List.map_replicate,List.sum_replicate_nat]
     rw [Nat.zero_add,hoff]
     refine ih h3 (fun n' hn' => hw n' ?_)
     simp only [DataW.weights,hu]
     exact weightsAll_mem (d := xs[i].1) (List.mem_map.2 ⟨xs[i],List.getElem_mem _,rfl⟩) n' hn')
   simpa using this
theorem open_val {H : Type} {enc : TypeId × Value → H} {P : Program} {w : World} {base : Nat} {held : Bool} {t : TypeId} {ss : List Shp} (hf : Fits P t ss) {d : DataW H} {ps : List MemPlace} {cs : Array Value}
   (h : DataW.Trod enc P w base (fun _ => true) held t (.agg cs) d ps) (hw : ∀ n ∈ d.weights P t,n ≤ reachBytes) :
   ∃ ds,RdL (fun _ => True) w cs.toList ds ∧ DOkL ss ds := by
 obtain ⟨fuel,h⟩ := h
 exact (open_shp hf h hw).1
theorem rows_map {α : Type} {f : α → List D} {Q : α → Prop} : ∀ {rows : List (List D)},(∀ r ∈ rows,∃ a,r = f a ∧ Q a) → ∃ al : List α,rows = al.map f ∧ ∀ a ∈ al,Q a
 | [],_ => ⟨[],rfl,by simp⟩
 | r :: rs,h => by
   obtain ⟨a,h1,h2⟩ := h r (by simp)
   obtain ⟨al,h3,h4⟩ := rows_map (fun r' hr => h r' (List.mem_cons_of_mem _ hr))
   exact ⟨a :: al,by rw [h1,h3]; rfl,fun x hx => by rcases List.mem_cons.1 hx with rfl | hx; exact h2; exact h4 x hx⟩
theorem DOk.l_out {ss : List Shp} {d : D} (h : DOk (.l ss) d) : ∃ rows,d = .l ss.length rows ∧ rows.length ≤ reachBytes ∧ ∀ r ∈ rows,DOkL ss r := by cases h with | l h1 h2 => exact ⟨_,rfl,h1,h2⟩
theorem DOk.ns_out {k : IntKind} {d : D} (h : DOk (.ns k) d) : ∃ zs,d = .ns k zs ∧ zs.length ≤ reachBytes ∧ ∀ z ∈ zs,(Lit.int k z).wf = true := by cases h with | ns h1 h2 => exact ⟨_,rfl,h1,h2⟩
theorem DOk.i_out {k : IntKind} {d : D} (h : DOk (.i k) d) : ∃ z,d = .v (.int k z) ∧ (Lit.int k z).wf = true := by cases h with | i h => exact ⟨_,rfl,h⟩
theorem DOkL.cons_out {s : Shp} {ss : List Shp} {ds : List D} (h : DOkL (s :: ss) ds) : ∃ d r,ds = d :: r ∧ DOk s d ∧ DOkL ss r := by cases h with | cons h t => exact ⟨_,_,rfl,h,t⟩
theorem DOkL.nil_out {ds : List D} (h : DOkL [] ds) : ds = [] := by cases h; rfl
end
section
def ownL (M : Mm) : List Nat := M.filterMap (fun p => p.2.blk)
def cxM (X : Cx) (M : Mm) (w : World) (L : Mm) : Cx := ⟨ownL L,fun b => b < w.heap.size → Free X M b⟩
def Res.pass : Res → Bool
 | .num _ _ _ _ => false
 | .row _ _ _ _ => false
 | .rowC _ _ _ _ _ => false
 | _ => true
def dropM (M : Mm) (ids : List Nat) : Mm := M.filter (fun p => !(ids.any (Nat.beq p.1)))
theorem lk_mem {α : Type} : ∀ {M : List (Nat × α)} {i : Nat} {r : α},lk M i = some r → (i,r) ∈ M
 | [],i,r,h => by cases h
 | (k,x) :: t,i,r,h => by
   rw [lk_cons] at h
   split at h
   · rename_i e; subst e; cases h; exact List.mem_cons_self
   exact List.mem_cons_of_mem _ (lk_mem h)
theorem renM_mem {M : Mm} : ∀ {ps : List (Nat × Nat)} {i : Nat} {r : Res},(i,r) ∈ renM M ps → ∃ j,(i,j) ∈ ps ∧ lk M j = some r
 | [],i,r,h => by cases h
 | (i',j) :: t,i,r,h => by
   rw [renM] at h
   split at h
   · rename_i r' hr
     rcases List.mem_cons.1 h with e | h
     · injection e with e1 e2; subst e1; subst e2; exact ⟨j,List.mem_cons_self,hr⟩
     obtain ⟨j',h1,h2⟩ := renM_mem h; exact ⟨j',List.mem_cons_of_mem _ h1,h2⟩
   obtain ⟨j',h1,h2⟩ := renM_mem h; exact ⟨j',List.mem_cons_of_mem _ h1,h2⟩
theorem ownL_of {M : Mm} {i b : Nat} {r : Res} (h : lk M i = some r) (hb : r.blk = some b) : b ∈ ownL M := List.mem_filterMap.2 ⟨(i,r),lk_mem h,hb⟩
theorem ownL_ren {M : Mm} {ps : List (Nat × Nat)} {b : Nat} (h : b ∈ ownL (renM M ps)) : ∃ i j r,(i,j) ∈ ps ∧ lk M j = some r ∧ r.blk = some b := by
 obtain ⟨⟨i,r⟩,h1,h2⟩ := List.mem_filterMap.1 h
 obtain ⟨j,h3,h4⟩ := renM_mem h1
 exact ⟨i,j,r,h3,h4,h2⟩
theorem lk_app {α : Type} : ∀ {A B : List (Nat × α)} {i : Nat},lk (A ++ B) i = (lk A i).or (lk B i)
 | [],B,i => rfl
 | (k,x) :: t,B,i => by
   rw [List.cons_append,lk_cons,lk_cons]
   split
   · rfl
   exact lk_app
theorem dropM_lk {ids : List Nat} : ∀ {M : Mm} {i : Nat} {r : Res},lk (dropM M ids) i = some r → i ∉ ids ∧ lk M i = some r
 | [],i,r,h => by cases h
 | (k,x) :: t,i,r,h => by
   unfold dropM at h
   rw [List.filter_cons] at h
   split at h
   · rename_i hk
     rw [lk_cons] at h
     rw [lk_cons]
     split at h
     · rename_i e; subst e
       rw [if_pos rfl]
       refine ⟨fun hm =>?_,h⟩
       simp at hk
       exact hk _ hm rfl
     rename_i e
     rw [if_neg e]
     exact dropM_lk h
   rename_i hk
   obtain ⟨h1,h2⟩ := dropM_lk (M := t) h
   refine ⟨h1,?_⟩
   rw [lk_cons]
   split
   · rename_i e; subst e
     simp at hk
     exact absurd hk h1
   exact h2
section
variable {w w0 : World} {X : Cx} {M : Mm}
theorem MemOk.into (m : MemOk X w0 M w) (ps : List (Nat × Nat)) (hp : (ps.all fun p => ps.all fun q => !(p.2 == q.2) || p.1 == q.1) = true) (h2 : (renM M ps).all (fun p => p.2.pass) = true) : MemOk (cxM X M w (renM M ps)) w (renM M ps) w where
 keep := Keep.refl _ _
 fresh := fun b hb hlt => absurd hlt (by omega)
 ok i r h := by
   obtain ⟨j,h3,h4⟩ := renM_out h
   have hpass : r.pass = true := List.all_eq_true.1 h2 _ (lk_mem h)
   have hown : ∀ b,Own (renM M ps) b → Own M b := fun b ⟨q,s,hq,hs⟩ => by obtain ⟨q',_,h5⟩ := renM_out hq; exact ⟨q',s,h5,hs⟩
   have hfree : ∀ b,b < w.heap.size → Free X M b → w.heap[b]? = w.heap[b]? ∧ Free (cxM X M w (renM M ps)) (renM M ps) b := fun b hb hF => ⟨rfl,fun _ => hF,fun ho => hF.2 (hown b ho)⟩
   have hbad : ∀ b,r.blk = some b → b ∈ ownL (renM M ps) := fun b hb => ownL_of h hb
   have ho := m.ok j r h4
   cases r with
   | dat v d => exact Rd.mono ho (Nat.le_refl _) hfree
   | box g e cs => exact ⟨ho.1,.inr (hbad g rfl)⟩
   | num v e k zs => cases hpass
   | row v e mm rows => cases hpass
   | rowC v e mm rows cs => cases hpass
   | seg v e mm rows => exact ⟨ho.1.mono (fun b hb hF => (hfree b hb hF).2),fun b hb => .inr (hbad b hb)⟩
   | cel b o vs => exact ⟨(hfree b ho.2.1 ho.1).2,ho.2⟩
   | any g => exact ⟨ho.1,.inr (hbad g rfl)⟩
   | gone => trivial
   | mp g mm ks rows => obtain ⟨⟨es,ck,h1,h2⟩,h3⟩ := ho; exact ⟨⟨es,ck,h1,h2.mono (Nat.le_refl _) hfree rfl⟩,.inr (hbad g rfl)⟩
   | mpE g mm es ck rows => exact ⟨ho.1.mono (Nat.le_refl _) hfree rfl,.inr (hbad g rfl)⟩
   | obj g o => exact ⟨ho.1,.inr (hbad g rfl)⟩
 sep i j r s b h1 h2' hr hs := by
   obtain ⟨i',a1,a2⟩ := renM_out h1
   obtain ⟨j',b1,b2⟩ := renM_out h2'
   obtain rfl := m.sep i' j' r s b a2 b2 hr hs
   rw [List.all_eq_true] at hp
   have h3 := hp _ a1
   rw [List.all_eq_true] at h3
   have h4 := h3 _ b1
   simpa using h4
theorem Res.ok_low {N N' : Nat} {X X' : List Nat} {S : Nat → Prop} {w : World} {r : Res} (h : r.ok N X S w) (hN : N' ≤ N) (hX : ∀ b,r.blk = some b → b ∈ X → N' ≤ b ∨ b ∈ X') : r.ok N' X' S w := by
 have low : ∀ {e : TypeId} {s : Nat} {v : Value} {n : Nat} {xs : List Value},w.ownsRow N e s v n xs → w.ownsRow N' e s v n xs := by
   intro e s v n xs h
   refine ⟨h.1,?_⟩
   rcases h.2 with hn | ⟨g,cap,cur,rfl,hg,rest⟩
   · exact .inl hn
   exact .inr ⟨g,cap,cur,rfl,Nat.le_trans hN hg,rest⟩
 have two : ∀ b,r.blk = some b → (N ≤ b ∨ b ∈ X) → (N' ≤ b ∨ b ∈ X') := fun b hb h => h.elim (fun h => .inl (Nat.le_trans hN h)) (hX b hb)
 cases r with
 | dat v d => exact h
 | box g e cs => exact ⟨h.1,two g rfl h.2⟩
 | num v e k zs => exact low h
 | row v e mm rows => obtain ⟨cs,h1,h2⟩ := h; exact ⟨cs,low h1,h2⟩
 | rowC v e mm rows cs => exact ⟨low h.1,h.2⟩
 | seg v e mm rows => exact ⟨h.1,fun b hb => two b hb (h.2 b hb)⟩
 | cel b o vs => exact h
 | any g => exact ⟨h.1,two g rfl h.2⟩
 | gone => trivial
 | mp g mm ks rows => exact ⟨h.1,two g rfl h.2⟩
 | mpE g mm es ck rows => exact ⟨h.1,two g rfl h.2⟩
 | obj g o => exact ⟨h.1,two g rfl h.2⟩
theorem MemOk.back (m : MemOk X w0 M w) {ps : List (Nat × Nat)} {L : Mm} {w' : World} (m' : MemOk (cxM X M w (renM M ps)) w L w') (qs : List (Nat × Nat)) (hq : (qs.all fun p => qs.all fun q => !(p.2 == q.2) || p.1 == q.1) = true) : MemOk X w0 (renM L qs ++ dropM M (ps.map (·.2))) w' := by
 -- the blocks that the call might write
 have hbad : ∀ b,b ∈ ownL (renM M ps) → ∃ j r,j ∈ ps.map (·.2) ∧ lk M j = some r ∧ r.blk = some b := fun b hb => by
   obtain ⟨i,j,r,h1,h2,h3⟩ := ownL_ren hb
   exact ⟨j,r,List.mem_map.2 ⟨(i,j),h1,rfl⟩,h2,h3⟩
 have hbadX : ∀ b,b ∈ ownL (renM M ps) → b < w.heap.size ∧ (w0.heap.size ≤ b ∨ b ∈ X.bad) := fun b hb => by
   obtain ⟨j,r,_,h2,h3⟩ := hbad b hb
   exact Res.blk_lt (m.ok j r h2) h3
 have hcase : ∀ i r,lk (renM L qs ++ dropM M (ps.map (·.2))) i = some r → (∃ j,(i,j) ∈ qs ∧ lk L j = some r) ∨ (i ∉ ps.map (·.2) ∧ lk M i = some r) := fun i r h => by
   rw [lk_app] at h
   cases hr : lk (renM L qs) i with
   | some r' =>
     rw [hr] at h
     injection h with h; subst h
     exact .inl (renM_out hr)
   | none =>
     rw [hr] at h
     exact .inr (dropM_lk h)
 have hnew : ∀ j r b,lk L j = some r → r.blk = some b → w.heap.size ≤ b ∨ b ∈ ownL (renM M ps) := fun j r b h1 h2 => (Res.blk_lt (m'.ok j r h1) h2).2
 have hold : ∀ i r b,i ∉ ps.map (·.2) → lk M i = some r → r.blk = some b → b < w.heap.size ∧ b ∉ ownL (renM M ps) := fun i r b h1 h2 h3 => by
   refine ⟨(Res.blk_lt (m.ok i r h2) h3).1,fun hb =>?_⟩
   obtain ⟨j,s,h4,h5,h6⟩ := hbad b hb
   obtain rfl := m.sep i j r s b h2 h5 h3 h6
   exact h1 h4
 have hsame : ∀ b,b < w.heap.size → b ∉ ownL (renM M ps) → w'.heap[b]? = w.heap[b]? := fun b hb hn => m'.keep.2.2.2.2 b hb hn
 have hfree : ∀ b,b < w.heap.size → Free X M b → Free X (renM L qs ++ dropM M (ps.map (·.2))) b := fun b hb hF => by
   refine ⟨hF.1,?_⟩
   rintro ⟨i,r,hi,hr⟩
   rcases hcase i r hi with ⟨j,_,h2⟩ | ⟨_,h2⟩
   · rcases hnew j r b h2 hr with h | h
     · omega
     obtain ⟨j',s,_,h5,h6⟩ := hbad b h
     exact hF.2 ⟨j',s,h5,h6⟩
   exact hF.2 ⟨i,r,h2,hr⟩
 have hnb : ∀ b,b < w.heap.size → Free X M b → b ∉ ownL (renM M ps) := fun b hb hF h => by
   obtain ⟨j',s,_,h5,h6⟩ := hbad b h
   exact hF.2 ⟨j',s,h5,h6⟩
 refine ⟨⟨m'.keep.1.trans m.keep.1,m'.keep.2.1.trans m.keep.2.1,m'.keep.2.2.1.trans m.keep.2.2.1,Nat.le_trans m.keep.size m'.keep.size,fun b hb hn =>?_⟩,m.fresh,fun i r hi =>?_,fun i j r s b hi hj hr hs =>?_⟩
 · rw [hsame b (Nat.lt_of_lt_of_le hb m.keep.size) (fun h => (hbadX b h).2.elim (fun h => by omega) hn)]
   exact m.keep.2.2.2.2 b hb hn
 · rcases hcase i r hi with ⟨j,h1,h2⟩ | ⟨h1,h2⟩
   · have h3 := m'.ok j r h2
     have h4 : r.ok w0.heap.size X.bad (Free (cxM X M w (renM M ps)) L) w' := Res.ok_low h3 m.keep.size (fun b _ hb => (hbadX b hb).2)
     refine Res.ok_mono h4 (Nat.le_refl _) (fun b hb hF => ⟨rfl,?_⟩) (fun _ _ => rfl)
     by_cases hbw : b < w.heap.size
     · exact hfree b hbw (hF.1 hbw)
     refine ⟨m.fresh b (by have := m.keep.size; omega),?_⟩
     rintro ⟨i',r',hi',hr'⟩
     rcases hcase i' r' hi' with ⟨j',_,h6⟩ | ⟨h5,h6⟩
     · exact hF.2 ⟨j',r',h6,hr'⟩
     have := (hold i' r' b h5 h6 hr').1; omega
   exact Res.ok_mono (m.ok i r h2) m'.keep.size (fun b hb hF => ⟨hsame b hb (hnb b hb hF),hfree b hb hF⟩) (fun b hb => hsame b (hold i r b h1 h2 hb).1 (hold i r b h1 h2 hb).2)
 rcases hcase i r hi with ⟨i',a1,a2⟩ | ⟨a1,a2⟩ <;> rcases hcase j s hj with ⟨j',b1,b2⟩ | ⟨b1,b2⟩
 · obtain rfl := m'.sep i' j' r s b a2 b2 hr hs
   rw [List.all_eq_true] at hq
   have h3 := hq _ a1
   rw [List.all_eq_true] at h3
   have h4 := h3 _ b1
   simpa using h4
 · exfalso
   have h1 := hold j s b b1 b2 hs
   rcases hnew i' r b a2 hr with h | h
   · omega
   exact h1.2 h
 · exfalso
   have h1 := hold i r b a1 a2 hr
   rcases hnew j' s b b2 hs with h | h
   · omega
   exact h1.2 h
 exact m.sep i j r s b a2 b2 hr hs
end
end
section
abbrev cn (w : World) : Cx := cx (fun _ => False) w
abbrev New (w : World) (b : Nat) : Prop := w.heap.size ≤ b
section
variable {w w0 : World} {X : Cx} {M : Mm}
theorem cn_new {b : Nat} (h : Free (cn w0) M b) : New w0 b := by
 by_cases hb : b < w0.heap.size
 · exact (h.1 hb).elim
 show w0.heap.size ≤ b; omega
theorem MemOk.outF (m : MemOk (cn w0) w0 M w) {i : Nat} {v : Value} {d : D} (h : lk M i = some (.dat v d)) : Rd (New w0) w v d := (m.ok i _ h : Rd _ _ _ _).cast (fun _ => cn_new)
theorem MemOk.callF (m : MemOk X w0 M w) (i : Nat) (hi : lk M i = none) {w' : World} (hb : Below w.heap.size w w') {u : Value} {d : D} (h : Rd (New w) w' u d) : MemOk X w0 ((i,.dat u d) :: M) w' :=
 (m.later hb).dat i hi (h.cast (fun b hb => m.free_out (.inr hb)))
theorem keepNow (m : MemOk X w0 M w) (hX : X.bad = []) {b : Nat} (hb : b < w0.heap.size) : w.heap[b]? = w0.heap[b]? := m.keep.2.2.2.2 b hb (by rw [hX]; exact List.not_mem_nil)
theorem Blk.now {g : Nat} {e : TypeId} {cs : List Value} (h : Blk w0 g e cs) (m : MemOk X w0 M w) (hX : X.bad = []) : Blk w g e cs := (keepNow m hX h.lt).trans h
theorem Rd.now' {S2 : Nat → Prop} {v : Value} {d : D} (h : Rd S2 w0 v d) (m : MemOk X w0 M w) (hX : X.bad = []) : Rd S2 w v d := h.now m (fun b _ => by rw [hX]; exact List.not_mem_nil)
theorem Rd.extA {S2 : Nat → Prop} {p : Option Addr} {l c mm : Nat} {rows : List (List D)} (h : Rd S2 w0 (.slice p l c) (.l mm rows)) (j : Nat) {r : List D} (hr : rows[j]? = some r) : ∃ g off vs,p = some ⟨g,off,none⟩ ∧ l = rows.length ∧ RdL S2 w0 vs r ∧ ∀ {X : Cx} {M : Mm} {w : World},MemOk X w0 M w → X.bad = [] → w.rangeAt g (off + j * mm) vs := by
 have hj : j < rows.length := (List.getElem?_eq_some_iff.1 hr).1
 rcases Rd.l_out h with rfl | ⟨b,off,c',f,e,hS,hb,hmm,hcell,hrd⟩
 · simp at hj
 injection e with e1 e2 e3
 have hrm : r.length = mm := hmm r (List.mem_of_getElem? hr)
 refine ⟨b,off,(List.range mm).map (f j),e1,e2,RdL.of (by simp [hrm]) (fun q v d h1 h2 =>?_),fun m hX q v hv =>?_⟩
 · have h1' : q < mm := by have := (List.getElem?_eq_some_iff.1 h2).1; omega
   have : v = f j q := by simpa [h1'] using h1.symm
   subst this
   exact hrd j q r _ hr h2
 have hq' := (List.getElem?_eq_some_iff.1 hv).1
 have hq2 : q < mm := by simpa using hq'
 have : v = f j q := by simpa [hq2] using hv.symm
 subst this
 rw [World.cell?_of_block (w := w0) (keepNow m hX hb)]
 exact (hcell j q hj hq2).1
theorem Rd.extN {S2 : Nat → Prop} {p : Option Addr} {l c : Nat} {k : IntKind} {zs : List Int} (h : Rd S2 w0 (.slice p l c) (.ns k zs)) (j : Nat) (hj : j < zs.length) : ∃ g off,p = some ⟨g,off,none⟩ ∧ l = zs.length ∧ ∀ {X : Cx} {M : Mm} {w : World},MemOk X w0 M w → X.bad = [] → w.rangeAt g (off + j * 1) [.int k (zs.getD j 0)] := by
 obtain ⟨a,c',e,hc,h0 | ⟨b,off,rfl,hS,hb,hcell⟩⟩ := h.ns_out
 · omega
 injection e with e1 e2 e3
 refine ⟨b,off,e1,e2,fun m hX q v hv =>?_⟩
 obtain rfl : q = 0 := by have := (List.getElem?_eq_some_iff.1 hv).1; simpa using this
 simp at hv; subst hv
 rw [World.cell?_of_block (w := w0) (keepNow m hX hb),Nat.add_zero,Nat.mul_one]
 exact hcell j hj
theorem Rd.takeL {S : Nat → Prop} {p : Option Addr} {l c mm : Nat} {rows : List (List D)} (h : Rd S w (.slice p l c) (.l mm rows)) (j : Nat) (hj : j ≤ rows.length) : Rd S w (.slice p j c) (.l mm (rows.take j)) := by
 by_cases h0 : j = 0
 · subst h0; rw [List.take_zero]; exact .l0 _ _ _
 rcases Rd.l_out h with rfl | ⟨b,off,c',f,e,hS,hb,hmm,hcell,hrd⟩
 · simp at hj; omega
 obtain ⟨p',c'',e',hle⟩ := h.l_shape
 injection e with e1 e2 e3
 injection e' with e4 e5 e6
 subst e1; subst e6
 have hl : (rows.take j).length = j := by rw [List.length_take]; omega
 have := Rd.l (S := S) (w := w) mm b off c (rows.take j) f hS hb (by omega) (fun r hr => hmm r (List.mem_of_mem_take hr)) (fun i q hi hq => hcell i q (by omega) hq) (fun i q r d hi hq => by
   have hlt : i < j := by have := (List.getElem?_eq_some_iff.1 hi).1; omega
   rw [List.getElem?_take_of_lt hlt] at hi
   exact hrd i q r d hi hq)
 rw [hl] at this; exact this
theorem Rd.dropL {S : Nat → Prop} {p : Option Addr} {l c mm : Nat} {rows : List (List D)} (h : Rd S w (.slice p l c) (.l mm rows)) (j : Nat) (hj : j ≤ rows.length) : Rd S w (.slice (if c = j then p else p.map (·.add (j * mm))) (l - j) (c - j)) (.l mm (rows.drop j)) := by
 obtain ⟨p',c'',e',hle⟩ := h.l_shape
 injection e' with e4 e5 e6
 subst e5
 by_cases h0 : j = rows.length
 · subst h0; rw [List.drop_length,Nat.sub_self]; exact .l0 _ _ _
 rcases Rd.l_out h with rfl | ⟨b,off,c',f,e,hS,hb,hmm,hcell,hrd⟩
 · simp only [List.length_nil] at hj h0; omega
 injection e with e1 e2 e3
 subst e1; subst e6
 rw [if_neg (by omega)]
 have hl : (rows.drop j).length = rows.length - j := List.length_drop
 have := Rd.l (S := S) (w := w) mm b (off + j * mm) (c - j) (rows.drop j) (fun i q => f (j + i) q) hS hb (by omega) (fun r hr => hmm r (List.mem_of_mem_drop hr)) (fun i q hi hq => by
   have := hcell (j + i) q (by omega) hq
   rw [show off + j * mm + i * mm + q = off + (j + i) * mm + q by rw [Nat.add_mul]; omega]
   exact this) (fun i q r d hi hq => by
   rw [List.getElem?_drop] at hi
   exact hrd (j + i) q r d hi hq)
 rw [hl] at this
 simpa [Addr.add_mid] using this
theorem MemOk.takeR (m : MemOk X w0 M w) {i : Nat} {p : Option Addr} {l c mm : Nat} {rows : List (List D)} (hm : lk M i = some (.dat (.slice p l c) (.l mm rows))) (j : Nat) (hj : j ≤ rows.length) (i2 : Nat) (hi2 : lk M i2 = none) : MemOk X w0 ((i2,.dat (.slice p j c) (.l mm (rows.take j))) :: M) w := m.dat i2 hi2 ((m.rd hm).takeL j hj)
theorem MemOk.dropR (m : MemOk X w0 M w) {i : Nat} {p : Option Addr} {l c mm : Nat} {rows : List (List D)} (hm : lk M i = some (.dat (.slice p l c) (.l mm rows))) (j : Nat) (hj : j ≤ rows.length) (i2 : Nat) (hi2 : lk M i2 = none) : MemOk X w0 ((i2,.dat (.slice (if c = j then p else p.map (·.add (j * mm))) (l - j) (c - j)) (.l mm (rows.drop j))) :: M) w := m.dat i2 hi2 ((m.rd hm).dropL j hj)
end
section
variable {P : Program} {n : Nat} {T : List (Nat × Value)} {a : Act} {w w0 : World} {X : Cx} {M : Mm} {tt : TypeId} {pos : String} {af : Array Edge} {gd : Option (Nat × Bool)} {Q : Exit → Act → World → Prop} {K : Act → World → Prop} {d : Option Tmp}
theorem Blk.sub {g : Nat} {e : TypeId} {cs : List Value} (h : Blk w g e cs) (o k : Nat) : w.rangeAt g o ((cs.drop o).take k) := fun j v hj => by
 have hj' : j < k := by have := (List.getElem?_eq_some_iff.1 hj).1; rw [List.length_take] at this; omega
 rw [List.getElem?_take_of_lt hj',List.getElem?_drop] at hj
 rw [h.cell]; exact hj
theorem y_loadAt1 (ha : Has n T a) {t : TypeId} {td : TypeDesc} {x : Operand} {b o q q' : Nat} {vs : List Value} {v : Value} (hr : w.rangeAt b o vs) (hx : evT T x = some (.pointer (some ⟨b,q',none⟩))) (hq : q' = o + q) (hv : nthL vs q = some v) (hu : P.underlying t = some td) (hd : td.isRow = false) : Yl P a w ⟨d,.load t x,tt,pos,af,gd⟩ v := by
 show (execOp _ _).run P w = _
 subst hq
 have hc' : w.cell? ⟨b,o + q,none⟩ = some v := hr q v (by rw [nthL_eq]; exact hv)
 simp [execOp,ha.ev hx,Instr.loadAt,Instr.sureAddr,run_load1 hu hd hc']
theorem y_min (ha : Has n T a) {t t2 : TypeId} {x y : Operand} {k k2 : IntKind} {p q r : Int} (hx : evT T x = some (.int k p)) (hy : evT T y = some (.int k2 q)) (hr : min p q = r) : Yl P a w ⟨d,.call { callee := .builtin .min,args := #[x,y],argTypes := #[t,t2] },tt,pos,af,gd⟩ (.int k r) := by
 show (execOp _ _).run P w = _
 have e : (if q < p then q else p) = r := by rw [← hr]; split <;> omega
 simp [execOp,resolve,invoke,builtin,ha.ev hx,ha.ev hy,Builtin.min_,Builtin.min2,e]
theorem y_max (ha : Has n T a) {t t2 : TypeId} {x y : Operand} {k k2 : IntKind} {p q r : Int} (hx : evT T x = some (.int k p)) (hy : evT T y = some (.int k2 q)) (hr : max p q = r) : Yl P a w ⟨d,.call { callee := .builtin .max,args := #[x,y],argTypes := #[t,t2] },tt,pos,af,gd⟩ (.int k r) := by
 show (execOp _ _).run P w = _
 have e : (if p < q then q else p) = r := by rw [← hr]; split <;> omega
 simp [execOp,resolve,invoke,builtin,ha.ev hx,ha.ev hy,Builtin.max_,Builtin.max2,e]
theorem y_cap (h : Has n T a) {t e : TypeId} {x : Operand} {p : Option Addr} {l c : Nat} (hx : evT T x = some (.slice p l c)) (hu : P.underlying t = some (.slice e)) : Yl P a w ⟨d,.call { callee := .builtin .cap,args := #[x],argTypes := #[t] },tt,pos,af,gd⟩ (.int .i64 c) := by
 show (execOp _ _).run P w = _; simp [execOp,resolve,invoke,builtin,h.ev hx,Builtin.cap_,run_underlying hu,goInt]
theorem e_callV (ha : Has n T a) {d : Tmp} {f : FuncId} {x : Operand} {args : Array Operand} {ats : Array TypeId} {fn : Func} {vs : List Value} (hxf : evT T x = some (.func (.func f) #[] #[])) (hf : P.funcs[f]? = some fn) (hn : (fn.name == "runtime.NumGoroutine") = false) (hb : fn.body.isNone = false) (hargs : evA T args.toList = some vs) (ht : Nat.blt d n = true) {R : Ending → World → Prop} (hc : Calls P f vs.toArray w R) (h : ∀ e w', R e w' → ∃ v, e = .returned v ∧ ∀ a', Has n ((d, v) :: T) a' → K a' w') : Oper.wp P ⟨some d, .call { callee := .value x, args := args, argTypes := ats }, tt, pos, af, gd⟩ a w K Q := by
 have hv : args.map a.eval = vs.toArray := by
   apply Array.ext'; rw [Array.toList_map,ha.evA hargs]
 have hr : (execOp a.eval ⟨some d,.call { callee := .value x,args := args,argTypes := ats },tt,pos,af,gd⟩).run P w = .ok (.enter f vs.toArray) w := by
   have hn' : ¬ fn.name = "runtime.NumGoroutine" := by simpa using hn
   have hb' : ¬ fn.body = none := by cases h9 : fn.body with | none => rw [h9] at hb; cases hb | some c => simp
   simp [execOp,resolve,ha.ev hxf,Deferred.ofValue,invoke,callFunc,hf,hn',hb',hv]
 show Oper.upon P _ a K Q _
 rw [hr]
 show Calls P f vs.toArray w _
 refine hc.mono (fun e w' hR =>?_)
 obtain ⟨v,rfl,hh⟩ := h e w' hR
 exact hh _ (ha.put ht v)
end
end
section
theorem fold_set (off : Nat) : ∀ (l : List Value) (k : Nat) (A : List Value),off + k + l.length ≤ A.length → ((l.zipIdx k).foldl (fun (cs : Array Value) (p : Value × Nat) => cs.setIfInBounds (off + p.2) p.1) A.toArray).toList = A.take (off + k) ++ l ++ A.drop (off + k + l.length)
 | [],k,A,_ => by simp
 | c :: l,k,A,h => by
   simp only [List.length_cons] at h
   rw [List.zipIdx_cons,List.foldl_cons]
   have e : A.toArray.setIfInBounds (off + k) c = (A.set (off + k) c).toArray := by simp
   rw [e,fold_set off l (k + 1) (A.set (off + k) c) (by rw [List.length_set]; omega)]
   have hk : off + k < A.length := by omega
   have e1 : (A.set (off + k) c).take (off + (k + 1)) = A.take (off + k) ++ [c] := by
     rw [show off + (k + 1) = off + k + 1 from by omega,List.take_succ_eq_append_getElem (by rw [List.length_set]; exact hk),List.getElem_set_self,List.take_set_of_le (Nat.le_refl _)]
   have e2 : (A.set (off + k) c).drop (off + (k + 1) + l.length) = A.drop (off + k + (l.length + 1)) := by
     rw [List.drop_set_of_lt (by omega)]; congr 1; omega
   rw [e1,e2,List.length_cons]
   simp
def putL : List Value → List (Nat × Nat) → List (Nat × Value) → Option (List Value)
 | z,_,[] => some z
 | z,ps,(i,v) :: r => match nthL ps i with
   | some (off,sz) => bif Nat.beq v.cells.toList.length sz && Nat.ble (off + sz) z.length then putL (z.take off ++ v.cells.toList ++ z.drop (off + sz)) ps r else none
   | none => none
theorem putL_fill (ps : List (Nat × Nat)) : ∀ (pl : List (Nat × Value)) (z cs : List Value),putL z ps pl = some cs → Instr.fill (fun i => ps[i]?) z.toArray pl = some cs.toArray
 | [],z,cs,h => by unfold putL at h; cases h; rfl
 | (i,v) :: r,z,cs,h => by
   unfold putL at h
   cases hp : nthL ps i with
   | none => rw [hp] at h; cases h
   | some q =>
     obtain ⟨off,sz⟩ := q
     rw [hp] at h
     dsimp only at h
     cases hb : (Nat.beq v.cells.toList.length sz && Nat.ble (off + sz) z.length) with
     | false => rw [hb] at h; cases h
     | true =>
       rw [hb] at h
       dsimp only [cond] at h
       rw [Bool.and_eq_true] at hb
       have h1 := Nat.eq_of_beq_eq_true hb.1
       have h2 := Nat.le_of_ble_eq_true hb.2
       have hsz : v.cells.size = sz := by simpa using h1
       rw [Instr.fill]
       rw [nthL_eq,hp]
       dsimp only
       have hc : ¬ ((v.cells.size ≠ sz || off + v.cells.size > z.toArray.size) = true) := by
         simp [hsz]; omega
       have e : (v.cells.zipIdx.foldl (fun cs (x : Value × Nat) => cs.setIfInBounds (off + x.2) x.1) z.toArray) = (z.take off ++ v.cells.toList ++ z.drop (off + sz)).toArray := by
         apply Array.ext'
         have := fold_set off v.cells.toList 0 z (by rw [Nat.add_zero,h1]; exact h2)
         rw [Nat.add_zero,h1] at this
         rw [← this,← Array.foldl_toList,Array.toList_zipIdx]
       rw [if_neg (by simpa using hc)]
       have := putL_fill ps r _ _ h
       rw [← this,← e]
def placesS (P : Program) (t : TypeId) : Option (List (Nat × Nat)) :=
 match P.underlying t with
 | some (.struct fs) => fs.toList.mapM (fun f => (P.info? f.type).map fun i => (f.offset,i.size))
 | _ => none
section
variable {P : Program} {n : Nat} {T : List (Nat × Value)} {a : Act} {w w0 : World} {X : Cx} {M : Mm} {tt : TypeId} {pos : String} {af : Array Edge} {gd : Option (Nat × Bool)} {Q : Exit → Act → World → Prop} {d : Option Tmp}
theorem built_put {t : TypeId} {z cs : List Value} {ps : List (Nat × Nat)} (hz : ((P.info? t).bind (·.zero)).map (·.cells.toList) = some z) (hps : placesS P t = some ps) (pl : List (Nat × Value)) (hp : putL z ps pl = some cs) : P.built t pl = some cs.toArray := by
 unfold placesS at hps
 unfold Program.built
 cases hi : P.info? t with
 | none => simp [hi] at hz
 | some it =>
   cases hu : P.underlying t with
   | none => simp [hu] at hps
   | some td =>
     cases td <;> try (simp [hu] at hps; done)
     case struct fs =>
       cases hzz : it.zero with
       | none => simp [hi,hzz] at hz
       | some zz =>
         have hzl : zz.cells.toList = z := by simpa [hi,hzz] using hz
         have hzc : zz.cells = z.toArray := by rw [← hzl]
         simp only [hu] at hps
         simp only [hzz,hps,hzc]
         have := putL_fill ps pl z cs hp
         simpa using this
theorem y_buildG (h : Has n T a) {t : TypeId} {parts : Array (Nat × Operand)} {z cs : List Value} {pl : List (Nat × Value)} {ps : List (Nat × Nat)} (hp : K.evP T parts.toList = some pl) (hz : ((P.info? t).bind (·.zero)).map (·.cells.toList) = some z) (hps : placesS P t = some ps) (hc : putL z ps pl = some cs) : Yl P a w ⟨d,.build t parts,tt,pos,af,gd⟩ (.agg cs.toArray) := by
 have hb := built_put hz hps pl hc
 have hpl := h.evP hp
 show (execOp _ _).run P w = _
 have hr := run_build (P := P) w t (parts.map fun (i,x) => (i,a.eval x)) cs.toArray (by rw [Array.toList_map]; rw [← hpl] at hb; exact hb)
 simp only [execOp,Sem.run_bind,hr,Result.andThen_ok,Sem.run_pure]
end
section
variable {P : Program} {n : Nat} {T : List (Nat × Value)} {a : Act} {w : World} {tt : TypeId} {pos : String} {af : Array Edge} {ops : Array Oper} {rest : List Oper} {Q : Exit → Act → World → Prop}
theorem Has.unyielded (ha : Has n T a) {j t : Nat} (hj : (ops[j]?).bind (·.dst) = some t) (hb : lk T t = some undef) (ht : Nat.blt t n = true) : Go.yielded ops a.tmps j = none := by
 have hlt : t < a.tmps.size := by rw [ha.sz]; simpa [Nat.blt_eq] using ht
 have := ha.h t _ hb
 unfold Go.yielded
 rw [hj]
 show (match a.tmps[t]? with | some (.bool b) => some b | _ => none) = none
 rw [Array.getElem?_eq_getElem hlt]
 have e : a.tmps[t] = undef := by simpa [Array.getD,hlt] using this
 rw [e]; rfl
theorem st_skipU {d : Tmp} {op : Op} {j t : Nat} {b : Bool} (ha : Has n T a) (hj : (ops[j]?).bind (·.dst) = some t) (hb : lk T t = some undef) (ht2 : Nat.blt t n = true) (ht : Nat.blt d n = true) (h : ∀ a',Has n ((d,undef) :: T) a' → wpList P ops Q rest a' w) : wpList P ops Q (⟨some d,op,tt,pos,af,some (j,b)⟩ :: rest) a w := by
 refine wpList_step fun K hK =>?_
 rw [if_neg (by simp [Region.wanted,ha.unyielded hj hb ht2])]
 exact hK _ _ (h _ (ha.put ht _))
variable {md : Region.Mode} {S : World → Prop} {e : Nat} {listed : Array Bool} {fuel : Nat}
end
section
variable {P : Program} {n : Nat} {T : List (Nat × Value)} {a : Act} {w w0 : World} {X : Cx} {M : Mm} {tt : TypeId} {pos : String} {af : Array Edge} {gd : Option (Nat × Bool)} {d : Option Tmp}
theorem y_loadSV (ha : Has n T a) (m : MemOk X w0 M w) {t : TypeId} {td : TypeDesc} {x : Operand} {i g o l c mm : Nat} {e : TypeId} {rows : List (List D)} (hm : lk M i = some (.seg (.slice (some ⟨g,o,none⟩) l c) e mm rows)) (J : Nat) {r : List D} (hr : rows[J]? = some r) {q q' : Nat} {v : Value} (hq : nthL r q = some (.v v)) (hx : evT T x = some (.pointer (some ⟨g,q',none⟩))) (hq' : q' = o + J * mm + q) (hu : P.underlying t = some td) (hd : td.isRow = false) : Yl P a w ⟨d,.load t x,tt,pos,af,gd⟩ v := by
 obtain ⟨⟨cs,h1,h2,h3,h4,h5⟩,-⟩ := m.ok i _ hm
 subst hq'
 have hJ : J < rows.length := (List.getElem?_eq_some_iff.1 hr).1
 have hJc : cs[J]? = some cs[J] := List.getElem?_eq_getElem (by omega)
 have hc := (h3 cs[J] (List.getElem_mem (by omega))).1
 rw [← nthL_eq] at hq
 have hqr := (List.getElem?_eq_some_iff.1 hq).1
 have hrm := h4 r (List.mem_of_getElem? hr)
 have hxq : cs[J][q]? = some (cs[J][q]'(by omega)) := List.getElem?_eq_getElem (by omega)
 have hv := (h5 J q cs[J] r _ _ hJc hr hxq hq).v_out
 have hl : l = rows.length := by
   rcases h1.2 with ⟨e1,_⟩ | ⟨_,_,_,_,e1,_⟩
   · cases e1
   injection e1
 subst hl
 have hf := flatten_at cs J q cs[J] (fun c hc => (h3 c hc).1) hJc (by omega)
 have hcell := h1.cellAt rfl (J * mm + q) (by calc J * mm + q < J * mm + mm := by omega
     _ = (J + 1) * mm := by rw [Nat.add_mul]; omega
     _ ≤ rows.length * mm := Nat.mul_le_mul_right _ (by omega))
 have hc' : w.cell? ⟨g,o + J * mm + q,none⟩ = some v := by rw [Nat.add_assoc,hcell,hf,hxq,hv]
 show (execOp _ _).run P w = _
 simp [execOp,ha.ev hx,Instr.loadAt,Instr.sureAddr,run_load1 hu hd hc']
end
section
variable {P : Program} {n : Nat} {T : List (Nat × Value)} {a : Act} {w : World} {tt : TypeId} {pos : String} {af : Array Edge} {gd : Option (Nat × Bool)} {Q : Exit → Act → World → Prop} {K : Act → World → Prop}
end
end
section
theorem RowOk.cast {N : Nat} {S S' : Nat → Prop} {w : World} {v : Value} {e : TypeId} {m : Nat} {rows : List (List D)} (h : RowOk N S w v e m rows) (hs : ∀ b,S b → S' b) : RowOk N S' w v e m rows := by
 obtain ⟨cs,h1,h2,h3,h4,h5⟩ := h
 exact ⟨cs,h1,h2,h3,h4,fun j q c r x d a1 a2 a3 a4 => (h5 j q c r x d a1 a2 a3 a4).cast hs⟩
section
variable {P : Program} {n : Nat} {T : List (Nat × Value)} {a : Act} {w w0 : World} {X : Cx} {M : Mm} {tt : TypeId} {pos : String} {af : Array Edge} {gd : Option (Nat × Bool)} {Q : Exit → Act → World → Prop} {K : Act → World → Prop}
end
end
section
section
variable {P : Program} {n : Nat} {T : List (Nat × Value)} {a : Act} {w : World} {d : Option Tmp} {tt : TypeId} {pos : String} {af : Array Edge} {gd : Option (Nat × Bool)}
theorem y_makeFunc (h : Has n T a) {f : FuncId} {caps : Array Operand} {vs : List Value} (hargs : evA T caps.toList = some vs) : Yl P a w ⟨d,.makeFunc (.func f) #[] caps,tt,pos,af,gd⟩ (.func (.func f) #[] vs.toArray) := by
 have hv : caps.map a.eval = vs.toArray := by
   apply Array.ext'; rw [Array.toList_map,h.evA hargs]
 show (execOp _ _).run P w = _
 simp [execOp,Instr.makeFunc,hv]
end
section
variable {P : Program} {n : Nat} {T : List (Nat × Value)} {a : Act} {w : World} {Q : Exit → Act → World → Prop} {K : Act → World → Prop} {tt : TypeId} {pos : String} {af : Array Edge} {gd : Option (Nat × Bool)}
theorem e_callC (ha : Has n T a) {d : Tmp} {f : FuncId} {x : Operand} {args : Array Operand} {ats : Array TypeId} {fn : Func} {vs cs : List Value} (hxf : evT T x = some (.func (.func f) #[] cs.toArray)) (hf : P.funcs[f]? = some fn) (hn : (fn.name == "runtime.NumGoroutine") = false) (hb : fn.body.isNone = false) (hargs : evA T args.toList = some vs) (ht : Nat.blt d n = true) {R : Ending → World → Prop} (hc : Calls P f (vs ++ cs).toArray w R) (h : ∀ e w', R e w' → ∃ v, e = .returned v ∧ ∀ a', Has n ((d, v) :: T) a' → K a' w') : Oper.wp P ⟨some d, .call { callee := .value x, args := args, argTypes := ats }, tt, pos, af, gd⟩ a w K Q := by
 have hv : args.map a.eval = vs.toArray := by
   apply Array.ext'; rw [Array.toList_map,ha.evA hargs]
 have hr : (execOp a.eval ⟨some d,.call { callee := .value x,args := args,argTypes := ats },tt,pos,af,gd⟩).run P w = .ok (.enter f (vs ++ cs).toArray) w := by
   have hn' : ¬ fn.name = "runtime.NumGoroutine" := by simpa using hn
   have hb' : ¬ fn.body = none := by cases h9 : fn.body with | none => rw [h9] at hb; cases hb | some c => simp
   simp [execOp,resolve,ha.ev hxf,Deferred.ofValue,invoke,callFunc,hf,hn',hb',hv]
 show Oper.upon P _ a K Q _
 rw [hr]
 show Calls P f (vs ++ cs).toArray w _
 refine hc.mono (fun e w' hR =>?_)
 obtain ⟨v,rfl,hh⟩ := h e w' hR
 exact hh _ (ha.put ht v)
end
section
variable {P : Program} {n : Nat} {T : List (Nat × Value)} {a : Act} {w w0 : World} {X : Cx} {M : Mm}
theorem retCC (ha : Has n T a) (m : MemOk X w0 M w) {fn : Func} {t s : Tmp} {ty ty2 : TypeId} {td td2 : TypeDesc} {i g i2 g2 : Nat} {e e2 : TypeId} {cs cs2 : List Value} {R : Ending → World → Prop} (hr : fn.results = #[.cell t ty,.cell s ty2]) (hv : lk T t = some (.pointer (some ⟨g,0,none⟩))) (hv2 : lk T s = some (.pointer (some ⟨g2,0,none⟩))) (hm : lk M i = some (.box g e cs)) (hm2 : lk M i2 = some (.box g2 e2 cs2)) (hu : P.underlying ty = some td) (hd : td.isRow = true) (hs : (P.info? ty).map (·.size) = some cs.length) (hu2 : P.underlying ty2 = some td2) (hd2 : td2.isRow = true) (hs2 : (P.info? ty2).map (·.size) = some cs2.length) (h : R (.returned (.tuple #[.agg cs.toArray,.agg cs2.toArray])) w) : bodyPost P fn R .ret a w :=
 ⟨ha.d,_,by
   have h1 := ha.h t _ hv
   have h2 := ha.h s _ hv2
   rw [Array.getD_eq_getD_getElem?] at h1 h2
   simp [results,hr,h1,h2,asAddr,run_loadBox m hm hu hd hs,run_loadBox m hm2 hu2 hd2 hs2],h⟩
end
end
section
theorem Q1x {p : Prop} [Decidable p] : (decide p = true) = p := decide_eq_true_eq
theorem Q2x {p : Prop} [Decidable p] : decide p = false ↔ ¬ p := decide_eq_false_iff_not
theorem Q3x (b : Bool) : (¬ (b = true)) = (b = false) := Bool.not_eq_true b
theorem Q4x (b : Bool) : (¬ (b = false)) = (b = true) := Bool.not_eq_false b
theorem Q5x {a b : Bool} : (!a) = b ↔ a = !b := Bool.not_eq_eq_eq_not
theorem Q6x : (!true) = false := rfl
theorem Q7x : (!false) = true := rfl
theorem Q8x (b : Bool) : (!!b) = b := Bool.not_not b
theorem Q9x {a b : Int} : ¬ a < b ↔ b ≤ a := Int.not_lt
theorem Q0x {a b : Int} : ¬ a ≤ b ↔ b < a := Int.not_le
theorem Qax {α : Sort _} (a b : α) : (a ≠ b) = ¬ (a = b) := ne_eq a b
theorem Qbx {p : Prop} [Decidable p] : ¬ ¬ p ↔ p := Decidable.not_not
theorem QQ : (∀ (p : Prop) [Decidable p],(decide p = true) = p) ∧ (∀ (p : Prop) [Decidable p],decide p = false ↔ ¬ p) ∧ (∀ (b : Bool),(¬ (b = true)) = (b = false)) ∧ (∀ (b : Bool),(¬ (b = false)) = (b = true)) ∧ (∀ (a b : Bool),(!a) = b ↔ a = !b) ∧ ((!true) = false) ∧ ((!false) = true) ∧ (∀ (b : Bool),(!!b) = b) ∧ (∀ (a b : Int),¬ a < b ↔ b ≤ a) ∧ (∀ (a b : Int),¬ a ≤ b ↔ b < a) ∧ (∀ (p : Prop) [Decidable p],¬ ¬ p ↔ p) := ⟨fun _ _ => Q1x,fun _ _ => Q2x,Q3x,Q4x,fun _ _ => Q5x,Q6x,Q7x,Q8x,fun _ _ => Q9x,fun _ _ => Q0x,fun _ _ => Qbx⟩
theorem il {α : Type} {a : α} {p : Prop} : a = a ∨ p := .inl rfl
variable {P : Program} {n : Nat} {T : List (Nat × Value)} {a : Act} {w w0 : World} {X : Cx} {M : Mm} {tt : TypeId} {pos : String} {af : Array Edge} {ops : Array Oper} {Q : Exit → Act → World → Prop} {md : Region.Mode} {e fuel : Nat} {S : World → Prop} {listed : Array Bool}
end
section
section
variable {P : Program} {n : Nat} {T : List (Nat × Value)} {a : Act} {w w0 : World} {X : Cx} {M : Mm} {tt : TypeId} {pos : String} {af : Array Edge} {gd : Option (Nat × Bool)} {Q : Exit → Act → World → Prop} {K : Act → World → Prop}
end
end
section
variable {P : Program} {n : Nat} {T : List (Nat × Value)} {a : Act} {w : World} {d : Option Tmp} {tt : TypeId} {pos : String} {af : Array Edge} {gd : Option (Nat × Bool)}
end
end Go.Proofs.YtkehgingagggaaaGreat.K
