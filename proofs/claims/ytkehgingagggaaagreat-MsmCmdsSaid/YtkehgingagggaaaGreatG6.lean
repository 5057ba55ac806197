/- General laws of walks. -/
import Derived.Test.YtkehgingagggaaaGreatG5
import Derived.Test.YtkehgingagggaaaGreatG4
import Derived.Lib.AppendZerosOnto
namespace Go.Proofs.YtkehgingagggaaaGreat.K
open Go.ChangeShapes Go.WideShapes Go.ChangeAt Go.RowKit
set_option linter.unusedVariables false
set_option linter.unusedSimpArgs false
section
def gdB (ops : Array Oper) (n : Nat) (T : List (Nat × Value)) : Option (Nat × Bool) → Bool
 | none => true
 | some (j,b) => match (ops[j]?).bind (·.dst) with
   | some t => Nat.blt t n && match lk T t with
     | some (.bool x) => x == b
     | _ => false
   | none => false
theorem gd_wanted {ops : Array Oper} {n : Nat} {T : List (Nat × Value)} {a : Act} (ha : Has n T a) {o : Oper} (h : gdB ops n T o.guard = true) : Region.wanted o (Go.yielded ops a.tmps) = true := by
 unfold gdB at h
 split at h
 · next e => simp [Region.wanted,e]
 next j b e =>
 split at h
 · next t hj =>
   rw [Bool.and_eq_true] at h
   split at h
   · next x hb =>
     obtain rfl : x = b := by simpa using h.2
     simp [Region.wanted,e,ha.yielded hj hb h.1]
   cases h.2
 cases h
inductive Cd (P : Program) (n : Nat) (ops : Array Oper) (S : World → Prop) : List (Oper × Bool) → List (Nat × Value) → List (Nat × Value) → Prop
 | nil {T : List (Nat × Value)} : Cd P n ops S [] T T
 | c {d : Tmp} {op : Op} {v : Value} {L : List (Oper × Bool)} {T T' : List (Nat × Value)} {tt : TypeId} {pos : String} {af : Array Edge} {gd : Option (Nat × Bool)} (hy : ∀ W,S W → ∀ a,Has n T a → Yl P a W ⟨some d,op,tt,pos,af,gd⟩ v) (tl : Cd P n ops S L ((d,v) :: T) T') (hg : gdB ops n T gd = true := by rfl) (ht : Nat.blt d n = true := by rfl) : Cd P n ops S ((⟨some d,op,tt,pos,af,gd⟩,true) :: L) T T'
 | p {d : Tmp} {op : Op} {v : Value} {L : List (Oper × Bool)} {T T' : List (Nat × Value)} {tt : TypeId} {pos : String} {af : Array Edge} {gd : Option (Nat × Bool)} (hy : ∀ W,∀ a,Has n T a → Yl P a W ⟨some d,op,tt,pos,af,gd⟩ v) (tl : Cd P n ops S L ((d,v) :: T) T') (hg : gdB ops n T gd = true := by rfl) (ht : Nat.blt d n = true := by rfl) : Cd P n ops S ((⟨some d,op,tt,pos,af,gd⟩,false) :: L) T T'
 | s {d : Tmp} {op : Op} {L : List (Oper × Bool)} {T T' : List (Nat × Value)} {tt : TypeId} {pos : String} {af : Array Edge} {j t : Nat} {b : Bool} (tl : Cd P n ops S L ((d,undef) :: T) T') (hj : (ops[j]?).bind (·.dst) = some t := by rfl) (hb : lk T t = some (.bool !b) := by rfl) (ht2 : Nat.blt t n = true := by rfl) (ht : Nat.blt d n = true := by rfl) : Cd P n ops S ((⟨some d,op,tt,pos,af,some (j,b)⟩,false) :: L) T T'
 | u {d : Tmp} {op : Op} {L : List (Oper × Bool)} {T T' : List (Nat × Value)} {tt : TypeId} {pos : String} {af : Array Edge} {j t : Nat} {b : Bool} (tl : Cd P n ops S L ((d,undef) :: T) T') (hj : (ops[j]?).bind (·.dst) = some t := by rfl) (hb : lk T t = some undef := by rfl) (ht2 : Nat.blt t n = true := by rfl) (ht : Nat.blt d n = true := by rfl) : Cd P n ops S ((⟨some d,op,tt,pos,af,some (j,b)⟩,false) :: L) T T'
def opsAt (ops : Array Oper) (rs : List Nat) : List Nat → List (Oper × Bool)
 | [] => []
 | i :: is => match ops[i]? with
   | some o => (o,rs.contains i) :: opsAt ops rs is
   | none => opsAt ops rs is
def lst (s m : Nat) : Array Bool := ((List.range s).map fun i => m.testBit i).toArray
theorem lst_size (s m : Nat) : (lst s m).size = s := by simp [lst]
theorem lst_getD (s m i : Nat) (d : Bool) : (lst s m).getD i d = if i < s then m.testBit i else d := by
 unfold Array.getD
 by_cases h : i < s
 · rw [dif_pos (show i < (lst s m).size by rw [lst_size]; exact h),if_pos h]; simp [lst]
 rw [dif_neg (show ¬ i < (lst s m).size by rw [lst_size]; exact h),if_neg h]
theorem lst_set (s m i : Nat) : (lst s m).setIfInBounds i true = lst s (m ||| (1 <<< i)) := by
 apply Array.ext
 · simp [lst_size]
 intro k h1 h2
 rw [Array.getElem_setIfInBounds (by rw [lst_size]; simpa [lst_size] using h1)]
 have hk : k < s := by rw [lst_size] at h2; exact h2
 by_cases hik : i = k
 · subst hik; simp [lst,Nat.testBit_or,Nat.one_shiftLeft,Nat.testBit_two_pow_self]
 rw [if_neg hik]; simp [lst,Nat.testBit_or,Nat.one_shiftLeft,Nat.testBit_two_pow_of_ne hik]
def pairB (md : Region.Mode) (ops : Array Oper) : Bool := (List.range ops.size).all fun i => match ops[i]? with
 | none => true
 | some oi => (List.range ops.size).all fun j => j == i || match ops[j]? with
   | none => true
   | some oj => oj.after.any (fun e => Region.binds md e && e.on == i) || oi.after.any (fun e => Region.binds md e && e.on == j) || oi.apart ops oj
def rdM (md : Region.Mode) (ops : Array Oper) (e : Nat) (rs : List Nat) : Nat → List Nat → Bool
 | _,[] => true
 | m,i :: is => (match ops[i]? with
   | none => false
   | some o => !(m.testBit i) && o.after.all fun ed => !Region.binds md ed || (m.testBit ed.on && Nat.blt ed.on ops.size)) && Nat.blt i ops.size && decide (i ≠ e) && (!(rs.contains i) || (decide (ops.size ≤ e) || waits md ops e i)) && rdM md ops e rs (m ||| (1 <<< i)) is
def bitsM : Nat → List Nat → Nat
 | m,[] => m
 | m,i :: is => bitsM (m ||| (1 <<< i)) is
theorem rd_ready {md : Region.Mode} {ops : Array Oper} {m i : Nat} {o : Oper} (ho : ops[i]? = some o) (hn : m.testBit i = false) (ha : ∀ ed ∈ o.after,Region.binds md ed = true → m.testBit ed.on = true ∧ ed.on < ops.size) : i ∈ Region.ready md ops (lst ops.size m) := by
 have hi' : i < ops.size := (Array.getElem?_eq_some_iff.1 ho).1
 refine mem_ready.2 ⟨by rw [lst_getD,if_pos hi',hn],o,ho,fun ed hed hb =>?_⟩
 rw [lst_getD,if_pos (ha ed hed hb).2,(ha ed hed hb).1]
theorem pair_free {md : Region.Mode} {ops : Array Oper} {m i : Nat} {o : Oper} (hp : pairB md ops = true) (ho : ops[i]? = some o) (ha : ∀ ed ∈ o.after,Region.binds md ed = true → m.testBit ed.on = true ∧ ed.on < ops.size) : Region.free md ops (lst ops.size m) i = true := by
 simp only [pairB,List.all_eq_true,List.mem_range] at hp
 have hi := hp i (Array.getElem?_eq_some_iff.1 ho).1
 simp only [ho,List.all_eq_true,List.mem_range] at hi
 simp only [Region.free,ho,List.all_eq_true,List.mem_range]
 intro j hj
 have hij := hi j hj
 rw [lst_getD,if_pos hj]
 rw [Bool.or_eq_true] at hij
 rcases hij with h1 | h1
 · rw [h1]; simp
 cases hoj : ops[j]? with
 | none => simp
 | some oj =>
   simp only [hoj,Bool.or_eq_true] at h1
   rcases h1 with (h3 | h3) | h3
   · simp [h3]
   · obtain ⟨ed,hed,h4⟩ := Array.any_eq_true'.1 h3
     rw [Bool.and_eq_true,beq_iff_eq] at h4
     have h5 := ha ed hed h4.1
     rw [h4.2] at h5
     simp [h5.1]
   simp [h3]
theorem rd_after {md : Region.Mode} {ops : Array Oper} {m : Nat} {o : Oper} (h : (o.after.all fun ed => !Region.binds md ed || (m.testBit ed.on && Nat.blt ed.on ops.size)) = true) : ∀ ed ∈ o.after,Region.binds md ed = true → m.testBit ed.on = true ∧ ed.on < ops.size := fun ed hed hb => by
 have h5 := Array.all_eq_true_iff_forall_mem.1 h ed hed
 rw [hb] at h5
 simpa [Nat.blt_eq] using h5
section
variable {P : Program} {n : Nat} {ops : Array Oper} {Q : Exit → Act → World → Prop} {md : Region.Mode} {e fuel : Nat} {S S' : World → Prop}
theorem closedB_of {L : Array Bool} (h : Closed md ops L) : closedB md ops L = true := by
 unfold closedB
 rw [Bool.and_eq_true,decide_eq_true_eq,List.all_eq_true]
 refine ⟨h.1,fun j _ =>?_⟩
 cases hl : L.getD j false with
 | false => rfl
 | true =>
   cases ho : ops[j]? with
   | none => rfl
   | some oj =>
     simp only [Bool.not_true,Bool.false_or]
     rw [Array.all_eq_true_iff_forall_mem]
     intro ed hed
     cases hb : Region.binds md ed with
     | false => rfl
     | true => simpa using h.2 j oj ho hl ed hed hb
theorem hh : ∀ W,S W → S W := fun _ h => h
theorem stepsR (rs : List Nat) (hp : pairB md ops = true) (hs : Region.noSelect ops = true) (hQ : ∀ c a d v w,Q (.panic c) (a.put (some d) v) w → Q (.panic c) a w) : ∀ (is : List Nat) {k m : Nat} {T T' : List (Nat × Value)} {a : Act} {w : World},is.length = k → Has n T a → (S w ∨ (Nat.testBit m e = true ∧ e < ops.size ∧ rs = [])) → (rs = [] ∨ closedB md ops (lst ops.size m) = true) → Cd P n ops S (opsAt ops rs is) T T' → rdM md ops e rs m is = true → (∀ a',Has n T' a' → wpAnyE P md ops Q e S fuel (lst ops.size (bitsM m is)) a' w) → wpAnyE P md ops Q e S (fuel + k) (lst ops.size m) a w
 | [],k,m,T,T',a,w,hk,ha,hS,hcl,hc,_,h => by
   subst hk
   cases hc
   exact h a ha
 | i :: is,k,m,T,T',a,w,hk,ha,hS,hcl,hc,hr,h => by
   subst hk
   simp only [rdM,Bool.and_eq_true] at hr
   obtain ⟨⟨⟨⟨h1,h2⟩,h4⟩,h6⟩,h7⟩ := hr
   cases ho : ops[i]? with
   | none => rw [ho] at h1; cases h1
   | some o =>
     rw [ho] at h1
     simp only [Bool.and_eq_true,Bool.not_eq_true'] at h1
     have haf := rd_after h1.2
     have hop : opsAt ops rs (i :: is) = (o,rs.contains i) :: opsAt ops rs is := by simp only [opsAt,ho]
     rw [hop] at hc
     have h4' : i ≠ e := of_decide_eq_true h4
     have hrd := rd_ready ho h1.1 haf
     have hrb : (Region.ready md ops (lst ops.size m)).contains i = true := List.contains_iff_mem.2 hrd
     have hf := pair_free hp ho haf
     have hS1 : (lst ops.size m).getD e false = false → S w := fun h => hS.elim (fun h => h) (fun h9 => by rw [lst_getD,if_pos h9.2.1,h9.1] at h; cases h)
     have hS2 : S w ∨ (Nat.testBit (m ||| (1 <<< i)) e = true ∧ e < ops.size ∧ rs = []) := hS.imp (fun h => h) (fun h9 => ⟨by rw [Nat.testBit_or,h9.1]; rfl,h9.2⟩)
     have hcl2 : rs = [] ∨ closedB md ops (lst ops.size (m ||| (1 <<< i))) = true := hcl.imp (fun h => h) (fun h => by
       have := (closedB_spec h).set hrd
       rw [lst_set] at this
       exact closedB_of this)
     have go {d : Tmp} {v : Value} (ha' : Has n ((d,v) :: T) (a.put (some d) v)) (tl : Cd P n ops S (opsAt ops rs is) ((d,v) :: T) T') : wpAnyE P md ops Q e S (fuel + is.length) ((lst ops.size m).setIfInBounds i true) (a.put (some d) v) w := by
       rw [lst_set]
       exact stepsR rs hp hs hQ is rfl ha' hS2 hcl2 tl h7 h
     generalize hb : rs.contains i = b at hc
     cases hc with
     | c hy tl hg ht =>
       rw [hb] at h6
       simp only [Bool.not_true,Bool.false_or,Bool.or_eq_true] at h6
       have hne : rs ≠ [] := fun h => by rw [h] at hb; cases hb
       have hS0 : S w := hS.elim (fun h => h) (fun h9 => absurd h9.2.2 hne)
       have hc0 := hcl.resolve_left hne
       rcases h6 with h9 | h9
       · exact stepE_held i (some _) hS0 ho rfl hs hf hrb hc0 (by rw [h9,h4]; rfl) (fun c a w => hQ c a _ _ w) (gd_wanted ha hg) (fun W hW => hy W hW a ha) (go (ha.put ht _) tl)
       exact stepE_readW i (some _) hS0 ho rfl hs hf hrb hc0 (by rw [h9,h4]; rfl) (fun c a w => hQ c a _ _ w) (gd_wanted ha hg) (fun W hW => hy W hW a ha) (go (ha.put ht _) tl)
     | p hy tl hg ht => exact stepE_any i (some _) hS1 ho rfl hs hf hrb h4 (fun c a w => hQ c a _ _ w) (gd_wanted ha hg) (fun W => hy W a ha) (go (ha.put ht _) tl)
     | s tl hj hb ht2 ht => exact stepE_skip i (some _) hS1 ho rfl hs hf hrb h4 (fun c a w => hQ c a _ _ w) (by simp [Region.wanted,ha.yielded hj hb ht2]) (go (ha.put ht _) tl)
     | u tl hj hb ht2 ht => exact stepE_skip i (some _) hS1 ho rfl hs hf hrb h4 (fun c a w => hQ c a _ _ w) (by simp [Region.wanted,ha.unyielded hj hb ht2]) (go (ha.put ht _) tl)
theorem region_p {P : Program} {a : Act} {w w0 : World} {X : Cx} {M B : Mm} {ops : Array Oper} {Q : Exit → Act → World → Prop} (e : Nat) (mB : MemOk X w0 B w) (m : MemOk X w0 M w) {id : Nat} (hm : P.follows .mixedOrders = true)
   (h : ∀ w',pairB .any ops = true → MemOk X w0 M w' → wpAnyE P .any ops Q e (MemOk X w0 B) ops.size (Array.replicate ops.size false) a w') (hp : pairB .any ops = true := by kernel_rfl) : (Code.region id ops true).wp P Q a w := region_m e mB m hm (fun w' _ m' => h w' hp m')
theorem goR (hp : pairB md ops = true) (is rs : List Nat) (k m m' : Nat) {T T' : List (Nat × Value)} {a : Act} {w : World} {listed : Array Bool} (ha : Has n T a) (hS : S w) (hc : Cd P n ops S (opsAt ops rs is) T T') (h : ∀ a',Has n T' a' → wpAnyE P md ops Q e S fuel (lst ops.size m') a' w) (hl : listed = lst ops.size m := by kernel_rfl) (hm : m' = bitsM m is := by kernel_rfl) (hk : is.length = k := by rfl) (hcl : closedB md ops (lst ops.size m) = true := by kernel_rfl) (hs : Region.noSelect ops = true := by kernel_rfl) (hr : rdM md ops e rs m is = true := by kernel_rfl) (hQ : ∀ c a d v w,Q (.panic c) (a.put (some d) v) w → Q (.panic c) a w := by exact fun _ _ _ _ _ h => h) : wpAnyE P md ops Q e S (fuel + k) listed a w := by
 subst hl; subst hm
 exact stepsR rs hp hs hQ is hk ha (.inl hS) (.inr hcl) hc hr h
theorem goA (hp : pairB md ops = true) (is : List Nat) (k m m' : Nat) {T T' : List (Nat × Value)} {a : Act} {w : World} {listed : Array Bool} (ha : Has n T a) (hS : S w) (hc : Cd P n ops S (opsAt ops [] is) T T') (h : ∀ a',Has n T' a' → wpAnyE P md ops Q e S fuel (lst ops.size m') a' w) (hl : listed = lst ops.size m := by kernel_rfl) (hm : m' = bitsM m is := by kernel_rfl) (hk : is.length = k := by rfl) (hs : Region.noSelect ops = true := by kernel_rfl) (hr : rdM md ops e [] m is = true := by kernel_rfl) (hQ : ∀ c a d v w,Q (.panic c) (a.put (some d) v) w → Q (.panic c) a w := by exact fun _ _ _ _ _ h => h) : wpAnyE P md ops Q e S (fuel + k) listed a w := by
 subst hl; subst hm
 exact stepsR [] hp hs hQ is hk ha (.inl hS) (.inl rfl) hc hr h
theorem goB (hp : pairB md ops = true) (is : List Nat) (k m m' : Nat) {T T' : List (Nat × Value)} {a : Act} {w : World} {listed : Array Bool} (ha : Has n T a) (hc : Cd P n ops S (opsAt ops [] is) T T') (h : ∀ a',Has n T' a' → wpAnyE P md ops Q e S fuel (lst ops.size m') a' w) (hl : listed = lst ops.size m := by kernel_rfl) (hm : m' = bitsM m is := by kernel_rfl) (hk : is.length = k := by rfl) (hb : (Nat.testBit m e && Nat.blt e ops.size) = true := by kernel_rfl) (hs : Region.noSelect ops = true := by kernel_rfl) (hr : rdM md ops e [] m is = true := by kernel_rfl) (hQ : ∀ c a d v w,Q (.panic c) (a.put (some d) v) w → Q (.panic c) a w := by exact fun _ _ _ _ _ h => h) : wpAnyE P md ops Q e S (fuel + k) listed a w := by
 subst hl; subst hm
 rw [Bool.and_eq_true] at hb
 exact stepsR [] hp hs hQ is hk ha (.inr ⟨hb.1,by simpa [Nat.blt_eq] using hb.2,rfl⟩) (.inl rfl) hc hr h
end
/-! short -/
section
variable {P : Program} {n : Nat} {ops : Array Oper} {S : World → Prop} {L : List (Oper × Bool)} {T T' : List (Nat × Value)} {w0 : World} {X : Cx} {M : Mm} {dd : Tmp} {tt : TypeId} {pos : String} {af : Array Edge} {gd : Option (Nat × Bool)} {x y z : Operand} {k : IntKind} {p q r : Int} {t t2 : TypeId}
theorem Cd.move {x : Operand} {v : Value} (hx : evT T x = some v) (tl : Cd P n ops S L ((dd,v) :: T) T') (hg : gdB ops n T gd = true := by rfl) (ht : Nat.blt dd n = true := by rfl) : Cd P n ops S ((⟨some dd,.move x,tt,pos,af,gd⟩,false) :: L) T T' := .p (fun W _ h => y_move h hx) tl hg ht
theorem Cd.assign {x : Operand} {v : Value} (hx : evT T x = some v) (tl : Cd P n ops S L ((dd,v) :: T) T') (hg : gdB ops n T gd = true := by rfl) (ht : Nat.blt dd n = true := by rfl) : Cd P n ops S ((⟨some dd,.assign x,tt,pos,af,gd⟩,false) :: L) T T' := .p (fun W _ h => y_assign h hx) tl hg ht
theorem Cd.pickT {c x y : Operand} {v : Value} (hc : evT T c = some (.bool true)) (hx : evT T x = some v) (tl : Cd P n ops S L ((dd,v) :: T) T') (hg : gdB ops n T gd = true := by rfl) (ht : Nat.blt dd n = true := by rfl) : Cd P n ops S ((⟨some dd,.pick c x y,tt,pos,af,gd⟩,false) :: L) T T' := .p (fun W _ h => y_pickT h hc hx) tl hg ht
theorem Cd.pickF {c x y : Operand} {v : Value} (hc : evT T c = some (.bool false)) (hx : evT T y = some v) (tl : Cd P n ops S L ((dd,v) :: T) T') (hg : gdB ops n T gd = true := by rfl) (ht : Nat.blt dd n = true := by rfl) : Cd P n ops S ((⟨some dd,.pick c x y,tt,pos,af,gd⟩,false) :: L) T T' := .p (fun W _ h => y_pickF h hc hx) tl hg ht
theorem Cd.not {t : TypeId} {x : Operand} {b : Bool} (hx : evT T x = some (.bool b)) (tl : Cd P n ops S L ((dd,(.bool !b)) :: T) T') (hg : gdB ops n T gd = true := by rfl) (ht : Nat.blt dd n = true := by rfl) : Cd P n ops S ((⟨some dd,.unOp .not t x,tt,pos,af,gd⟩,false) :: L) T T' := .p (fun W _ h => y_not h hx) tl hg ht
theorem Cd.len {t e : TypeId} {x : Operand} {p : Option Addr} {l c : Nat} (hx : evT T x = some (.slice p l c)) (hu : P.underlying t = some (.slice e)) (tl : Cd P n ops S L ((dd,(.int .i64 l)) :: T) T') (hg : gdB ops n T gd = true := by rfl) (ht : Nat.blt dd n = true := by rfl) : Cd P n ops S ((⟨some dd,.call { callee := .builtin .len,args := #[x],argTypes := #[t] },tt,pos,af,gd⟩,false) :: L) T T' := .p (fun W _ h => y_len h hx hu) tl hg ht
theorem Cd.add (hx : evT T x = some (.int k p)) (hy : evT T y = some (.int k q)) (hr : k.wrap (p + q) = r) (tl : Cd P n ops S L ((dd,(.int k r)) :: T) T') (hg : gdB ops n T gd = true := by rfl) (ht : Nat.blt dd n = true := by rfl) : Cd P n ops S ((⟨some dd,.binOp .add t x y t2,tt,pos,af,gd⟩,false) :: L) T T' := .p (fun W _ h => y_add h hx hy hr) tl hg ht
theorem Cd.sub (hx : evT T x = some (.int k p)) (hy : evT T y = some (.int k q)) (hr : k.wrap (p - q) = r) (tl : Cd P n ops S L ((dd,(.int k r)) :: T) T') (hg : gdB ops n T gd = true := by rfl) (ht : Nat.blt dd n = true := by rfl) : Cd P n ops S ((⟨some dd,.binOp .sub t x y t2,tt,pos,af,gd⟩,false) :: L) T T' := .p (fun W _ h => y_sub h hx hy hr) tl hg ht
theorem Cd.mul (hx : evT T x = some (.int k p)) (hy : evT T y = some (.int k q)) (hr : k.wrap (p * q) = r) (tl : Cd P n ops S L ((dd,(.int k r)) :: T) T') (hg : gdB ops n T gd = true := by rfl) (ht : Nat.blt dd n = true := by rfl) : Cd P n ops S ((⟨some dd,.binOp .mul t x y t2,tt,pos,af,gd⟩,false) :: L) T T' := .p (fun W _ h => y_mul h hx hy hr) tl hg ht
theorem Cd.quo (hx : evT T x = some (.int k p)) (hy : evT T y = some (.int k q)) (h0 : q ≠ 0) (hr : k.wrap (p.tdiv q) = r) (tl : Cd P n ops S L ((dd,(.int k r)) :: T) T') (hg : gdB ops n T gd = true := by rfl) (ht : Nat.blt dd n = true := by rfl) : Cd P n ops S ((⟨some dd,.binOp .quo t x y t2,tt,pos,af,gd⟩,false) :: L) T T' := .p (fun W _ h => y_quo h hx hy h0 hr) tl hg ht
theorem Cd.rem (hx : evT T x = some (.int k p)) (hy : evT T y = some (.int k q)) (h0 : q ≠ 0) (hr : p.tmod q = r) (tl : Cd P n ops S L ((dd,(.int k r)) :: T) T') (hg : gdB ops n T gd = true := by rfl) (ht : Nat.blt dd n = true := by rfl) : Cd P n ops S ((⟨some dd,.binOp .rem t x y t2,tt,pos,af,gd⟩,false) :: L) T T' := .p (fun W _ h => y_rem h hx hy h0 hr) tl hg ht
theorem Cd.and (hx : evT T x = some (.int k p)) (hy : evT T y = some (.int k q)) (hr : k.wrap (BitVec.ofInt k.bits p &&& BitVec.ofInt k.bits q).toNat = r) (tl : Cd P n ops S L ((dd,(.int k r)) :: T) T') (hg : gdB ops n T gd = true := by rfl) (ht : Nat.blt dd n = true := by rfl) : Cd P n ops S ((⟨some dd,.binOp .and t x y t2,tt,pos,af,gd⟩,false) :: L) T T' := .p (fun W _ h => y_and h hx hy hr) tl hg ht
theorem Cd.or (hx : evT T x = some (.int k p)) (hy : evT T y = some (.int k q)) (hr : k.wrap (BitVec.ofInt k.bits p ||| BitVec.ofInt k.bits q).toNat = r) (tl : Cd P n ops S L ((dd,(.int k r)) :: T) T') (hg : gdB ops n T gd = true := by rfl) (ht : Nat.blt dd n = true := by rfl) : Cd P n ops S ((⟨some dd,.binOp .or t x y t2,tt,pos,af,gd⟩,false) :: L) T T' := .p (fun W _ h => y_or h hx hy hr) tl hg ht
theorem Cd.xor (hx : evT T x = some (.int k p)) (hy : evT T y = some (.int k q)) (hr : k.wrap (BitVec.ofInt k.bits p ^^^ BitVec.ofInt k.bits q).toNat = r) (tl : Cd P n ops S L ((dd,(.int k r)) :: T) T') (hg : gdB ops n T gd = true := by rfl) (ht : Nat.blt dd n = true := by rfl) : Cd P n ops S ((⟨some dd,.binOp .xor t x y t2,tt,pos,af,gd⟩,false) :: L) T T' := .p (fun W _ h => y_xor h hx hy hr) tl hg ht
theorem Cd.shl {yk : IntKind} (hx : evT T x = some (.int k p)) (hy : evT T y = some (.int yk q)) (h0 : 0 ≤ q) (hr : k.wrap (p * 2 ^ min q.toNat k.bits) = r) (tl : Cd P n ops S L ((dd,(.int k r)) :: T) T') (hg : gdB ops n T gd = true := by rfl) (ht : Nat.blt dd n = true := by rfl) : Cd P n ops S ((⟨some dd,.binOp .shl t x y t2,tt,pos,af,gd⟩,false) :: L) T T' := .p (fun W _ h => y_shl h hx hy h0 hr) tl hg ht
theorem Cd.shr {yk : IntKind} (hx : evT T x = some (.int k p)) (hy : evT T y = some (.int yk q)) (h0 : 0 ≤ q) (hr : p.fdiv (2 ^ min q.toNat k.bits) = r) (tl : Cd P n ops S L ((dd,(.int k r)) :: T) T') (hg : gdB ops n T gd = true := by rfl) (ht : Nat.blt dd n = true := by rfl) : Cd P n ops S ((⟨some dd,.binOp .shr t x y t2,tt,pos,af,gd⟩,false) :: L) T T' := .p (fun W _ h => y_shr h hx hy h0 hr) tl hg ht
theorem Cd.lss (hx : evT T x = some (.int k p)) (hy : evT T y = some (.int k q)) (tl : Cd P n ops S L ((dd,(.bool (decide (p < q)))) :: T) T') (hg : gdB ops n T gd = true := by rfl) (ht : Nat.blt dd n = true := by rfl) : Cd P n ops S ((⟨some dd,.binOp .lss t x y t2,tt,pos,af,gd⟩,false) :: L) T T' := .p (fun W _ h => y_lss h hx hy) tl hg ht
theorem Cd.leq (hx : evT T x = some (.int k p)) (hy : evT T y = some (.int k q)) (tl : Cd P n ops S L ((dd,(.bool (decide (p ≤ q)))) :: T) T') (hg : gdB ops n T gd = true := by rfl) (ht : Nat.blt dd n = true := by rfl) : Cd P n ops S ((⟨some dd,.binOp .leq t x y t2,tt,pos,af,gd⟩,false) :: L) T T' := .p (fun W _ h => y_leq h hx hy) tl hg ht
theorem Cd.gtr (hx : evT T x = some (.int k p)) (hy : evT T y = some (.int k q)) (tl : Cd P n ops S L ((dd,(.bool (decide (q < p)))) :: T) T') (hg : gdB ops n T gd = true := by rfl) (ht : Nat.blt dd n = true := by rfl) : Cd P n ops S ((⟨some dd,.binOp .gtr t x y t2,tt,pos,af,gd⟩,false) :: L) T T' := .p (fun W _ h => y_gtr h hx hy) tl hg ht
theorem Cd.geq (hx : evT T x = some (.int k p)) (hy : evT T y = some (.int k q)) (tl : Cd P n ops S L ((dd,(.bool (decide (q ≤ p)))) :: T) T') (hg : gdB ops n T gd = true := by rfl) (ht : Nat.blt dd n = true := by rfl) : Cd P n ops S ((⟨some dd,.binOp .geq t x y t2,tt,pos,af,gd⟩,false) :: L) T T' := .p (fun W _ h => y_geq h hx hy) tl hg ht
theorem Cd.eql (hx : evT T x = some (.int k p)) (hy : evT T y = some (.int k q)) (tl : Cd P n ops S L ((dd,(.bool (decide (p = q)))) :: T) T') (hg : gdB ops n T gd = true := by rfl) (ht : Nat.blt dd n = true := by rfl) : Cd P n ops S ((⟨some dd,.binOp .eql t x y t2,tt,pos,af,gd⟩,false) :: L) T T' := .p (fun W _ h => y_eql h hx hy) tl hg ht
theorem Cd.neq (hx : evT T x = some (.int k p)) (hy : evT T y = some (.int k q)) (tl : Cd P n ops S L ((dd,(.bool (decide (p ≠ q)))) :: T) T') (hg : gdB ops n T gd = true := by rfl) (ht : Nat.blt dd n = true := by rfl) : Cd P n ops S ((⟨some dd,.binOp .neq t x y t2,tt,pos,af,gd⟩,false) :: L) T T' := .p (fun W _ h => y_neq h hx hy) tl hg ht
theorem Cd.neqB {b c : Bool} (hx : evT T x = some (.bool b)) (hy : evT T y = some (.bool c)) (hu : P.underlying t = some .bool) (tl : Cd P n ops S L ((dd,(.bool (!(b == c)))) :: T) T') (hg : gdB ops n T gd = true := by rfl) (ht : Nat.blt dd n = true := by rfl) : Cd P n ops S ((⟨some dd,.binOp .neq t x y t2,tt,pos,af,gd⟩,false) :: L) T T' := .p (fun W _ h => y_neqB h hx hy hu) tl hg ht
theorem Cd.eqlS {b c : ByteArray} (hx : evT T x = some (.string b)) (hy : evT T y = some (.string c)) (tl : Cd P n ops S L ((dd,(.bool (b.toList == c.toList))) :: T) T') (hg : gdB ops n T gd = true := by rfl) (ht : Nat.blt dd n = true := by rfl) : Cd P n ops S ((⟨some dd,.binOp .eql t x y t2,tt,pos,af,gd⟩,false) :: L) T T' := .p (fun W _ h => y_eqlS h hx hy) tl hg ht
theorem Cd.neqS {b c : ByteArray} (hx : evT T x = some (.string b)) (hy : evT T y = some (.string c)) (tl : Cd P n ops S L ((dd,(.bool (!(b.toList == c.toList)))) :: T) T') (hg : gdB ops n T gd = true := by rfl) (ht : Nat.blt dd n = true := by rfl) : Cd P n ops S ((⟨some dd,.binOp .neq t x y t2,tt,pos,af,gd⟩,false) :: L) T T' := .p (fun W _ h => y_neqS h hx hy) tl hg ht
theorem Cd.eqlP {e : TypeId} {b : Option Addr} (hx : evT T x = some (.pointer b)) (hy : evT T y = some (.pointer none)) (hu : P.underlying t = some (.pointer e)) (tl : Cd P n ops S L ((dd,(.bool b.isNone)) :: T) T') (hg : gdB ops n T gd = true := by rfl) (ht : Nat.blt dd n = true := by rfl) : Cd P n ops S ((⟨some dd,.binOp .eql t x y t2,tt,pos,af,gd⟩,false) :: L) T T' := .p (fun W _ h => y_eqlP h hx hy hu) tl hg ht
theorem Cd.conv {s e : TypeId} {k' : IntKind} {ds : TypeDesc} (hx : evT T x = some (.int k p)) (hs : P.underlying s = some ds) (hd : P.underlying e = some (.int k')) (hr : k'.wrap p = r) (tl : Cd P n ops S L ((dd,(.int k' r)) :: T) T') (hg : gdB ops n T gd = true := by rfl) (ht : Nat.blt dd n = true := by rfl) : Cd P n ops S ((⟨some dd,.convert s e x,tt,pos,af,gd⟩,false) :: L) T T' := .p (fun W _ h => y_conv h hx hs hd hr) tl hg ht
theorem Cd.extract {x : Operand} {vs : Array Value} {i : Nat} {v : Value} (hx : evT T x = some (.tuple vs)) (hv : nthL vs.toList i = some v) (tl : Cd P n ops S L ((dd,v) :: T) T') (hg : gdB ops n T gd = true := by rfl) (ht : Nat.blt dd n = true := by rfl) : Cd P n ops S ((⟨some dd,.extract x i,tt,pos,af,gd⟩,false) :: L) T T' := .p (fun W _ h => y_extract h hx hv) tl hg ht
theorem Cd.nilCheck {x : Operand} {p : Addr} (hx : evT T x = some (.pointer (some p))) (tl : Cd P n ops S L ((dd,(.pointer (some p))) :: T) T') (hg : gdB ops n T gd = true := by rfl) (ht : Nat.blt dd n = true := by rfl) : Cd P n ops S ((⟨some dd,.nilCheck x,tt,pos,af,gd⟩,false) :: L) T T' := .p (fun W _ h => y_nilCheck h hx) tl hg ht
theorem Cd.fieldAddr {t : TypeId} {x : Operand} {i g o : Nat} {fs : Array Field} {f : Field} {s off : Nat} (hx : evT T x = some (.pointer (some ⟨g,o,none⟩))) (hu : P.underlying t = some (.struct fs)) (hf : fs[i]? = some f) (hs : (P.info? f.type).map (·.size) = some (s + 1)) (ho : o + f.offset = off) (tl : Cd P n ops S L ((dd,(.pointer (some ⟨g,off,none⟩))) :: T) T') (hg : gdB ops n T gd = true := by rfl) (ht : Nat.blt dd n = true := by rfl) : Cd P n ops S ((⟨some dd,.fieldAddr t x i,tt,pos,af,gd⟩,false) :: L) T T' := .p (fun W _ h => y_fieldAddr h hx hu hf hs ho) tl hg ht
theorem Cd.fieldAddrQ {t : TypeId} {x : Operand} {i g o : Nat} {fs : Array Field} {f : Field} {s : Nat} (q : Nat) (hx : evT T x = some (.pointer (some ⟨g,o,none⟩))) (hu : P.underlying t = some (.struct fs)) (hf : fs[i]? = some f) (hs : (P.info? f.type).map (·.size) = some (s + 1)) (hq : f.offset = q) (tl : Cd P n ops S L ((dd,(.pointer (some ⟨g,o + q,none⟩))) :: T) T') (hg : gdB ops n T gd = true := by rfl) (ht : Nat.blt dd n = true := by rfl) : Cd P n ops S ((⟨some dd,.fieldAddr t x i,tt,pos,af,gd⟩,false) :: L) T T' := .p (fun W _ h => y_fieldAddrQ h q hx hu hf hs hq) tl hg ht
theorem Cd.build {t : TypeId} {parts : Array (Nat × Operand)} {z cs : List Value} {pl : List (Nat × Value)} (hp : K.evP T parts.toList = some pl) (hz : ((P.info? t).bind (·.zero)).map (·.cells.toList) = some z) (hf : flatS P t z = true) (h1 : pl.all (fun p => decide (p.1 < z.length) && p.2.oneCell') = true) (hc : setL z pl = cs) (tl : Cd P n ops S L ((dd,(.agg cs.toArray)) :: T) T') (hg : gdB ops n T gd = true := by rfl) (ht : Nat.blt dd n = true := by rfl) : Cd P n ops S ((⟨some dd,.build t parts,tt,pos,af,gd⟩,false) :: L) T T' := .p (fun W _ h => y_build h hp hz hf h1 hc) tl hg ht
theorem Cd.loadB1 (m : ∀ W,S W → MemOk X w0 M W) {t : TypeId} {td : TypeDesc} {x : Operand} {i g o : Nat} {e : TypeId} {cs : List Value} {v : Value} (hm : lk M i = some (.box g e cs)) (hx : evT T x = some (.pointer (some ⟨g,o,none⟩))) (hv : cs[o]? = some v) (hu : P.underlying t = some td) (hr : td.isRow = false) (tl : Cd P n ops S L ((dd,v) :: T) T') (hg : gdB ops n T gd = true := by rfl) (ht : Nat.blt dd n = true := by rfl) : Cd P n ops S ((⟨some dd,.load t x,tt,pos,af,gd⟩,true) :: L) T T' := .c (fun W hW _ h => y_loadB1 h (m W hW) hm hx hv hu hr) tl hg ht
theorem Cd.loadBR (m : ∀ W,S W → MemOk X w0 M W) {t : TypeId} {td : TypeDesc} {x : Operand} {i g o k : Nat} {e : TypeId} {cs vs : List Value} (hm : lk M i = some (.box g e cs)) (hx : evT T x = some (.pointer (some ⟨g,o,none⟩))) (hu : P.underlying t = some td) (hr : td.isRow = true) (hs : (P.info? t).map (·.size) = some k) (hk : o + k ≤ cs.length) (hv : (cs.drop o).take k = vs) (tl : Cd P n ops S L ((dd,(.agg vs.toArray)) :: T) T') (hg : gdB ops n T gd = true := by rfl) (ht : Nat.blt dd n = true := by rfl) : Cd P n ops S ((⟨some dd,.load t x,tt,pos,af,gd⟩,true) :: L) T T' := .c (fun W hW _ h => y_loadBR h (m W hW) hm hx hu hr hs hk hv) tl hg ht
theorem Cd.loadC0 (m : ∀ W,S W → MemOk X w0 M W) {t : TypeId} {td : TypeDesc} {x : Operand} {i b o : Nat} {vs : List Value} {v : Value} (hm : lk M i = some (.cel b o (v :: vs))) (hx : evT T x = some (.pointer (some ⟨b,o,none⟩))) (hu : P.underlying t = some td) (hr : td.isRow = false) (tl : Cd P n ops S L ((dd,v) :: T) T') (hg : gdB ops n T gd = true := by rfl) (ht : Nat.blt dd n = true := by rfl) : Cd P n ops S ((⟨some dd,.load t x,tt,pos,af,gd⟩,true) :: L) T T' := .c (fun W hW _ h => y_loadC0 h (m W hW) hm hx hu hr) tl hg ht
theorem Cd.loadCR (m : ∀ W,S W → MemOk X w0 M W) {t : TypeId} {td : TypeDesc} {x : Operand} {i b o : Nat} {vs : List Value} (hm : lk M i = some (.cel b o vs)) (hx : evT T x = some (.pointer (some ⟨b,o,none⟩))) (hu : P.underlying t = some td) (hr : td.isRow = true) (hs : (P.info? t).map (·.size) = some vs.length) (tl : Cd P n ops S L ((dd,(.agg vs.toArray)) :: T) T') (hg : gdB ops n T gd = true := by rfl) (ht : Nat.blt dd n = true := by rfl) : Cd P n ops S ((⟨some dd,.load t x,tt,pos,af,gd⟩,true) :: L) T T' := .c (fun W hW _ h => y_loadCR h (m W hW) hm hx hu hr hs) tl hg ht
theorem Cd.str {s t e : TypeId} {x : Operand} {v : Value} {bs : List Int} (hx : evT T x = some v) (hv : ∀ W,S W → IsNums .u8 W v bs) (hs : P.underlying s = some (.slice e)) (he : P.underlying e = some (.int .u8)) (hd : P.underlying t = some .string) (tl : Cd P n ops S L ((dd,(.string (strOfNums bs))) :: T) T') (hg : gdB ops n T gd = true := by rfl) (ht : Nat.blt dd n = true := by rfl) : Cd P n ops S ((⟨some dd,.convert s t x,tt,pos,af,gd⟩,true) :: L) T T' := .c (fun W hW _ h => y_str h hx (hv W hW) hs he hd) tl hg ht
theorem Cd.loadAt {t : TypeId} {td : TypeDesc} {x : Operand} {b o : Nat} {vs : List Value} (hr : ∀ W,S W → W.rangeAt b o vs) (hx : evT T x = some (.pointer (some ⟨b,o,none⟩))) (hu : P.underlying t = some td) (hd : td.isRow = true) (hs : (P.info? t).map (·.size) = some vs.length) (tl : Cd P n ops S L ((dd,(.agg vs.toArray)) :: T) T') (hg : gdB ops n T gd = true := by rfl) (ht : Nat.blt dd n = true := by rfl) : Cd P n ops S ((⟨some dd,.load t x,tt,pos,af,gd⟩,true) :: L) T T' := .c (fun W hW _ h => y_loadAt h (hr W hW) hx hu hd hs) tl hg ht
theorem Cd.loadAt1 {t : TypeId} {td : TypeDesc} {x : Operand} {b o q q' : Nat} {vs : List Value} {v : Value} (hr : ∀ W,S W → W.rangeAt b o vs) (hx : evT T x = some (.pointer (some ⟨b,q',none⟩))) (hq : q' = o + q) (hv : nthL vs q = some v) (hu : P.underlying t = some td) (hd : td.isRow = false) (tl : Cd P n ops S L ((dd,v) :: T) T') (hg : gdB ops n T gd = true := by rfl) (ht : Nat.blt dd n = true := by rfl) : Cd P n ops S ((⟨some dd,.load t x,tt,pos,af,gd⟩,true) :: L) T T' := .c (fun W hW _ h => y_loadAt1 h (hr W hW) hx hq hv hu hd) tl hg ht
theorem Cd.cap {t e : TypeId} {x : Operand} {p : Option Addr} {l c : Nat} (hx : evT T x = some (.slice p l c)) (hu : P.underlying t = some (.slice e)) (tl : Cd P n ops S L ((dd,(.int .i64 c)) :: T) T') (hg : gdB ops n T gd = true := by rfl) (ht : Nat.blt dd n = true := by rfl) : Cd P n ops S ((⟨some dd,.call { callee := .builtin .cap,args := #[x],argTypes := #[t] },tt,pos,af,gd⟩,false) :: L) T T' := .p (fun W _ h => y_cap h hx hu) tl hg ht
end
section
variable {P : Program} {n : Nat} {ops : Array Oper} {S : World → Prop} {L : List (Oper × Bool)} {T T' : List (Nat × Value)} {w0 : World} {X : Cx} {M : Mm} {dd : Tmp} {tt : TypeId} {pos : String} {af : Array Edge} {gd : Option (Nat × Bool)}
theorem Cd.fa {t : TypeId} {x : Operand} {i g o : Nat} {fs : Array Field} {f : Field} (off : Nat) (hx : evT T x = some (.pointer (some ⟨g,o,none⟩))) (hu : P.underlying t = some (.struct fs)) (tl : Cd P n ops S L ((dd,(.pointer (some ⟨g,off,none⟩))) :: T) T') (hf : fs[i]? = some f := by rfl) (hs : (P.info? f.type).map (·.size) = some (0 + 1) := by kernel_rfl) (ho : o + f.offset = off := by rfl) (hg : gdB ops n T gd = true := by rfl) (ht : Nat.blt dd n = true := by rfl) : Cd P n ops S ((⟨some dd,.fieldAddr t x i,tt,pos,af,gd⟩,false) :: L) T T' := .p (fun W _ h => y_fieldAddr h hx hu hf hs ho) tl hg ht
theorem Cd.lb (m : ∀ W,S W → MemOk X w0 M W) (i : Nat) {t : TypeId} {td : TypeDesc} {x : Operand} {g o : Nat} {e : TypeId} {cs : List Value} {v : Value} (hu : P.underlying t = some td) (hx : evT T x = some (.pointer (some ⟨g,o,none⟩))) (hm : lk M i = some (.box g e cs)) (hv : cs[o]? = some v) (tl : Cd P n ops S L ((dd,v) :: T) T') (hr : td.isRow = false := by rfl) (hg : gdB ops n T gd = true := by rfl) (ht : Nat.blt dd n = true := by rfl) : Cd P n ops S ((⟨some dd,.load t x,tt,pos,af,gd⟩,true) :: L) T T' := .c (fun W hW _ h => y_loadB1 h (m W hW) hm hx hv hu hr) tl hg ht
end
end
section
theorem fl51nw : flatS Tryz.prog 51 [.int .i64 0,.int .i64 0,.int .i64 0,.int .i64 0,.slice none 0 0,.int .i64 0,.int .i64 0,.bool false,.int .i64 0,.slice none 0 0,.slice none 0 0] = true := by kernel_rfl
def PlaceOk (bl pe : Int) (place : List Int) : Prop := (∀ g ∈ place,1 ≤ g ∧ g ≤ 7) ∧ (place.length : Int) = (bl + pe - 1) / pe
def NewOk (vo bl sz pe to : Int) (place : List Int) : Prop := 0 ≤ vo ∧ vo ≤ 7 ∧ 1 ≤ bl ∧ bl ≤ 256 ∧ 1 ≤ sz ∧ sz ≤ 32 ∧ 1 ≤ pe ∧ pe ≤ bl ∧ PlaceOk bl pe place ∧ 0 ≤ to ∧ to ≤ 1099511627776
theorem getD_mem {l : List Int} {k : Nat} (h : k < l.length) : l.getD k 0 ∈ l := by rw [List.getD,List.getElem?_eq_getElem h]; exact List.getElem_mem _
theorem all_snoc {l : List Int} {k : Nat} {P : Int → Prop} (h : ∀ j,j < k → P (l.getD j 0)) (hk : P (l.getD k 0)) : ∀ j,j < k + 1 → P (l.getD j 0) := fun j hj => by
 rcases Nat.lt_or_ge j k with h1 | h1
 · exact h j h1
 obtain rfl : j = k := by omega
 exact hk
theorem all_mem {l : List Int} {P : Int → Prop} (h : ∀ j,j < l.length → P (l.getD j 0)) : ∀ g ∈ l,P g := fun g hg => by
 obtain ⟨j,hj,rfl⟩ := List.getElem_of_mem hg
 have := h j hj
 rwa [List.getD,List.getElem?_eq_getElem hj] at this
set_option maxRecDepth 100000
set_option maxHeartbeats 4000000
theorem plainI_any (d : List Int) (p0 : Option Addr) (c0 : Nat) (w0 : World) (h0 : Rd (fun _ => True) w0 (.slice p0 d.length c0) (.ns .i64 d)) (hd : d.length ≤ 1000000) :
   Calls Tryz.prog 99 #[.slice p0 d.length c0] w0 fun e w' => ∃ p c,e = .returned (.slice p d.length c) ∧ Rd (New w0) w' (.slice p d.length c) (.ns .i64 d) ∧ Below w0.heap.size w0 w' := by
 refine ent1 Tryz.func99 rfl Tryz.ntmps99 fun Y U =>?_
 have m0 := MemOk.start (fun _ => False) w0
 refine regS U (.assign rfl .nil) fun Y U =>?_
 refine zsr fun K0 hK0 =>?_
 refine goCh U (.move rfl .nil) fun Y U =>?_
 refine plz (e_app0N U m0 2 rfl rfl (h0.now' m0 rfl).ns_out.nums U35 fct16 (by decide) (by omega) rfl fun p4 c4 Y w5 U m5 =>?_)
 refine gz hK0 U (.assign rfl .nil) fun Y U =>?_
 refine rt1 U ?_
 have m7 := m5.freezeN 2 rfl
 exact ⟨_,_,rfl,m7.outF (i := 2) rfl,m7.below⟩
theorem within_any (n lo hi : Int) (w0 : World) :
   Calls Tryz.prog 110 #[.int .i64 n,.int .i64 lo,.int .i64 hi] w0 fun e w' => e = .returned (.bool (decide (lo ≤ n ∧ n ≤ hi))) ∧ Below w0.heap.size w0 w' := by
 refine ent3 Tryz.func110 rfl Tryz.ntmps110 fun Y U =>?_
 have m0 := MemOk.start (fun _ => False) w0
 refine regS U (.assign rfl .nil) fun Y U =>?_
 refine zsr fun K0 hK0 =>?_
 refine goCh U (.move rfl<|.move rfl<|.geq rfl rfl<|.move rfl .nil) fun Y U =>?_
 refine bc U 10 ?_ ?_
 ·
  intro hb10 U; try simp only [QQ,Qax] at hb10
  refine gz hK0 U (.moveZ rfl<|.moveZ rfl<|.leqZ rfl rfl<|.pickT rfl rfl<|.assign rfl<|.nil) fun Y U =>?_
  refine rt1 U ?_
  exact ⟨by first | rfl | (simp_all; done) | (simp_all; omega),m0.below⟩
 intro hb10 U; try simp only [QQ,Qax] at hb10
 refine gz hK0 U (.sk<|.sk<|.sk<|.pickF rfl rfl<|.assign rfl<|.nil) fun Y U =>?_
 refine rt1 U ?_
 exact ⟨by first | rfl | (simp_all; done) | (simp_all; omega),m0.below⟩
theorem chunks_any (a b : Int) (w0 : World) (ha : 0 ≤ a ∧ a ≤ 1000000) (hb : 1 ≤ b ∧ b ≤ 1000000) :
   Calls Tryz.prog 91 #[.int .i64 a,.int .i64 b] w0 fun e w' => e = .returned (.int .i64 ((a + b - 1) / b)) ∧ Below w0.heap.size w0 w' := by
 refine ent2 Tryz.func91 rfl Tryz.ntmps91 fun Y U =>?_
 have m0 := MemOk.start (fun _ => False) w0
 refine regS U (.assign rfl .nil) fun Y U =>?_
 refine regS U (.move rfl<|.move rfl<|.add rfl rfl (r := a + b) (IntWalk.i64_in _ (by omega))<|.sub rfl rfl (r := a + b - 1) (IntWalk.i64_in _ (by omega))<|.move rfl<|.quo rfl rfl (by omega) (r := (a + b - 1) / b) (by rw [Int.tdiv_eq_ediv_of_nonneg (by omega)]; exact IntWalk.i64_in _ (by have := Int.ediv_le_self b (show 0 ≤ a + b - 1 by omega); have := Int.ediv_nonneg (show 0 ≤ a + b - 1 by omega) (show 0 ≤ b by omega); omega))<|.assign rfl .nil) fun Y U =>?_
 refine rt1 U ?_
 exact ⟨rfl,m0.below⟩
theorem vlen_any (vo bl sz pe to ne fl : Int) (hi : Bool) (pp pn pw : Option Addr) (np cp nn cn nw cw : Nat) (w0 : World) :
   Calls Tryz.prog 111 #[.agg #[.int .i64 vo,.int .i64 bl,.int .i64 sz,.int .i64 pe,.slice pp np cp,.int .i64 to,.int .i64 ne,.bool hi,.int .i64 fl,.slice pn nn cn,.slice pw nw cw]] w0 fun e w' => e = .returned (.int .i64 (nw : Int)) ∧ Below w0.heap.size w0 w' := by
 refine ent1 Tryz.func111 rfl Tryz.ntmps111 fun Y U =>?_
 have m0 := MemOk.start (fun _ => False) w0
 refine zsr fun K0 hK0 =>?_
 refine plz (e_box U m0 4 (cs := [_,_,_,_,_,_,_,_,_,_,_]) rfl rfl rfl fun g1 Y w2 U m2 _ _ =>?_)
 refine gz hK0 U (.assign rfl .nil) fun Y U =>?_
 refine regS U (.fa 10 rfl U51<|.lb m2 4 U49 rfl rfl rfl<|.len rfl U49<|.assign rfl .nil) fun Y U =>?_
 refine rt1 U ?_
 exact ⟨rfl,m2.below⟩
theorem place_any (kd vo bl sz pe to at0 ix : Int) (place : List Int) (pp pi : Option Addr) (cp ni ci : Nat) (w0 : World) (h0 : Rd (fun _ => True) w0 (.slice pp place.length cp) (.ns .i64 place)) (hn : place.length ≤ 1000000) (hb : 1 ≤ bl ∧ bl ≤ 256) (hp : 1 ≤ pe ∧ pe ≤ 256) :
   Calls Tryz.prog 132 #[.agg #[.int .i64 kd,.int .i64 vo,.int .i64 bl,.int .i64 sz,.int .i64 pe,.slice pp place.length cp,.int .i64 to,.int .i64 at0,.int .i64 ix,.slice pi ni ci]] w0 fun e w' => ∃ b : Bool,e = .returned (.bool b) ∧ (b = true ↔ PlaceOk bl pe place) ∧ Below w0.heap.size w0 w' := by
 refine ent1 Tryz.func132 rfl Tryz.ntmps132 fun Y U =>?_
 have m0 := MemOk.start (fun _ => False) w0
 refine zsr fun K0 hK0 =>?_
 refine plz (e_box U m0 20 (cs := [_,_,_,_,_,_,_,_,_,_]) rfl rfl rfl fun g1 Y w2 U m2 _ _ =>?_)
 refine gz hK0 U (.assign rfl .nil) fun Y U =>?_
 refine wsk fun K1 hK1 =>?_
 refine regS U (.fa 5 rfl U38<|.lb m2 20 U35 rfl rfl rfl<|.len rfl U35<|.move rfl .nil) fun Y U =>?_
 refine wp_block ?_
 refine wp_loop_ghost (fun g a w => ∃ (k B : Nat),k ≤ place.length ∧ g = place.length - k ∧ (∀ j,j < k → 1 ≤ place.getD j 0 ∧ place.getD j 0 ≤ 7) ∧ Has 29 [(1,.pointer (some ⟨B,0,none⟩)),(6,.slice pp place.length cp),(7,.int .i64 place.length),(8,.int .i64 k)] a ∧ MemOk (cn w0) w0 [(9,.box B 38 [.int .i64 kd,.int .i64 vo,.int .i64 bl,.int .i64 sz,.int .i64 pe,.slice pp place.length cp,.int .i64 to,.int .i64 at0,.int .i64 ix,.slice pi ni ci])] w) (place.length) ?_ ?_
 · exact ⟨0,_,Nat.zero_le _,rfl,(fun j hj => by omega),U.only [1,6,7,8],m2.ren [(9,20)] (by decide)⟩
 clear U m2
 rintro g Y w8 ⟨k,B,hkl,hg,hall,U,m8⟩
 refine regS U (.lss rfl rfl .nil) fun Y U =>?_
 refine wsk fun K2 hK2 =>?_
 refine bc U 9 ?_ ?_
 ·
  intro hb10 U; try simp only [QQ,Qax] at hb10
  have hk : k < place.length := by omega
  refine wct U ?_
  refine zss (hK2 _ _ ?_)
  refine wsk fun K3 hK3 =>?_
  refine wp_block ?_
  refine zsr fun K4 hK4 =>?_
  obtain ⟨gx12,ox12,hp12,hl12,hrg12⟩ := h0.extN (k) hk
  revert U
  cases hp12
  intro U
  refine gz hK4 U (.c rfl (fun _ h_ => y_idx h_ rfl rfl U35 fct17 (k) rfl hk)<|.loadAt1 (hrg12 m8 rfl) (q := 0) rfl rfl rfl U3 rfl<|.assign rfl<|.nil) fun Y U =>?_
  refine zsr fun K5 hK5 =>?_
  refine goCh U (.move rfl .nil) fun Y U =>?_
  refine plz (ecb U Tryz.func110 rfl m8 (within_any _ _ _ _) fun Y w18 U m19 =>?_)
  refine gz hK5 U (.not rfl .nil) fun Y U =>?_
  refine bc U 14 ?_ ?_
  ·
   intro hb22 U; try simp only [QQ,Qax] at hb22
   refine wct U ?_
   replace U := U.oz [1,6,7,8]
   refine regS U (.assign rfl .nil) fun Y U =>?_
   refine rt1 U ?_
   exact ⟨false,rfl,iff_of_false (by simp) (fun h => by have h9 := h.1 _ (getD_mem hk); omega),m19.below⟩
  intro hb22 U; try simp only [QQ,Qax] at hb22
  refine wcf U ?_
  refine zss (hK3 _ _ ?_)
  replace U := U.oz [1,6,7,8]
  refine wp_region_lit ?_
  refine goCh U (.inc (k + 1)<|.move rfl .nil) fun Y U =>?_
  refine wpList_nil ?_
  show ∃ n',n' < _ ∧ _
  exact ⟨place.length - (k + 1),by omega,k + 1,_,by omega,rfl,(all_snoc (P := fun x => 1 ≤ x ∧ x ≤ 7) hall (by omega)),U.only [1,6,7,8],m19.only [9]⟩
 intro hb10 U; try simp only [QQ,Qax] at hb10
 revert U
 obtain rfl : k = place.length := by omega
 intro U
 refine wcf U ?_
 refine wp_exit ?_
 refine hK1 _ _ ?_
 refine wsk fun K6 hK6 =>?_
 have m28 := m8.oz [9]
 refine region_p 14 (B := [(9,_)]) (m28.to ⟨il,trivial⟩) m28 (by kernel_rfl) (fun w29 hP29 m29 =>?_); clear m28
 refine goR hP29 [0,1,2,3,4,5,6,7,8,9,10,11,12,13] [1,4,6,10] 14 0 16383 U (m29.to ⟨il,trivial⟩) (.fa 5 rfl U38<|.lb hh 9 U35 rfl rfl rfl<|.len rfl U35<|.fa 2 rfl U38<|.lb hh 9 U3 rfl rfl rfl<|.fa 4 rfl U38<|.lb hh 9 U3 rfl rfl rfl<|.add rfl rfl (r := bl + pe) (IntWalk.i64_in _ (by omega))<|.sub rfl rfl (r := bl + pe - 1) (IntWalk.i64_in _ (by omega))<|.fa 4 rfl U38<|.lb hh 9 U3 rfl rfl rfl<|.quo rfl rfl (by omega) (r := (bl + pe - 1) / pe) (by rw [Int.tdiv_eq_ediv_of_nonneg (by omega)]; exact IntWalk.i64_in _ (by have := Int.ediv_le_self pe (show 0 ≤ bl + pe - 1 by omega); have := Int.ediv_nonneg (show 0 ≤ bl + pe - 1 by omega) (show 0 ≤ pe by omega); omega))<|.eql rfl rfl<|.assign rfl .nil) fun Y U =>?_
 refine wpAnyE_done (by kernel_rfl) ?_ _
 refine hK6 _ _ ?_
 refine rt1 U ?_
 exact ⟨_,rfl,by rw [decide_eq_true_eq]; exact ⟨fun h => ⟨fun g hg9 => all_mem (P := fun x => 1 ≤ x ∧ x ≤ 7) hall g hg9,h⟩,fun h => h.2⟩,m29.below⟩
theorem vnew_any (kd vo bl sz pe to at0 ix : Int) (place : List Int) (pp pi : Option Addr) (cp ni ci : Nat) (w0 : World) (h0 : Rd (fun _ => True) w0 (.slice pp place.length cp) (.ns .i64 place)) (hn : place.length ≤ 1000000) :
   Calls Tryz.prog 95 #[.agg #[.int .i64 kd,.int .i64 vo,.int .i64 bl,.int .i64 sz,.int .i64 pe,.slice pp place.length cp,.int .i64 to,.int .i64 at0,.int .i64 ix,.slice pi ni ci]] w0 fun e w' => (NewOk vo bl sz pe to place ∧ ∃ p c,e = .returned (.tuple #[.agg #[.int .i64 vo,.int .i64 bl,.int .i64 sz,.int .i64 pe,.slice p place.length c,.int .i64 to,.int .i64 0,.bool (decide (0 < to)),.int .i64 0,.slice none 0 0,.slice none 0 0],.int .i64 0]) ∧ Rd (New w0) w' (.slice p place.length c) (.ns .i64 place) ∧ Below w0.heap.size w0 w') ∨ (¬ NewOk vo bl sz pe to place ∧ e = .returned (.tuple #[.agg #[.int .i64 0,.int .i64 0,.int .i64 0,.int .i64 0,.slice none 0 0,.int .i64 0,.int .i64 0,.bool false,.int .i64 0,.slice none 0 0,.slice none 0 0],.int .i64 23]) ∧ Below w0.heap.size w0 w') := by
 refine ent1 Tryz.func95 rfl Tryz.ntmps95 fun Y U =>?_
 have m0 := MemOk.start (fun _ => False) w0
 refine zsr fun K0 hK0 =>?_
 refine plz (e_box U m0 20 (cs := [_,_,_,_,_,_,_,_,_,_]) rfl rfl rfl fun g1 Y w2 U m2 _ _ =>?_)
 refine plz (e_alloc U m2 21 fct14 rfl fun g3 Y w4 U m4 _ _ =>?_)
 refine gz hK0 U (.assign rfl .nil) fun Y U =>?_
 refine zsr fun K1 hK1 =>?_
 refine goCh U (.fa 1 rfl U38<|.lb m4 20 U3 rfl rfl rfl .nil) fun Y U =>?_
 refine plz (ecb U Tryz.func110 rfl m4 (within_any _ _ _ _) fun Y w10 U m11 =>?_)
 refine goCh U (.move rfl .nil) fun Y U =>?_
 refine bc U 8 ?_ ?_
 ·
  intro hb14 U; try simp only [QQ,Qax] at hb14
  refine goCh U (.faZ 2 rfl U38<|.loadB1Z m11 (i := 20) rfl rfl rfl U3 rfl .nil) fun Y U =>?_
  refine stz U (ecb U Tryz.func110 rfl m11 (within_any _ _ _ _) fun Y w17 U m18 =>?_)
  refine goCh U (.pickT rfl rfl<|.move rfl .nil) fun Y U =>?_
  refine bc U 13 ?_ ?_
  ·
   intro hb22 U; try simp only [QQ,Qax] at hb22
   refine goCh U (.faZ 3 rfl U38<|.loadB1Z m18 (i := 20) rfl rfl rfl U3 rfl .nil) fun Y U =>?_
   refine stz U (ecb U Tryz.func110 rfl m18 (within_any _ _ _ _) fun Y w25 U m26 =>?_)
   refine gz hK1 U (.pickT rfl rfl<|.assign rfl<|.nil) fun Y U =>?_
   refine wsk fun K2 hK2 =>?_
   replace U := U.oz [1,2,3,4]
   refine zsr fun K3 hK3 =>?_
   refine goCh U (.move rfl<|.not rfl<|.move rfl .nil) fun Y U =>?_
   refine bc U 20 ?_ ?_
   ·
    intro hb37 U; try simp only [QQ,Qax] at hb37
    refine gz hK3 U (.sk<|.sk<|.sk<|.sk<|.sk<|.sk<|.pickT rfl rfl<|.move rfl<|.sk<|.sk<|.sk<|.pickT rfl rfl<|.move rfl<|.sk<|.sk<|.sk<|.sk<|.pickT rfl rfl<|.nil) fun Y U =>?_
    refine wct U ?_
    replace U := U.oz [1,2,3]
    refine zsr fun K4 hK4 =>?_
    refine goCh U (.build rfl fct14 fl51nw rfl (by dsimp only [setL,List.set] <;> rfl) .nil) fun Y U =>?_
    refine plz (stw U m26 21 fct13 fun w59 m59 _ =>?_)
    refine gz hK4 U (.assign rfl .nil) fun Y U =>?_
    refine rtd (retCT (fn := Tryz.f95) U m59 (i := 21) rfl rfl rfl rfl U51 rfl fct13 ?_)
    exact .inr ⟨fun h => by unfold NewOk at h; obtain ⟨h1,h2,h3,h4,h5,h6,h7,h8,h9,h10,h11⟩ := h; first | omega | (have h12 := hpb.2 h9; simp_all),rfl,m59.below⟩
   intro hb37 U; try simp only [QQ,Qax] at hb37
   refine goCh U (.faZ 4 rfl U38<|.loadB1Z m26 (i := 20) rfl rfl rfl U3 rfl<|.faZ 2 rfl U38<|.loadB1Z m26 (i := 20) rfl rfl rfl U3 rfl .nil) fun Y U =>?_
   refine stz U (ecb U Tryz.func110 rfl m26 (within_any _ _ _ _) fun Y w65 U m66 =>?_)
   refine goCh U (.notZ rfl<|.pickF rfl rfl<|.move rfl .nil) fun Y U =>?_
   refine bc U 28 ?_ ?_
   ·
    intro hb71 U; try simp only [QQ,Qax] at hb71
    refine gz hK3 U (.sk<|.sk<|.sk<|.pickT rfl rfl<|.move rfl<|.sk<|.sk<|.sk<|.sk<|.pickT rfl rfl<|.nil) fun Y U =>?_
    refine wct U ?_
    replace U := U.oz [1,2,3]
    refine zsr fun K5 hK5 =>?_
    refine goCh U (.build rfl fct14 fl51nw rfl (by dsimp only [setL,List.set] <;> rfl) .nil) fun Y U =>?_
    refine plz (stw U m66 21 fct13 fun w85 m85 _ =>?_)
    refine gz hK5 U (.assign rfl .nil) fun Y U =>?_
    refine rtd (retCT (fn := Tryz.f95) U m85 (i := 21) rfl rfl rfl rfl U51 rfl fct13 ?_)
    exact .inr ⟨fun h => by unfold NewOk at h; obtain ⟨h1,h2,h3,h4,h5,h6,h7,h8,h9,h10,h11⟩ := h; first | omega | (have h12 := hpb.2 h9; simp_all),rfl,m85.below⟩
   intro hb71 U; try simp only [QQ,Qax] at hb71
   refine goCh U (.loadBRZ m66 (i := 20) rfl rfl U38 rfl fct18 (by simp) (by dsimp only [List.drop,List.take] <;> rfl) .nil) fun Y U =>?_
   refine stz U (ecl U Tryz.func132 rfl (place_any _ _ _ _ _ _ _ _ _ _ _ _ _ _ _ (h0.now' m66 rfl).any hn (by omega) (by omega)) ?_)
   rintro e w88 ⟨pb,rfl,hpb,hb88⟩
   have m89 := m66.later hb88
   refine ⟨_,rfl,?_⟩; intro Y U
   refine goCh U (.notZ rfl<|.pickF rfl rfl<|.move rfl .nil) fun Y U =>?_
   refine bc U 33 ?_ ?_
   ·
    intro hb94 U; try simp only [QQ,Qax] at hb94
    refine gz hK3 U (.sk<|.sk<|.sk<|.sk<|.pickT rfl rfl<|.nil) fun Y U =>?_
    refine wct U ?_
    replace U := U.oz [1,2,3]
    refine zsr fun K6 hK6 =>?_
    refine goCh U (.build rfl fct14 fl51nw rfl (by dsimp only [setL,List.set] <;> rfl) .nil) fun Y U =>?_
    refine plz (stw U m89 21 fct13 fun w103 m103 _ =>?_)
    refine gz hK6 U (.assign rfl .nil) fun Y U =>?_
    refine rtd (retCT (fn := Tryz.f95) U m103 (i := 21) rfl rfl rfl rfl U51 rfl fct13 ?_)
    exact .inr ⟨fun h => by unfold NewOk at h; obtain ⟨h1,h2,h3,h4,h5,h6,h7,h8,h9,h10,h11⟩ := h; first | omega | (have h12 := hpb.2 h9; simp_all),rfl,m103.below⟩
   intro hb94 U; try simp only [QQ,Qax] at hb94
   refine goCh U (.faZ 6 rfl U38<|.loadB1Z m89 (i := 20) rfl rfl rfl U3 rfl .nil) fun Y U =>?_
   refine stz U (ecb U Tryz.func110 rfl m89 (within_any _ _ _ _) fun Y w107 U m108 =>?_)
   refine gz hK3 U (.notZ rfl<|.pickF rfl rfl<|.nil) fun Y U =>?_
   refine bc U 38 ?_ ?_
   ·
    intro hb112 U; try simp only [QQ,Qax] at hb112
    refine wct U ?_
    replace U := U.oz [1,2,3]
    refine zsr fun K7 hK7 =>?_
    refine goCh U (.build rfl fct14 fl51nw rfl (by dsimp only [setL,List.set] <;> rfl) .nil) fun Y U =>?_
    refine plz (stw U m108 21 fct13 fun w116 m116 _ =>?_)
    refine gz hK7 U (.assign rfl .nil) fun Y U =>?_
    refine rtd (retCT (fn := Tryz.f95) U m116 (i := 21) rfl rfl rfl rfl U51 rfl fct13 ?_)
    exact .inr ⟨fun h => by unfold NewOk at h; obtain ⟨h1,h2,h3,h4,h5,h6,h7,h8,h9,h10,h11⟩ := h; first | omega | (have h12 := hpb.2 h9; simp_all),rfl,m116.below⟩
   intro hb112 U; try simp only [QQ,Qax] at hb112
   refine wcf U ?_
   refine zss (hK2 _ _ ?_)
   refine wsk fun K8 hK8 =>?_
   replace U := U.oz [1,2,3]
   have m119 := m108.oz [20,21]
   refine region_p 19 (B := [(20,_)]) (m119.to ⟨il,trivial⟩) m119 (by kernel_rfl) (fun w120 hP120 m120 =>?_); clear m119
   refine goR hP120 [0,1,2,3,4,5,6,7,8,9,11,12,13,14,15] [1,3,5,7,9,12,14] 15 0 64511 U (m120.to ⟨il,trivial⟩) (.fa 1 rfl U38<|.lb hh 20 U3 rfl rfl rfl<|.fa 2 rfl U38<|.lb hh 20 U3 rfl rfl rfl<|.fa 3 rfl U38<|.lb hh 20 U3 rfl rfl rfl<|.fa 4 rfl U38<|.lb hh 20 U3 rfl rfl rfl<|.fa 5 rfl U38<|.lb hh 20 U35 rfl rfl rfl<|.fa 6 rfl U38<|.lb hh 20 U3 rfl rfl rfl<|.fa 6 rfl U38<|.lb hh 20 U3 rfl rfl rfl<|.gtr rfl rfl .nil) fun Y U =>?_
   refine so 10 ?_
   refine ecl U Tryz.func99 rfl (plainI_any place _ _ _ ((h0.now' m120 rfl).any) hn) ?_
   rintro e w136 ⟨p136,c136,rfl,hd136,hb136⟩
   have m137 := m120.callF 22 rfl hb136 hd136
   refine ⟨_,rfl,?_⟩; intro Y U
   refine ⟨m137.to ⟨il,trivial⟩,?_⟩
   refine goA hP120 [16] 1 65535 131071 U (m137.to ⟨il,trivial⟩) (.build rfl fct14 fl51nw rfl (by dsimp only [setL,List.set] <;> rfl) .nil) fun Y U =>?_
   refine so 17 ?_
   refine stw U m137 21 fct13 fun w140 m140 _ =>?_
   refine ⟨m140.to ⟨il,trivial⟩,?_⟩
   refine goA hP120 [18] 1 262143 524287 U (m140.to ⟨il,trivial⟩) (.assign rfl .nil) fun Y U =>?_
   refine wpAnyE_done (by kernel_rfl) ?_ _
   refine hK8 _ _ ?_
   refine rtd (retCT (fn := Tryz.f95) U m140 (i := 21) rfl rfl rfl rfl U51 rfl fct13 ?_)
   exact .inl ⟨by unfold NewOk; refine ⟨by omega,by omega,by omega,by omega,by omega,by omega,by omega,by omega,hpb.1 (by simp_all),by omega,by omega⟩,_,_,rfl,m140.outF (i := 22) rfl,m140.below⟩
  intro hb22 U; try simp only [QQ,Qax] at hb22
  refine gz hK1 U (.sk<|.sk<|.sk<|.pickF rfl rfl<|.assign rfl<|.nil) fun Y U =>?_
  refine wsk fun K9 hK9 =>?_
  replace U := U.oz [1,2,3,4]
  refine regS U (.move rfl<|.not rfl<|.move rfl<|.sk<|.sk<|.sk<|.sk<|.sk<|.sk<|.pickT rfl rfl<|.move rfl<|.sk<|.sk<|.sk<|.pickT rfl rfl<|.move rfl<|.sk<|.sk<|.sk<|.sk<|.pickT rfl rfl .nil) fun Y U =>?_
  refine wct U ?_
  replace U := U.oz [1,2,3]
  refine zsr fun K10 hK10 =>?_
  refine goCh U (.build rfl fct14 fl51nw rfl (by dsimp only [setL,List.set] <;> rfl) .nil) fun Y U =>?_
  refine plz (stw U m18 21 fct13 fun w172 m172 _ =>?_)
  refine gz hK10 U (.assign rfl .nil) fun Y U =>?_
  refine rtd (retCT (fn := Tryz.f95) U m172 (i := 21) rfl rfl rfl rfl U51 rfl fct13 ?_)
  exact .inr ⟨fun h => by unfold NewOk at h; obtain ⟨h1,h2,h3,h4,h5,h6,h7,h8,h9,h10,h11⟩ := h; first | omega | (have h12 := hpb.2 h9; simp_all),rfl,m172.below⟩
 intro hb14 U; try simp only [QQ,Qax] at hb14
 refine gz hK1 U (.sk<|.sk<|.sk<|.pickF rfl rfl<|.move rfl<|.sk<|.sk<|.sk<|.pickF rfl rfl<|.assign rfl<|.nil) fun Y U =>?_
 refine wsk fun K11 hK11 =>?_
 replace U := U.oz [1,2,3,4]
 refine regS U (.move rfl<|.not rfl<|.move rfl<|.sk<|.sk<|.sk<|.sk<|.sk<|.sk<|.pickT rfl rfl<|.move rfl<|.sk<|.sk<|.sk<|.pickT rfl rfl<|.move rfl<|.sk<|.sk<|.sk<|.sk<|.pickT rfl rfl .nil) fun Y U =>?_
 refine wct U ?_
 replace U := U.oz [1,2,3]
 refine zsr fun K12 hK12 =>?_
 refine goCh U (.build rfl fct14 fl51nw rfl (by dsimp only [setL,List.set] <;> rfl) .nil) fun Y U =>?_
 refine plz (stw U m11 21 fct13 fun w209 m209 _ =>?_)
 refine gz hK12 U (.assign rfl .nil) fun Y U =>?_
 refine rtd (retCT (fn := Tryz.f95) U m209 (i := 21) rfl rfl rfl rfl U51 rfl fct13 ?_)
 exact .inr ⟨fun h => by unfold NewOk at h; obtain ⟨h1,h2,h3,h4,h5,h6,h7,h8,h9,h10,h11⟩ := h; first | omega | (have h12 := hpb.2 h9; simp_all),rfl,m209.below⟩
end
end Go.Proofs.YtkehgingagggaaaGreat.K
