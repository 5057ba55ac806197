/- The Go function mementolaw26.ModelReplays returns true for every input and leaves its arguments as they were; no conditions. (The frame of this text is the guide's skeleton; the walk is ours.) -/
import Derived.Test.YtkehgingagggaaaGreatRows
import Derived.WalkKit
import Derived.ProofKit
import Derived.OpenShut
import Derived.ShutString
import Derived.ChangeOld
import Derived.Below
import Derived.Test.YtkehgingagggaaaGreatG28
namespace Go.Proofs.YtkehgingagggaaaGreat.modelReplays
open Go.ChangeShapes Go.WideShapes Go.ChangeAt Go.RowKit
open Go.ChangeMaps (open_string shut_string)
set_option linter.unusedVariables false
theorem own : ownKnob Tryz.prog.godebug = none := by kernel_rfl
theorem laidOut : laidOutB Tryz.prog = true := by kernel_rfl
/-- A slice of integers that came in. -/
def IsRow (k : IntKind) (w : World) (a : Option Addr) (len cap : Nat) (zs : List Int) : Prop :=
  (a = none ∧ len = 0 ∧ cap = 0 ∧ zs = []) ∨
  ∃ x,a = some x ∧ len ≤ cap ∧ cap ≤ maxLen ∧ zs.length = cap ∧ (∀ i,i < zs.length → w.cell? (x.add i) = some (.int k (zs.getD i 0))) ∧ ∀ n ∈ zs,(Lit.int k n).wf = true
set_option maxRecDepth 100000 in
theorem walk (a0 : Option Addr) (len0 cap0 : Nat) (z0 : List Int) (a1 : Option Addr) (len1 cap1 : Nat) (rs1 : List (List K.D)) (a2 : Option Addr) (len2 cap2 : Nat) (z2 : List Int) (a3 : Option Addr) (len3 cap3 : Nat) (z3 : List Int) (cs4 : Array Value) (ds4 : List K.D) (w : World) (w0 : IsRow .u8 w a0 len0 cap0 z0) (w1 : K.Rd (fun _ => True) w (.slice a1 rs1.length cap1) (.l (K.cmdS).length rs1) ∧ rs1.length = len1 ∧ rs1.length ≤ reachBytes ∧ ∀ r ∈ rs1,K.DOkL K.cmdS r) (w2 : IsRow .u8 w a2 len2 cap2 z2) (w3 : IsRow .u8 w a3 len3 cap3 z3) (w4 : K.RdL (fun _ => True) w cs4.toList ds4 ∧ K.DOkL K.volS ds4) :
    Calls Tryz.prog 5 #[.slice a0 len0 cap0,.slice a1 len1 cap1,.slice a2 len2 cap2,.slice a3 len3 cap3,.agg cs4] w fun e w' => e = .returned (.bool true) ∧ Below w.heap.size w w' := by
  obtain ⟨y0,g0,e0,f0⟩ := K.NumsS.ofRow w0
  subst e0
  obtain ⟨y2,g2,e2,f2⟩ := K.NumsS.ofRow w2
  subst e2
  obtain ⟨y3,g3,e3,f3⟩ := K.NumsS.ofRow w3
  subst e3
  obtain ⟨g1,e1,-,q1⟩ := w1
  obtain ⟨raw,rfl,hraw⟩ := K.rows_map (fun r hr => K.cmd_formB (q1 r hr))
  subst e1
  obtain ⟨x0,x1,x2,x3,x4,p4,c4,x5,x6,x7,x8,x9,p9,c9,x10,p10,c10,ev,_,_,_,_,k4,_,_,_,_,_,k9,_,_,k10,_,j10⟩ := K.openV w4.1 w4.2
  obtain ⟨l4⟩ := cs4
  obtain rfl : l4 = _ := ev
  obtain ⟨ws,rfl,hws⟩ := K.rows_map (fun r hr => K.wr_formB (j10 r hr))
  exact K.replays_walk y0 y2 y3 raw ⟨x0,x1,x2,x3,x4,x5,x6,x7,x8,x9,ws⟩ _ _ _ _ p4 p9 p10 _ _ _ _ c4 c9 c10 w g0 (fun j hj => by
    have := bounds_u8 (f0 _ (List.getElem_mem hj))
    rwa [List.getD,List.getElem?_eq_getElem hj]) g1 (fun c hc => (hraw c hc).2) (fun c hc => (hraw c hc).1) g2 (fun j hj => by
    have := bounds_u8 (f2 _ (List.getElem_mem hj))
    rwa [List.getD,List.getElem?_eq_getElem hj]) g3 (fun j hj => by
    have := bounds_u8 (f3 _ (List.getElem_mem hj))
    rwa [List.getD,List.getElem?_eq_getElem hj]) k4 k9 k10 (fun e he => (hws e he).1) (fun e he => (hws e he).2)
set_option maxRecDepth 100000 in
theorem lifted (os : Os) (started : os.Started) (H : Type) (enc : TypeId × Value → H) :
    ReturnsInHanded {} Tryz.checked os 5 .any (Rows.modelReplaysSpec.pre6 enc Tryz.prog Tryz.f5 Rows.modelReplaysRow.domain false) (Rows.modelReplaysSpec.post enc Tryz.prog Tryz.f5 false true false false) := by
  refine returnsInHanded_of_change_sized (C := Tryz.checked) own started (by kernel_rfl) Tryz.func5
    (ChangeSpec.witness6 (enc := enc) (C := Tryz.checked) false ⟨#[],#[.slice none 0 0,.slice none 0 0,.slice none 0 0,.slice none 0 0,.agg #[.int .i64 0,.int .i64 0,.int .i64 0,.int .i64 0,.slice none 0 0,.int .i64 0,.int .i64 0,.bool false,.int .i64 0,.slice none 0 0,.slice none 0 0]],[]⟩ 8 (by kernel_rfl) (by kernel_rfl) (by kernel_rfl) (by kernel_rfl)) ?_
  intro W base args ds gs before hval0 hW hcnd hsz _
  have hval : ∀ (j : Nat) t v,Tryz.f5.params[j]? = some t → args[j]? = some v → Value.okWide Tryz.prog W .any base t v := hval0
  have hW' := hW
  obtain ⟨p,q,hA0,hV,rfl,hfz,hnd⟩ := hW
  have hA : DataW.TrodAll enc Tryz.prog W 0 (fun _ => true) true Tryz.f5.params.toList args.toList ds p := hA0
  rw [Tryz.params5] at hA hval hsz
  obtain ⟨v0,vs0,d0,ds0,p0,q0,hargs,rfl,rfl,h0,r0⟩ := trodAll_cons hA
  obtain ⟨v1,vs1,d1,ds1,p1,q1,rfl,rfl,rfl,h1,r1⟩ := trodAll_cons r0
  obtain ⟨v2,vs2,d2,ds2,p2,q2,rfl,rfl,rfl,h2,r2⟩ := trodAll_cons r1
  obtain ⟨v3,vs3,d3,ds3,p3,q3,rfl,rfl,rfl,h3,r3⟩ := trodAll_cons r2
  obtain ⟨v4,vs4,d4,ds4,p4,q4,rfl,rfl,rfl,h4,r4⟩ := trodAll_cons r3
  obtain ⟨rfl,rfl,rfl⟩ := trodAll_nil r4
  obtain rfl : args = #[v0,v1,v2,v3,v4] := by cases args; simp_all
  obtain ⟨rfl,rfl⟩ := trodVars_none hV
  obtain ⟨a0,len0,cap0,rfl⟩ := okWide_slice Tryz.underlying22 (hval 0 22 v0 rfl rfl)
  have k0 := h0
  have lt0 : ∀ x ∈ p0,x.block < W.heap.size := by obtain ⟨m,hm⟩ := k0; exact DataW.trod_lt m _ _ _ hm
  obtain ⟨z0,w0⟩ : ∃ zs,IsRow .u8 W a0 len0 cap0 zs := by
    obtain ⟨fuel,hf⟩ := h0
    rcases open_ints Tryz.underlying22 Tryz.underlying5 (by kernel_rfl) hf with ⟨hcs,_⟩ | ⟨x,l,c,zs,hcs,_,hl,hm,hz,_,hcell,hwz⟩
    · simp [Value.cells] at hcs
      obtain ⟨rfl,rfl,rfl⟩ := hcs
      exact ⟨[],.inl ⟨rfl,rfl,rfl,rfl⟩⟩
    · simp [Value.cells] at hcs
      obtain ⟨rfl,rfl,rfl⟩ := hcs
      exact ⟨zs,.inr ⟨_,rfl,hl,hm,by simpa using hz,hcell,hwz⟩⟩
  obtain ⟨a1,len1,cap1,rfl⟩ := okWide_slice Tryz.underlying24 (hval 1 24 v1 rfl rfl)
  have k1 := h1
  have lt1 : ∀ x ∈ p1,x.block < W.heap.size := by obtain ⟨m,hm⟩ := k1; exact DataW.trod_lt m _ _ _ hm
  have wt1 : ∀ n ∈ d1.weights Tryz.prog 24,n ≤ reachBytes := fun n hn => by simpa using List.all_eq_true.1 hsz n (DataW.weights_mem_each (j := 1) (t := 24) (d := d1) rfl rfl n hn)
  obtain ⟨rs1,w1⟩ : ∃ rs1 : List (List K.D),K.Rd (fun _ => True) W (.slice a1 rs1.length cap1) (.l (K.cmdS).length rs1) ∧ rs1.length = len1 ∧ rs1.length ≤ reachBytes ∧ ∀ r ∈ rs1,K.DOkL K.cmdS r := by
    obtain ⟨fuel,hf⟩ := h1
    exact K.open_rows K.fitsCmds hf wt1
  obtain ⟨a2,len2,cap2,rfl⟩ := okWide_slice Tryz.underlying22 (hval 2 22 v2 rfl rfl)
  have k2 := h2
  have lt2 : ∀ x ∈ p2,x.block < W.heap.size := by obtain ⟨m,hm⟩ := k2; exact DataW.trod_lt m _ _ _ hm
  obtain ⟨z2,w2⟩ : ∃ zs,IsRow .u8 W a2 len2 cap2 zs := by
    obtain ⟨fuel,hf⟩ := h2
    rcases open_ints Tryz.underlying22 Tryz.underlying5 (by kernel_rfl) hf with ⟨hcs,_⟩ | ⟨x,l,c,zs,hcs,_,hl,hm,hz,_,hcell,hwz⟩
    · simp [Value.cells] at hcs
      obtain ⟨rfl,rfl,rfl⟩ := hcs
      exact ⟨[],.inl ⟨rfl,rfl,rfl,rfl⟩⟩
    · simp [Value.cells] at hcs
      obtain ⟨rfl,rfl,rfl⟩ := hcs
      exact ⟨zs,.inr ⟨_,rfl,hl,hm,by simpa using hz,hcell,hwz⟩⟩
  obtain ⟨a3,len3,cap3,rfl⟩ := okWide_slice Tryz.underlying22 (hval 3 22 v3 rfl rfl)
  have k3 := h3
  have lt3 : ∀ x ∈ p3,x.block < W.heap.size := by obtain ⟨m,hm⟩ := k3; exact DataW.trod_lt m _ _ _ hm
  obtain ⟨z3,w3⟩ : ∃ zs,IsRow .u8 W a3 len3 cap3 zs := by
    obtain ⟨fuel,hf⟩ := h3
    rcases open_ints Tryz.underlying22 Tryz.underlying5 (by kernel_rfl) hf with ⟨hcs,_⟩ | ⟨x,l,c,zs,hcs,_,hl,hm,hz,_,hcell,hwz⟩
    · simp [Value.cells] at hcs
      obtain ⟨rfl,rfl,rfl⟩ := hcs
      exact ⟨[],.inl ⟨rfl,rfl,rfl,rfl⟩⟩
    · simp [Value.cells] at hcs
      obtain ⟨rfl,rfl,rfl⟩ := hcs
      exact ⟨zs,.inr ⟨_,rfl,hl,hm,by simpa using hz,hcell,hwz⟩⟩
  obtain ⟨cs4,rfl,hcz4⟩ := okWide_struct Tryz.underlying51 (hval 4 51 v4 rfl rfl)
  have k4 := h4
  have lt4 : ∀ x ∈ p4,x.block < W.heap.size := by obtain ⟨m,hm⟩ := k4; exact DataW.trod_lt m _ _ _ hm
  have wt4 : ∀ n ∈ d4.weights Tryz.prog 51,n ≤ reachBytes := fun n hn => by simpa using List.all_eq_true.1 hsz n (DataW.weights_mem_each (j := 4) (t := 51) (d := d4) rfl rfl n hn)
  obtain ⟨ds4,w4⟩ : ∃ ds4 : List K.D,K.RdL (fun _ => True) W cs4.toList ds4 ∧ K.DOkL K.volS ds4 := K.open_val K.fitsVol h4 wt4
  clear hA0 hval0
  refine (walk a0 len0 cap0 z0 a1 len1 cap1 rs1 a2 len2 cap2 z2 a3 len3 cap3 z3 cs4 ds4 W w0 w1 w2 w3 w4).mono fun e W' ⟨he,bel⟩ =>?_
  subst he
  exact ⟨_,rfl,_,_,_,[],_,[],hW',trodAll_mk1 (shut_bool Tryz.underlying4 _),(trodAll_cons_mk (Below.trod laidOut (by kernel_rfl) (of_decide_eq_true (by kernel_rfl)) k0 bel lt0) (trodAll_cons_mk (Below.trod laidOut (by kernel_rfl) (of_decide_eq_true (by kernel_rfl)) k1 bel lt1) (trodAll_cons_mk (Below.trod laidOut (by kernel_rfl) (of_decide_eq_true (by kernel_rfl)) k2 bel lt2) (trodAll_cons_mk (Below.trod laidOut (by kernel_rfl) (of_decide_eq_true (by kernel_rfl)) k3 bel lt3) (trodAll_cons_mk (Below.trod laidOut (by kernel_rfl) (of_decide_eq_true (by kernel_rfl)) k4 bel lt4) trodAll_mk0))))),rfl,bel.frame _,fun h => by cases h⟩
theorem over : Rows.modelReplaysRow.holds Tryz.pinned (OpenSpec.ofChange Rows.modelReplaysSpec) :=
  OpenClaim.holds_of_wide 5 Tryz.f5 rfl rfl rfl rfl rfl rfl rfl ⟨rfl,rfl,rfl,rfl,rfl⟩ rfl rfl rfl rfl rfl (by kernel_rfl) Tryz.func5 (by kernel_rfl)
    (of_decide_eq_true (by kernel_rfl)) (by unfold Func.isWrapper; first | (rw [if_pos (by decide +kernel)]; kernel_rfl) | (rw [if_neg (by decide +kernel)]; exact ⟨rfl,rfl⟩))
    (fun os started H enc _ => lifted os started H enc)
/-- ████ THE STATEMENT ████ -/
theorem proved : Rows.ModelReplaysSaid := over
#print axioms proved
end Go.Proofs.YtkehgingagggaaaGreat.modelReplays
