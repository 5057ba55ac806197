/- The Go function mementolaw17.MsmPlays returns true for every input and leaves its arguments as they were; no conditions. (The frame of this text is the guide's skeleton; the walk is ours.) -/
import Derived.Test.YtkehgingagggaaaGreatRows
import Derived.WalkKit
import Derived.ProofKit
import Derived.OpenShut
import Derived.ShutString
import Derived.ChangeOld
import Derived.Below
import Derived.Test.YtkehgingagggaaaGreatG26
namespace Go.Proofs.YtkehgingagggaaaGreat.msmPlays
set_option autoImplicit true
set_option relaxedAutoImplicit true
open Go.ChangeShapes Go.WideShapes Go.ChangeAt Go.RowKit
open Go.ChangeMaps (open_string shut_string)
set_option linter.unusedVariables false
theorem own:ownKnob Tryz.prog.godebug=none:=by kernel_rfl
theorem oD:laidOutB Tryz.prog=true:=by kernel_rfl
/-- A slice of integers that came in. -/
def xY(k:IntKind)(w:World)(a:Option Addr)(len cap:Nat)(zs:List Int):Prop:=
  (a=none∧len=0∧cap=0∧zs=[])∨
  ∃ x,a=some x∧len≤cap∧cap≤maxLen∧zs.length=cap∧(∀ i,i<zs.length→w.cell? (x.add i)=some (.int k (zs.getD i 0)))∧∀ n∈zs,(Lit.int k n).wf=true
set_option maxRecDepth 100000 in
theorem pO(a0 len0 cap0 z0 a1 len1 cap1)(ls1:List (List Int))(a2 len2 cap2)(rs2:List (List K.D))(a3 a4)(w:World)(w0:xY .u8 w a0 len0 cap0 z0)(w1:K.Rd (fun _=>True) w (.slice a1 ls1.length cap1) (.l 1 (ls1.map K.bD))∧ls1.length=len1∧∀ l∈ls1,K.BytesL l)(w2:K.Rd (fun _=>True) w (.slice a2 rs2.length cap2) (.l (K.cmdS).length rs2)∧rs2.length=len2∧rs2.length≤reachBytes∧∀ r∈rs2,K.DOkL K.cmdS r)(w3:(Lit.int .u16 a3).wf=true)(w4:(Lit.int .u8 a4).wf=true) :
    Calls Tryz.prog 3 #[.slice a0 len0 cap0,.slice a1 len1 cap1,.slice a2 len2 cap2,.int .u16 a3,.int .u8 a4] w fun e w'=>e=.returned (.bool true)∧Below w.heap.size w w':=by
  obtain⟨y0,g0,e0,f0⟩:=K.NumsS.ofRow w0
  subst e0
  obtain⟨g1,e1,f1⟩:=w1
  subst e1
  rw[show ls1.length=(ls1.map K.bD).length from(List.length_map _).symm] at g1 ⊢
  obtain⟨g2,e2,-,q2⟩:=w2
  obtain⟨raw,rfl,hraw⟩:=K.rows_map (fun r hr=>K.cmd_formB (q2 r hr))
  subst e2
  have b3:=bounds_u16 w3
  have b4:=bounds_u8 w4
  exact K.plays_walk y0 ls1 raw a3 a4 _ _ _ _ _ _ w (by omega) (by omega) g0 (fun j hj=>by
    have:=bounds_u8 (f0 _ (List.getElem_mem hj))
    rwa [List.getD,List.getElem?_eq_getElem hj]) g1 f1 g2 (fun c hc=>(hraw c hc).2) (fun c hc=>(hraw c hc).1)
set_option maxRecDepth 100000 in
theorem xZ(os:Os)(started:os.Started)(H:Type)(enc:TypeId×Value→H) :
    ReturnsInHanded {} Tryz.checked os 3 .any (Rows.msmPlaysSpec.pre6 enc Tryz.prog Tryz.f3 Rows.msmPlaysRow.domain false) (Rows.msmPlaysSpec.post enc Tryz.prog Tryz.f3 false true false false):=by
  refine returnsInHanded_of_change_sized (C:=Tryz.checked) own started (by kernel_rfl) Tryz.func3
    (ChangeSpec.witness6 (enc:=enc) (C:=Tryz.checked) false ⟨#[],#[.slice none 0 0,.slice none 0 0,.slice none 0 0,.int .u16 0,.int .u8 0],[]⟩ 8 (by kernel_rfl) (by kernel_rfl) (by kernel_rfl) (by kernel_rfl)) ?_
  intro W base args ds gs before hval0 hW hcnd hsz _
  have hval:∀ (j:Nat) t v,Tryz.f3.params[j]? = some t→args[j]? = some v→Value.okWide Tryz.prog W .any base t v:=hval0
  have hW':=hW
  obtain⟨p,q,hA0,hV,rfl,hfz,hnd⟩:=hW
  have hA:DataW.TrodAll enc Tryz.prog W 0 (fun _=>true) true Tryz.f3.params.toList args.toList ds p:=hA0
  rw[Tryz.params3] at hA hval hsz
  obtain⟨v0,vs0,d0,ds0,p0,q0,hargs,rfl,rfl,h0,r0⟩:=trodAll_cons hA
  obtain⟨v1,vs1,d1,ds1,p1,q1,rfl,rfl,rfl,h1,r1⟩:=trodAll_cons r0
  obtain⟨v2,vs2,d2,ds2,p2,q2,rfl,rfl,rfl,h2,r2⟩:=trodAll_cons r1
  obtain⟨v3,vs3,d3,ds3,p3,q3,rfl,rfl,rfl,h3,r3⟩:=trodAll_cons r2
  obtain⟨v4,vs4,d4,ds4,p4,q4,rfl,rfl,rfl,h4,r4⟩:=trodAll_cons r3
  obtain⟨rfl,rfl,rfl⟩:=trodAll_nil r4
  obtain rfl:args=#[v0,v1,v2,v3,v4]:=by cases args;simp_all
  obtain⟨rfl,rfl⟩:=trodVars_none hV
  obtain⟨a0,len0,cap0,rfl⟩:=okWide_slice Tryz.underlying22 (hval 0 22 v0 rfl rfl)
  have k0:=h0
  have lt0:∀ x∈p0,x.block<W.heap.size:=by obtain⟨m,hm⟩:=k0;exact DataW.trod_lt m _ _ _ hm
  obtain⟨z0,w0⟩:∃ zs,xY .u8 W a0 len0 cap0 zs:=by
    obtain⟨fuel,hf⟩:=h0
    rcases open_ints Tryz.underlying22 Tryz.underlying5 (by kernel_rfl) hf with ⟨hcs,_⟩|⟨x,l,c,zs,hcs,_,hl,hm,hz,_,hcell,hwz⟩
    · simp [Value.cells] at hcs
      obtain⟨rfl,rfl,rfl⟩:=hcs
      exact⟨[],.inl ⟨rfl,rfl,rfl,rfl⟩⟩
    · simp [Value.cells] at hcs
      obtain⟨rfl,rfl,rfl⟩:=hcs
      exact⟨zs,.inr ⟨_,rfl,hl,hm,by simpa using hz,hcell,hwz⟩⟩
  obtain⟨a1,len1,cap1,rfl⟩:=okWide_slice Tryz.underlying23 (hval 1 23 v1 rfl rfl)
  have k1:=h1
  have lt1:∀ x∈p1,x.block<W.heap.size:=by obtain⟨m,hm⟩:=k1;exact DataW.trod_lt m _ _ _ hm
  obtain⟨ls1,w1⟩:∃ ls1:List (List Int),K.Rd (fun _=>True) W (.slice a1 ls1.length cap1) (.l 1 (ls1.map K.bD))∧ls1.length=len1∧∀ l∈ls1,K.BytesL l:=by
    obtain⟨fuel,hf⟩:=h1
    exact K.lists_openB hf (by kernel_rfl) (by kernel_rfl)
  obtain⟨a2,len2,cap2,rfl⟩:=okWide_slice Tryz.underlying24 (hval 2 24 v2 rfl rfl)
  have k2:=h2
  have lt2:∀ x∈p2,x.block<W.heap.size:=by obtain⟨m,hm⟩:=k2;exact DataW.trod_lt m _ _ _ hm
  have wt2:∀ n∈d2.weights Tryz.prog 24,n≤reachBytes:=fun n hn=>by simpa using List.all_eq_true.1 hsz n (DataW.weights_mem_each (j:=2) (t:=24) (d:=d2) rfl rfl n hn)
  obtain⟨rs2,w2⟩:∃ rs2:List (List K.D),K.Rd (fun _=>True) W (.slice a2 rs2.length cap2) (.l (K.cmdS).length rs2)∧rs2.length=len2∧rs2.length≤reachBytes∧∀ r∈rs2,K.DOkL K.cmdS r:=by
    obtain⟨fuel,hf⟩:=h2
    exact K.open_rows K.fitsCmds hf wt2
  obtain⟨a3,rfl,rfl,rfl,w3⟩:=open_int Tryz.underlying25 (hval 3 25 v3 rfl rfl) h3
  obtain⟨a4,rfl,rfl,rfl,w4⟩:=open_int Tryz.underlying5 (hval 4 5 v4 rfl rfl) h4
  clear hA0 hval0
  refine(pO a0 len0 cap0 z0 a1 len1 cap1 ls1 a2 len2 cap2 rs2 a3 a4 W w0 w1 w2 w3 w4).mono fun e W' ⟨he,bel⟩ =>?_
  subst he
  exact⟨_,rfl,_,_,_,[],_,[],hW',trodAll_mk1 (shut_bool Tryz.underlying4 _),(trodAll_cons_mk (Below.trod oD (by kernel_rfl) (of_decide_eq_true (by kernel_rfl)) k0 bel lt0) (trodAll_cons_mk (Below.trod oD (by kernel_rfl) (of_decide_eq_true (by kernel_rfl)) k1 bel lt1) (trodAll_cons_mk (Below.trod oD (by kernel_rfl) (of_decide_eq_true (by kernel_rfl)) k2 bel lt2) (trodAll_cons_mk (shut_int Tryz.underlying25 w3) (trodAll_cons_mk (shut_int Tryz.underlying5 w4) trodAll_mk0))))),rfl,bel.frame _,fun h=>by cases h⟩
theorem vc:Rows.msmPlaysRow.holds Tryz.pinned (OpenSpec.ofChange Rows.msmPlaysSpec):=
  OpenClaim.holds_of_wide 3 Tryz.f3 rfl rfl rfl rfl rfl rfl rfl ⟨rfl,rfl,rfl,rfl,rfl⟩ rfl rfl rfl rfl rfl (by kernel_rfl) Tryz.func3 (by kernel_rfl)
    (of_decide_eq_true (by kernel_rfl)) (by unfold Func.isWrapper;first|(rw[if_pos (by decide +kernel)];kernel_rfl)|(rw[if_neg (by decide +kernel)];exact⟨rfl,rfl⟩))
    (fun os started H enc _=>xZ os started H enc)
/-- ████ THE STATEMENT ████ -/
theorem proved:Rows.MsmPlaysSaid:=vc
#print axioms proved
end Go.Proofs.YtkehgingagggaaaGreat.msmPlays
