/- The Go function mementolaw14.ChunkPushes returns true for every input and leaves its arguments as they were; no conditions. (The frame of this text is the guide's skeleton; the walk is ours.) -/
import Derived.Test.YteglmahnkfgelaaGreatRows
import Derived.WalkKit
import Derived.ProofKit
import Derived.OpenShut
import Derived.ShutString
import Derived.ChangeOld
import Derived.Below
import Derived.Test.YteglmahnkfgelaaGreatG27
namespace Go.Proofs.YteglmahnkfgelaaGreat.chunkPushes
open Go.ChangeShapes Go.WideShapes Go.ChangeAt Go.RowKit
open Go.ChangeMaps (open_string shut_string)
set_option linter.unusedVariables false
theorem own:ownKnob Tryz.prog.godebug=none:=by kernel_rfl
theorem uV:laidOutB Tryz.prog=true:=by kernel_rfl
/-- A slice of integers that came in. -/
def zF(k:IntKind)(w:World)(a:Option Addr)(len cap:Nat)(zs:List Int):Prop:=
  (a=none∧len=0∧cap=0∧zs=[])∨
  ∃ x,a=some x∧len≤cap∧cap≤maxLen∧zs.length=cap∧(∀ i,i<zs.length→w.cell? (x.add i)=some (.int k (zs.getD i 0)))∧∀ n∈zs,(Lit.int k n).wf=true
set_option maxRecDepth 100000 in
theorem vp(a0:Option Addr)(len0 cap0:Nat)(z0:List Int)(a1:Int)(a2:Int)(a3:Int)(cs4:Array Value)(ds4:List K.D)(a5:Int)(a6:Int)(w:World)(w0:zF .u8 w a0 len0 cap0 z0)(w1:(Lit.int .u8 a1).wf=true)(w2:(Lit.int .u8 a2).wf=true)(w3:(Lit.int .u8 a3).wf=true)(w4:K.RdL (fun _=>True) w cs4.toList ds4∧K.DOkL K.pushS ds4)(w5:(Lit.int .u8 a5).wf=true)(w6:(Lit.int .i64 a6).wf=true) :
    Calls Tryz.prog 3 #[.slice a0 len0 cap0,.int .u8 a1,.int .u8 a2,.int .u8 a3,.agg cs4,.int .u8 a5,.int .i64 a6] w fun e w'=>e=.returned (.bool true)∧Below w.heap.size w w':=by
  obtain⟨y0,g0,e0,f0⟩:=K.NumsS.ofRow w0
  subst e0
  have b1:=bounds_u8 w1
  obtain⟨n1,rfl⟩:∃ n:Nat,a1=(n:Int):=⟨a1.toNat,by omega⟩
  have b2:=bounds_u8 w2
  obtain⟨n2,rfl⟩:∃ n:Nat,a2=(n:Int):=⟨a2.toNat,by omega⟩
  have b3:=bounds_u8 w3
  obtain⟨n3,rfl⟩:∃ n:Nat,a3=(n:Int):=⟨a3.toNat,by omega⟩
  obtain⟨x0,x1,x2,x3,x4,x5,x6,x7,p7,c7,ev,-,-,-,-,-,-,-,k7,l7,j7⟩:=K.openPu w4.1 w4.2
  obtain⟨l4⟩:=cs4
  obtain rfl:l4=_:=ev
  obtain⟨ws,rfl,hws⟩:=K.rows_map (fun r hr=>K.wr_formB (j7 r hr))
  have b5:=bounds_u8 w5
  have b6:=bounds_i64 w6
  exact K.pushes_walk y0 ⟨x0,x1,x2,x3,x4,x5,x6,ws⟩ _ p7 _ c7 n1 n2 n3 a5 a6 w (by omega) (by omega) (by omega) (by omega) (by omega) g0 (fun j hj=>by
    have:=bounds_u8 (f0 _ (List.getElem_mem hj))
    rwa [List.getD,List.getElem?_eq_getElem hj]) k7 (fun e he=>(hws e he).1) (fun e he=>(hws e he).2)
set_option maxRecDepth 100000 in
theorem zG(os:Os)(started:os.Started)(H:Type)(enc:TypeId×Value→H) :
    ReturnsInHanded {} Tryz.checked os 3 .any (Rows.chunkPushesSpec.pre6 enc Tryz.prog Tryz.f3 Rows.chunkPushesRow.domain false) (Rows.chunkPushesSpec.post enc Tryz.prog Tryz.f3 false true false false):=by
  refine returnsInHanded_of_change_sized (C:=Tryz.checked) own started (by kernel_rfl) Tryz.func3
    (ChangeSpec.witness6 (enc:=enc) (C:=Tryz.checked) false ⟨#[],#[.slice none 0 0,.int .u8 0,.int .u8 0,.int .u8 0,.agg #[.int .i64 0,.int .i64 0,.int .i64 0,.int .i64 0,.int .i64 0,.int .i64 0,.int .i64 0,.slice none 0 0],.int .u8 0,.int .i64 0],[]⟩ 8 (by kernel_rfl) (by kernel_rfl) (by kernel_rfl) (by kernel_rfl)) ?_
  intro W base args ds gs before hval0 hW hcnd hsz _
  have hval:∀ (j:Nat) t v,Tryz.f3.params[j]? = some t→args[j]? = some v→Value.okWide Tryz.prog W .any base t v:=hval0
  have hW':=hW
  obtain⟨p,q,hA0,hV,rfl,hfz,hnd⟩:=hW
  have hA:DataW.TrodAll enc Tryz.prog W 0 (fun _=>true) true Tryz.f3.params.toList args.toList ds p:=hA0
  rw[Tryz.params3] at hA hval hsz
  obtain⟨v0,vs0,d0,ds0,p0,q0,hargs,rfl,rfl,h0,r0⟩:=trodAll_cons hA
  obtain⟨v1,vs1,d1,ds1,p1,q1,rfl,rfl,rfl,h1,r1⟩:=trodAll_cons r0
  obtain⟨v2,vs2,d2,ds2,p2,q2,rfl,rfl,rfl,h2,r2⟩:=trodAll_cons r1
  obtain⟨v3,vs3,d3,ds3,p3,q3,rfl,rfl,rfl,h3,r3⟩:=trodAll_cons r2
  obtain⟨v4,vs4,d4,ds4,p4,q4,rfl,rfl,rfl,h4,r4⟩:=trodAll_cons r3
  obtain⟨v5,vs5,d5,ds5,p5,q5,rfl,rfl,rfl,h5,r5⟩:=trodAll_cons r4
  obtain⟨v6,vs6,d6,ds6,p6,q6,rfl,rfl,rfl,h6,r6⟩:=trodAll_cons r5
  obtain⟨rfl,rfl,rfl⟩:=trodAll_nil r6
  obtain rfl:args=#[v0,v1,v2,v3,v4,v5,v6]:=by cases args;simp_all
  obtain⟨rfl,rfl⟩:=trodVars_none hV
  obtain⟨a0,len0,cap0,rfl⟩:=okWide_slice Tryz.underlying22 (hval 0 22 v0 rfl rfl)
  have k0:=h0
  have lt0:∀ x∈p0,x.block<W.heap.size:=by obtain⟨m,hm⟩:=k0;exact DataW.trod_lt m _ _ _ hm
  obtain⟨z0,w0⟩:∃ zs,zF .u8 W a0 len0 cap0 zs:=by
    obtain⟨fuel,hf⟩:=h0
    rcases open_ints Tryz.underlying22 Tryz.underlying5 (by kernel_rfl) hf with ⟨hcs,_⟩|⟨x,l,c,zs,hcs,_,hl,hm,hz,_,hcell,hwz⟩
    · simp [Value.cells] at hcs
      obtain⟨rfl,rfl,rfl⟩:=hcs
      exact⟨[],.inl ⟨rfl,rfl,rfl,rfl⟩⟩
    · simp [Value.cells] at hcs
      obtain⟨rfl,rfl,rfl⟩:=hcs
      exact⟨zs,.inr ⟨_,rfl,hl,hm,by simpa using hz,hcell,hwz⟩⟩
  obtain⟨a1,rfl,rfl,rfl,w1⟩:=open_int Tryz.underlying5 (hval 1 5 v1 rfl rfl) h1
  obtain⟨a2,rfl,rfl,rfl,w2⟩:=open_int Tryz.underlying5 (hval 2 5 v2 rfl rfl) h2
  obtain⟨a3,rfl,rfl,rfl,w3⟩:=open_int Tryz.underlying5 (hval 3 5 v3 rfl rfl) h3
  obtain⟨cs4,rfl,hcz4⟩:=okWide_struct Tryz.underlying25 (hval 4 25 v4 rfl rfl)
  have k4:=h4
  have lt4:∀ x∈p4,x.block<W.heap.size:=by obtain⟨m,hm⟩:=k4;exact DataW.trod_lt m _ _ _ hm
  have wt4:∀ n∈d4.weights Tryz.prog 25,n≤reachBytes:=fun n hn=>by simpa using List.all_eq_true.1 hsz n (DataW.weights_mem_each (j:=4) (t:=25) (d:=d4) rfl rfl n hn)
  obtain⟨ds4,w4⟩:∃ ds4:List K.D,K.RdL (fun _=>True) W cs4.toList ds4∧K.DOkL K.pushS ds4:=K.open_val K.fitsPush h4 wt4
  obtain⟨a5,rfl,rfl,rfl,w5⟩:=open_int Tryz.underlying5 (hval 5 5 v5 rfl rfl) h5
  obtain⟨a6,rfl,rfl,rfl,w6⟩:=open_int Tryz.underlying2 (hval 6 2 v6 rfl rfl) h6
  clear hA0 hval0
  refine(vp a0 len0 cap0 z0 a1 a2 a3 cs4 ds4 a5 a6 W w0 w1 w2 w3 w4 w5 w6).mono fun e W' ⟨he,bel⟩ =>?_
  subst he
  exact⟨_,rfl,_,_,_,[],_,[],hW',trodAll_mk1 (shut_bool Tryz.underlying4 _),(trodAll_cons_mk (Below.trod uV (by kernel_rfl) (of_decide_eq_true (by kernel_rfl)) k0 bel lt0) (trodAll_cons_mk (shut_int Tryz.underlying5 w1) (trodAll_cons_mk (shut_int Tryz.underlying5 w2) (trodAll_cons_mk (shut_int Tryz.underlying5 w3) (trodAll_cons_mk (Below.trod uV (by kernel_rfl) (of_decide_eq_true (by kernel_rfl)) k4 bel lt4) (trodAll_cons_mk (shut_int Tryz.underlying5 w5) (trodAll_cons_mk (shut_int Tryz.underlying2 w6) trodAll_mk0))))))),rfl,bel.frame _,fun h=>by cases h⟩
theorem AN:Rows.chunkPushesRow.holds Tryz.pinned (OpenSpec.ofChange Rows.chunkPushesSpec):=
  OpenClaim.holds_of_wide 3 Tryz.f3 rfl rfl rfl rfl rfl rfl rfl ⟨rfl,rfl,rfl,rfl,rfl⟩ rfl rfl rfl rfl rfl (by kernel_rfl) Tryz.func3 (by kernel_rfl)
    (of_decide_eq_true (by kernel_rfl)) (by unfold Func.isWrapper;first|(rw[if_pos (by decide +kernel)];kernel_rfl)|(rw[if_neg (by decide +kernel)];exact⟨rfl,rfl⟩))
    (fun os started H enc _=>zG os started H enc)
/-- ████ THE STATEMENT ████ -/
theorem proved:Rows.ChunkPushesSaid:=AN
#print axioms proved
end Go.Proofs.YteglmahnkfgelaaGreat.chunkPushes
