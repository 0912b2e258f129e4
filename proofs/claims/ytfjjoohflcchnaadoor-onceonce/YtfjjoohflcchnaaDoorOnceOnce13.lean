/- OnceOnce, part 13 of 26: Lift30, GLone, GNew, GPlay, GLit, Cas, KpB, OnG, Lift31. -/
import Derived.Test.YtfjjoohflcchnaaDoorOnceOnce01
import Derived.Test.YtfjjoohflcchnaaDoorOnceOnce04
import Derived.Test.YtfjjoohflcchnaaDoorOnceOnce05
import Derived.Test.YtfjjoohflcchnaaDoorOnceOnce09
import Derived.Test.YtfjjoohflcchnaaDoorOnceOnce11
import Derived.Test.YtfjjoohflcchnaaDoorOnceOnce12
import Derived.Deep.RegionLaw
import Derived.BigQuiet
set_option linter.unusedSimpArgs false
set_option linter.unusedVariables false
set_option maxHeartbeats 4000000
set_option maxRecDepth 100000
noncomputable section
namespace Go.Lift
open Go.Conc
variable {o:Oper}
section
variable {P:Program}{wr:Bool}{L:FuncId->Prop}
def flatS (P:Program) (t:TypeId):Bool:=match P.underlying t with
 |some (.struct fs)=>fs.all (λf=>flatT P f.type)
 |_=>false
def askEq (P:Program):Op->Bool
 |.binOp .eql t _ _ _=>flatS P t
 |.binOp .neq t _ _ _=>flatS P t
 |_=>false
theorem calm_flatS {t:TypeId}(h:flatS P t=true) (x y:Value):calm P wr (Op.equal t x y):=by
 unfold flatS at h;split at h
 .rename_i fs e
  exact calm_equal_struct e (λf hf=>(Array.all_eq_true_iff_forall_mem.1 h) f hf) x y
 cases h
theorem fineOp_eq (h:askEq P o.op=true):fineOp P wr L o:=by
 obtain ⟨dst,op,type,pos,after,guard⟩:=o;unfold askEq at h;simp only at h;split at h
 .rename_i t x y t'
  refine λa=>?_;have he:execOp a.eval { dst:=dst,op:=.binOp .eql t x y t',type:=type,pos:=pos,after:=after,guard:=guard }=(do eqGuard .eql t x y (a.eval x) (a.eval y);binOp .eql t (a.eval x) (a.eval y):Sem Value).bind λv=>Sem.pure (Next.value v):=rfl;rw[he];exact ⟨calm_sbind (calm_bind (calm_eqGuard _ _ _ _ _ _) λ_=>calm_binOp _ _ _ _ (λ_=>calm_flatS h _ _)) λ_=>trivial,λw x w' h=>.inl (val_out h)⟩
 .rename_i t x y t'
  refine λa=>?_;have he:execOp a.eval { dst:=dst,op:=.binOp .neq t x y t',type:=type,pos:=pos,after:=after,guard:=guard }=(do eqGuard .neq t x y (a.eval x) (a.eval y);binOp .neq t (a.eval x) (a.eval y):Sem Value).bind λv=>Sem.pure (Next.value v):=rfl;rw[he];exact ⟨calm_sbind (calm_bind (calm_eqGuard _ _ _ _ _ _) λ_=>calm_binOp _ _ _ _ (λ_=>calm_flatS h _ _)) λ_=>trivial,λw x w' h=>.inl (val_out h)⟩
 cases h
def askMax:Op->Bool
 |.call { callee:=.builtin .max,args:=ar,.. }=>match ar.toList with
  | [_,.const (.int _ _)]=>true
  |_=>false
 |_=>false
theorem calm_max2 (x:Value) (k:IntKind) (y:Int):calm P wr (Builtin.max2 x (.int k y)):=by
 cases x<;>first|exact calm_pure _|exact calm_stuck _|(rename_i p;cases p<;>first|exact calm_stuck _|exact calm_unsupported _)
theorem fineOp_max (h:askMax o.op=true):fineOp P wr L o:=by
 obtain ⟨dst,op,type,pos,after,guard⟩:=o;unfold askMax at h;simp only at h;split at h
 .rename_i ar ats
  split at h
  .rename_i x k y e
   refine λa=>?_;have he:execOp a.eval { dst:=dst,op:=.call { callee:=.builtin .max,args:=ar,argTypes:=ats },type:=type,pos:=pos,after:=after,guard:=guard }=(Builtin.max_ ats type (ar.map a.eval)).bind λv=>Sem.pure (Next.value v):=rfl;rw[he];refine ⟨calm_sbind ?_ λ_=>trivial,λw x w' h=>.inl (val_out h)⟩;unfold Builtin.max_;have e2:(ar.map a.eval).toList=[a.eval x,.int k y]:=by rw[Array.toList_map,e];rfl
   rw[e2];show calm P wr ([Value.int k y].foldlM Builtin.max2 (a.eval x));rw[List.foldlM_cons];exact calm_bind (calm_max2 _ _ _) λ_=>calm_pure _
  cases h
 cases h
def askMin:Op->Bool
 |.call { callee:=.builtin .min,args:=ar,.. }=>match ar.toList with
  | [_,.const (.int _ _)]=>true
  |_=>false
 |_=>false
theorem calm_min2 (x:Value) (k:IntKind) (y:Int):calm P wr (Builtin.min2 x (.int k y)):=by
 cases x<;>first|exact calm_pure _|exact calm_stuck _|(rename_i p;cases p<;>first|exact calm_stuck _|exact calm_unsupported _)
theorem fineOp_min (h:askMin o.op=true):fineOp P wr L o:=by
 obtain ⟨dst,op,type,pos,after,guard⟩:=o;unfold askMin at h;simp only at h;split at h
 .rename_i ar ats
  split at h
  .rename_i x k y e
   refine λa=>?_;have he:execOp a.eval { dst:=dst,op:=.call { callee:=.builtin .min,args:=ar,argTypes:=ats },type:=type,pos:=pos,after:=after,guard:=guard }=(Builtin.min_ ats type (ar.map a.eval)).bind λv=>Sem.pure (Next.value v):=rfl;rw[he];refine ⟨calm_sbind ?_ λ_=>trivial,λw x w' h=>.inl (val_out h)⟩;unfold Builtin.min_;have e2:(ar.map a.eval).toList=[a.eval x,.int k y]:=by rw[Array.toList_map,e];rfl
   rw[e2];show calm P wr ([Value.int k y].foldlM Builtin.min2 (a.eval x));rw[List.foldlM_cons];exact calm_bind (calm_min2 _ _ _) λ_=>calm_pure _
  cases h
 cases h
def askCodeS (P:Program) (wr:Bool) (fs:List FuncId) (xs:List (FuncId×Nat)):Code->Bool
 |.skip|.ret|.label _|.exit _=>true
 |.seq a b=>askCodeS P wr fs xs a&&askCodeS P wr fs xs b
 |.cond _ a b=>askCodeS P wr fs xs a&&askCodeS P wr fs xs b
 |.block _ c=>askCodeS P wr fs xs c
 |.loop c=>askCodeS P wr fs xs c
 |.region _ ops _=>ops.all λo=>(plainOp P wr o.op||askCall fs xs o.op)||(askEq P o.op||(askMax o.op||askMin o.op))
 |_=>false
theorem fineCode_askS {fs:List FuncId}{xs:List (FuncId×Nat)}(hfs:∀ f∈fs,Callable P L f) (hxs:∀ x∈xs,ExtOk P wr x.1 x.2):∀ {c:Code},askCodeS P wr fs xs c=true->fineCode P wr L c:=by
 intro c;induction c with
 |seq a b iha ihb=>intro h;simp only[askCodeS,Bool.and_eq_true] at h;exact ⟨iha h.1,ihb h.2⟩
 |cond o a b iha ihb=>intro h;simp only[askCodeS,Bool.and_eq_true] at h;exact ⟨iha h.1,ihb h.2⟩
 |block id c ih=>intro h;exact ih h
 |loop c ih=>intro h;exact ih h
 |region id ops d =>
  intro h;simp only[askCodeS,Array.all_eq_true_iff_forall_mem] at h;intro o ho;rcases Bool.or_eq_true_iff.1 (h o ho) with h|h;exact fineOp_ask hfs hxs h
  .rcases Bool.or_eq_true_iff.1 h with h|h
   exact fineOp_eq h
   .rcases Bool.or_eq_true_iff.1 h with h|h
    exact fineOp_max h;exact fineOp_min h
 |skip=>intro _;trivial
 |ret=>intro _;trivial
 |label l=>intro _;trivial
 |exit id=>intro _;trivial
 |_=>intro h;simp[askCodeS] at h
theorem fineFn_askS {fs:List FuncId}{xs:List (FuncId×Nat)}(hfs:∀ f∈fs,Callable P L f) (hxs:∀ x∈xs,ExtOk P wr x.1 x.2) {f:FuncId}{fn:Func}{c:Code}(hf:P.funcs[f]? = some fn) (hb:fn.body=some c) (h:askCodeS P wr fs xs c=true):fineFn P wr L f :=
 ⟨fn,c,hf,hb,fineCode_askS hfs hxs h,calm_results fn⟩
end
end Go.Lift
namespace Go.Proofs.YtfjjoohflcchnaaDoor
open Go Go.Lift Go.Conc Go.RowKit
def plainV:List FuncId:=[62,104,108,111,107,128,118,157,74,109,110,105,96,68,99,17,23,70,26,59,103,92,19,25,63,58,20,21,27,22,91]
def LV (f:FuncId):Prop:=f∈plainV
theorem callV:∀ f∈plainV,Callable Tryd.prog LV f:=by
 intro f hf;have hf':=hf;simp only[plainV,List.mem_cons,List.not_mem_nil,or_false] at hf;rcases hf with rfl|rfl|rfl|rfl|rfl|rfl|rfl|rfl|rfl|rfl|rfl|rfl|rfl|rfl|rfl|rfl|rfl|rfl|rfl|rfl|rfl|rfl|rfl|rfl|rfl|rfl|rfl|rfl|rfl|rfl|rfl;exact ⟨hf',Tryd.f62,Tryd.func62,by kernel_rfl,by kernel_rfl⟩;exact ⟨hf',Tryd.f104,Tryd.func104,by kernel_rfl,by kernel_rfl⟩;exact ⟨hf',Tryd.f108,Tryd.func108,by kernel_rfl,by kernel_rfl⟩;exact ⟨hf',Tryd.f111,Tryd.func111,by kernel_rfl,by kernel_rfl⟩;exact ⟨hf',Tryd.f107,Tryd.func107,by kernel_rfl,by kernel_rfl⟩;exact ⟨hf',Tryd.f128,Tryd.func128,by kernel_rfl,by kernel_rfl⟩;exact ⟨hf',Tryd.f118,Tryd.func118,by kernel_rfl,by kernel_rfl⟩;exact ⟨hf',Tryd.f157,Tryd.func157,by kernel_rfl,by kernel_rfl⟩;exact ⟨hf',Tryd.f74,Tryd.func74,by kernel_rfl,by kernel_rfl⟩;exact ⟨hf',Tryd.f109,Tryd.func109,by kernel_rfl,by kernel_rfl⟩;exact ⟨hf',Tryd.f110,Tryd.func110,by kernel_rfl,by kernel_rfl⟩;exact ⟨hf',Tryd.f105,Tryd.func105,by kernel_rfl,by kernel_rfl⟩;exact ⟨hf',Tryd.f96,Tryd.func96,by kernel_rfl,by kernel_rfl⟩;exact ⟨hf',Tryd.f68,Tryd.func68,by kernel_rfl,by kernel_rfl⟩;exact ⟨hf',Tryd.f99,Tryd.func99,by kernel_rfl,by kernel_rfl⟩;exact ⟨hf',Tryd.f17,Tryd.func17,by kernel_rfl,by kernel_rfl⟩;exact ⟨hf',Tryd.f23,Tryd.func23,by kernel_rfl,by kernel_rfl⟩;exact ⟨hf',Tryd.f70,Tryd.func70,by kernel_rfl,by kernel_rfl⟩;exact ⟨hf',Tryd.f26,Tryd.func26,by kernel_rfl,by kernel_rfl⟩;exact ⟨hf',Tryd.f59,Tryd.func59,by kernel_rfl,by kernel_rfl⟩
 exact ⟨hf',Tryd.f103,Tryd.func103,by kernel_rfl,by kernel_rfl⟩;exact ⟨hf',Tryd.f92,Tryd.func92,by kernel_rfl,by kernel_rfl⟩;exact ⟨hf',Tryd.f19,Tryd.func19,by kernel_rfl,by kernel_rfl⟩;exact ⟨hf',Tryd.f25,Tryd.func25,by kernel_rfl,by kernel_rfl⟩;exact ⟨hf',Tryd.f63,Tryd.func63,by kernel_rfl,by kernel_rfl⟩;exact ⟨hf',Tryd.f58,Tryd.func58,by kernel_rfl,by kernel_rfl⟩;exact ⟨hf',Tryd.f20,Tryd.func20,by kernel_rfl,by kernel_rfl⟩;exact ⟨hf',Tryd.f21,Tryd.func21,by kernel_rfl,by kernel_rfl⟩;exact ⟨hf',Tryd.f27,Tryd.func27,by kernel_rfl,by kernel_rfl⟩;exact ⟨hf',Tryd.f22,Tryd.func22,by kernel_rfl,by kernel_rfl⟩;exact ⟨hf',Tryd.f91,Tryd.func91,by kernel_rfl,by kernel_rfl⟩
theorem fineV:∀ f,LV f->fineFn Tryd.prog true LV f:=by
 intro f hf;simp only[LV,plainV,List.mem_cons,List.not_mem_nil,or_false] at hf;rcases hf with rfl|rfl|rfl|rfl|rfl|rfl|rfl|rfl|rfl|rfl|rfl|rfl|rfl|rfl|rfl|rfl|rfl|rfl|rfl|rfl|rfl|rfl|rfl|rfl|rfl|rfl|rfl|rfl|rfl|rfl|rfl;exact fineFn_askS callV extT Tryd.func62 (c:=Tryd.f62.body.getD .skip) (by rfl) (by kernel_rfl);exact fineFn_askS callV extT Tryd.func104 (c:=Tryd.f104.body.getD .skip) (by rfl) (by kernel_rfl);exact fineFn_askS callV extT Tryd.func108 (c:=Tryd.f108.body.getD .skip) (by rfl) (by kernel_rfl);exact fineFn_askS callV extT Tryd.func111 (c:=Tryd.f111.body.getD .skip) (by rfl) (by kernel_rfl);exact fineFn_askS callV extT Tryd.func107 (c:=Tryd.f107.body.getD .skip) (by rfl) (by kernel_rfl);exact fineFn_askS callV extT Tryd.func128 (c:=Tryd.f128.body.getD .skip) (by rfl) (by kernel_rfl);exact fineFn_askS callV extT Tryd.func118 (c:=Tryd.f118.body.getD .skip) (by rfl) (by kernel_rfl);exact fineFn_askS callV extT Tryd.func157 (c:=Tryd.f157.body.getD .skip) (by rfl) (by kernel_rfl);exact fineFn_askS callV extT Tryd.func74 (c:=Tryd.f74.body.getD .skip) (by rfl) (by kernel_rfl);exact fineFn_askS callV extT Tryd.func109 (c:=Tryd.f109.body.getD .skip) (by rfl) (by kernel_rfl);exact fineFn_askS callV extT Tryd.func110 (c:=Tryd.f110.body.getD .skip) (by rfl) (by kernel_rfl);exact fineFn_askS callV extT Tryd.func105 (c:=Tryd.f105.body.getD .skip) (by rfl) (by kernel_rfl);exact fineFn_askS callV extT Tryd.func96 (c:=Tryd.f96.body.getD .skip) (by rfl) (by kernel_rfl)
 exact fineFn_askS callV extT Tryd.func68 (c:=Tryd.f68.body.getD .skip) (by rfl) (by kernel_rfl);exact fineFn_askS callV extT Tryd.func99 (c:=Tryd.f99.body.getD .skip) (by rfl) (by kernel_rfl);exact fineFn_askS callV extT Tryd.func17 (c:=Tryd.f17.body.getD .skip) (by rfl) (by kernel_rfl);exact fineFn_askS callV extT Tryd.func23 (c:=Tryd.f23.body.getD .skip) (by rfl) (by kernel_rfl);exact fineFn_askS callV extT Tryd.func70 (c:=Tryd.f70.body.getD .skip) (by rfl) (by kernel_rfl);exact fineFn_askS callV extT Tryd.func26 (c:=Tryd.f26.body.getD .skip) (by rfl) (by kernel_rfl);exact fineFn_askS callV extT Tryd.func59 (c:=Tryd.f59.body.getD .skip) (by rfl) (by kernel_rfl);exact fineFn_askS callV extT Tryd.func103 (c:=Tryd.f103.body.getD .skip) (by rfl) (by kernel_rfl);exact fineFn_askS callV extT Tryd.func92 (c:=Tryd.f92.body.getD .skip) (by rfl) (by kernel_rfl);exact fineFn_askS callV extT Tryd.func19 (c:=Tryd.f19.body.getD .skip) (by rfl) (by kernel_rfl);exact fineFn_askS callV extT Tryd.func25 (c:=Tryd.f25.body.getD .skip) (by rfl) (by kernel_rfl);exact fineFn_askS callV extT Tryd.func63 (c:=Tryd.f63.body.getD .skip) (by rfl) (by kernel_rfl);exact fineFn_askS callV extT Tryd.func58 (c:=Tryd.f58.body.getD .skip) (by rfl) (by kernel_rfl);exact fineFn_askS callV extT Tryd.func20 (c:=Tryd.f20.body.getD .skip) (by rfl) (by kernel_rfl);exact fineFn_askS callV extT Tryd.func21 (c:=Tryd.f21.body.getD .skip) (by rfl) (by kernel_rfl)
 exact fineFn_askS callV extT Tryd.func27 (c:=Tryd.f27.body.getD .skip) (by rfl) (by kernel_rfl);exact fineFn_askS callV extT Tryd.func22 (c:=Tryd.f22.body.getD .skip) (by rfl) (by kernel_rfl);exact fineFn_askS callV extT Tryd.func91 (c:=Tryd.f91.body.getD .skip) (by rfl) (by kernel_rfl)
end Go.Proofs.YtfjjoohflcchnaaDoor
namespace Go.Proofs.YtfjjoohflcchnaaDoor.Gen
open Go Go.Lift Go.Conc Go.RowKit
variable {u v:World} {z:Nat->Option Nat} {S:TS} {n:Nat} {a:Act} {l:List (Nat×Value)}
def newS (wb bk base:Nat) (sc:Value) (xs:List Int):TS :=
 { wb:=wb,bk:=bk,base:=base,us:=0,n:=0,la:=-1,sc:=sc,cv:=.slice none 0 0,ths:=.slice none 0 0,tv:=.slice none 0 0,sched:=xs,chg:=[],tr:=[],stk:=false,ran:=false,thr:=[] }
structure IsNew (v:World) (xs:List Int) (wb bk:Nat) (sc:Value) (v':World):Prop where
 mem:Mem zn (newS wb bk v.heap.size sc xs) [] v'
 opn:Open v' bk
 new:∀ b,Own (newS wb bk v.heap.size sc xs) [] b∨b=bk->v.heap.size<=b
 old:Grows v v'
abbrev rowNew (sc:Value) (bk:Nat):Array Value:=#[sc,I 0,I (-1),.slice none 0 0,.slice none 0 0,.slice none 0 0,.bool false,.bool false,.chan (some bk)]
theorem new_rep {v':World}{xs:List Int}{g cap bk m:Nat}(hg:Grows v u) (hown:u.ownsRow v.heap.size 3 1 (.slice (some ⟨g,0,none⟩) m cap) m (xs.map I)) (hl:xs.length=m) (hbk:u.heap[bk]? = some (.chan 0 #[] false 0 0 false)) (hb:v.heap.size<=bk)
 (hh:v'.heap=u.heap.push (.cells (rowNew (.slice (some ⟨g,0,none⟩) m cap) bk) 97)) (ho:v'.os=u.os) (hu:v'.output=u.output):IsNew v xs u.heap.size bk (.slice (some ⟨g,0,none⟩) m cap) v':=by
 have hold:∀ b,b<u.heap.size->v'.heap[b]? = u.heap[b]?:=λb hb=>by rw[hh,Qg,if_neg (by omega)]
 have hs':v'.heap.size=u.heap.size+1:=by rw[hh];simp
 have hgl:=own_lt hown g rfl;have hsz:=hg.size;have hblk:∀ k b,blk (newS u.heap.size bk v.heap.size (.slice (some ⟨g,0,none⟩) m cap) xs) k=some b->(k=0∧b=u.heap.size)∨(k=4∧b=g):=λk b hk=>by
  match k,hk with
  |0,hk=>cases hk;exact .inl ⟨rfl,rfl⟩
  |1,hk=>cases hk
  |2,hk=>cases hk
  |3,hk=>cases hk
  |4,hk=>cases hk;exact .inr ⟨rfl,rfl⟩
  |k+5,hk=>simp[blk,newS] at hk
 have hnil:v'.ownsRow v.heap.size 3 1 (.slice none 0 0) 0 []:=World.ownsRow_nil _ _ _ _;refine ⟨⟨⟨?_,λi t ht=>by simp[newS] at ht,World.ownsRow_nil _ _ _ _,World.ownsRow_nil _ _ _ _,World.ownsRow_nil _ _ _ _,?_,by show v.heap.size<=_;omega,λj k b hj hk=>?_,λb n h=>by cases h⟩,λj c hc=>by simp at hc,λj c hc=>by simp at hc,λi j c d hc=>by simp at hc,rfl⟩,⟨0,0,?_⟩,λb hb'=>?_,⟨by omega,λb hb'=>by rw[hold b (by omega),hg.old b hb'],ho.trans hg.os,hu.trans hg.output⟩⟩
 .show v'.heap[u.heap.size]? = _
  rw[hh];exact Qo
 .show v'.ownsRow v.heap.size 3 1 _ xs.length (xs.map I)
  rw[hl];exact own_stay (λb hb=>hold b (own_lt hown b hb).2) hown
 .rcases hblk j b hj with ⟨rfl,e1⟩|⟨rfl,e1⟩<;>rcases hblk k b hk with ⟨rfl,e2⟩|⟨rfl,e2⟩<;>first|rfl|omega
 rw[hold bk (Qb hbk).1];exact hbk
 .rcases hb' with (⟨k,hk⟩|⟨j,c,hc,_⟩)|rfl
  .rcases hblk k b hk with ⟨_,rfl⟩|⟨_,rfl⟩
   exact hsz;exact hgl.1
  simp at hc;exact hb
theorem body7 (vb vo cap:Nat) (xs:List Int) (hx0:0<xs.length) (hx1:xs.length<=17592186043904) (hv:∀ k x,xs[k]? = some x->v.cell? ⟨vb,vo+k,none⟩=some (I x)):
 Body Tryd.f17 #[.slice (some ⟨vb,vo,none⟩) xs.length cap] v (λr v'=>∃ wb bk sc,r=Pt wb 0∧IsNew v xs wb bk sc v'):=by
 intro code hb;obtain rfl:=Qd hb;clear hb;obtain ⟨x0,hx00⟩:∃ x,xs[0]? = some x:=⟨_,Qf hx0⟩
 have hvl:vb<v.heap.size:=World.block_lt_of_cell? _ _ (hv 0 x0 hx00);have hnews:∀ u:World,u.heap[vb]? = v.heap[vb]?->∀ j y,(xs.map I)[j]? = some y->u.cell? ((⟨vb,vo,none⟩:Addr).add j)=some y:=λu hu j y hj=>by
  have hadd:(⟨vb,vo,none⟩:Addr).add j=⟨vb,vo+j,none⟩:=by unfold Addr.add;split<;>simp_all
  rw[hadd,World.cell?_of_block (w:=v) (w':=u) hu];rw[List.getElem?_map] at hj;cases hk:xs[j]? with
  |none=>rw[hk] at hj;cases hj
  |some x =>rw[hk] at hj;cases hj;exact hv j x hk
 have h1:∀ u∈xs.map I,u.oneCell'=true:=λu hu=>by simp only[List.mem_map] at hu;obtain ⟨x,_,rfl⟩:=hu;rfl
 have HW:Hid (∀ u:World,u.heap[vb]? = v.heap[vb]?->∀ j y,(xs.map I)[j]? = some y->u.cell? ((⟨vb,vo,none⟩:Addr).add j)=some y):=⟨hnews⟩
 have H1:Hid (∀ u∈xs.map I,u.oneCell'=true):=⟨h1⟩
 have HX:Hid (0<xs.length∧xs.length<=17592186043904∧vb<v.heap.size):=⟨⟨hx0,hx1,hvl⟩⟩
 clear hv hnews h1 hx00 hx0 hx1 hvl;have hmk:=run_mk;obtain ⟨j0,hj,hj0,hj1,hj2⟩:=info_parts info3;simp only[Tryd.ntmps17,Sz,Nat.reduceAdd,Nat.reduceSub,Sy];go_wp2_with fail
 go_region_law
  (refine step_append_lies _ rfl (.const (.slice none 0 0)) (.tmp 3) 22 rfl v.heap.size 3 j0 _ 1 8 Tryd.underlying22 hj hj0 hj1 hj2 rfl (by decide) (.slice none 0 0) 0 [] rfl (World.ownsRow_nil _ _ _ _) ⟨vb,vo,none⟩ xs.length cap (xs.map I) rfl (by simp) (HW.out _ (by first|rfl|(show (v.heap.push _)[vb]? = _;rw[Qg,if_neg (by have:=HX.out;omega)]))) H1.out HX.out.1 (by have:=HX.out;unfold maxLen;omega) (by have:=HX.out;omega) (by simp) _ rfl ?_
   intro g cpg w6 hown6 hgrow6 hat6 hlt6)
 .have g6:Grows v (w6.alloc (.chan 0 #[] false 0 0 false)):=by have hs:v.heap.size<=w6.heap.size:=hgrow6.size;refine ⟨by show _<=(w6.heap.push _).size;simp;omega,λb hb=>?_,hgrow6.os,hgrow6.output⟩;show (w6.heap.push _)[b]? = _;rw[Qg,if_neg (by omega)];exact hgrow6.block b hb (λe=>by cases e)
  have hN:IsNew v xs (w6.heap.size+1) w6.heap.size (.slice (some ⟨g,0,none⟩) xs.length cpg) ((w6.alloc (.chan 0 #[] false 0 0 false)).alloc (.cells (rowNew (.slice (some ⟨g,0,none⟩) xs.length cpg) w6.heap.size) 97)):=by
   have:=new_rep (v:=v) (u:=w6.alloc (.chan 0 #[] false 0 0 false)) (v':=(w6.alloc (.chan 0 #[] false 0 0 false)).alloc (.cells (rowNew (.slice (some ⟨g,0,none⟩) xs.length cpg) w6.heap.size) 97)) (xs:=xs) (g:=g) (cap:=cpg) (bk:=w6.heap.size) (m:=xs.length) g6 (own_stay (λb hb=>?_) (by rw[Nat.zero_add,List.nil_append] at hown6;exact hown6)) rfl Qo hgrow6.size rfl rfl rfl
   .rw[show (w6.alloc (.chan 0 #[] false 0 0 false)).heap.size=w6.heap.size+1 by show (w6.heap.push _).size=_;simp] at this
    exact this
   .cases hb
    show (w6.heap.push _)[g]? = _;rw[Qg,if_neg (by omega)]
  have HN:Hid _:=⟨hN⟩
  clear hN g6 hgrow6 hown6 hat6 hlt6
  go_wp2
  go_ret;exact ⟨_,rfl,w6.heap.size+1,w6.heap.size,_,rfl,HN.out⟩
 .have hb0:∀ b,b<v.heap.size+1->w6.heap[b]? = (v.alloc (.chan 0 #[] false 0 0 false)).heap[b]?:=λb hb=>hgrow6.block b (by show b<(v.heap.push _).size;simp;omega) (λe=>by cases e)
  have hs:v.heap.size+1<=w6.heap.size:=by
   have:=hgrow6.size;have e:(v.alloc (.chan 0 #[] false 0 0 false)).drew.heap.size=v.heap.size+1:=by show (v.heap.push _).size=_;simp
   omega
  have g6:Grows v w6:=by refine ⟨by omega,λb hb=>?_,hgrow6.os,hgrow6.output⟩;rw[hb0 b (by omega)];show (v.heap.push _)[b]? = _;rw[Qg,if_neg (by omega)]
  have hN:IsNew v xs w6.heap.size v.heap.size (.slice (some ⟨g,0,none⟩) xs.length cpg) (w6.alloc (.cells (rowNew (.slice (some ⟨g,0,none⟩) xs.length cpg) v.heap.size) 97)) :=
   new_rep (v:=v) (u:=w6) (xs:=xs) (g:=g) (cap:=cpg) (bk:=v.heap.size) (m:=xs.length) g6 (by rw[Nat.zero_add,List.nil_append] at hown6;exact hown6) rfl (by rw[hb0 _ (by omega)];exact Qo) (Qi _) rfl rfl rfl
  have HN:Hid _:=⟨hN⟩
  clear hN g6 hgrow6 hown6 hat6 hlt6 hb0 hs
  go_wp2
  go_ret;exact ⟨_,rfl,w6.heap.size,v.heap.size,_,rfl,HN.out⟩
theorem body9 (h:Rep z S v) (h0:0<S.n) (hn:S.n*40<=140737488355328) (h1:∀ u∈S.tr,u.oneCell'=true):
 Body Tryd.f23 #[Pt S.wb 0] v (λr v'=>∃ g cap,r=.slice (some ⟨g,0,none⟩) S.n cap∧v'.ownsRow v.heap.size 60 5 (.slice (some ⟨g,0,none⟩) S.n cap) S.n S.tr∧Grows v v'∧v.heap.size<=g):=by
 intro code hb;obtain rfl:=Qd hb;clear hb;have c5:=h.wcell.2.2.2.2.2.1;obtain ⟨g0,cap0,e0,_,hg0⟩:=h.own.form h0;rw[e0] at c5;have hcs:=h.own.cells (g:=g0) (by rw[e0];rfl);have hln:S.tr.length=S.n*5:=h.own.1;have HH:Hid ((∀ j u,S.tr[j]? = some u->v.cell? ((⟨g0,0,none⟩:Addr).add j)=some u)∧(∀ u∈S.tr,u.oneCell'=true)∧0<S.n∧S.n*40<=140737488355328∧S.tr.length=S.n*5):=⟨⟨hcs,h1,h0,hn,hln⟩⟩
 clear hcs h1 h0 hn hln h e0;obtain ⟨j0,hj,hj0,hj1,hj2⟩:=info_parts info34;simp only[Tryd.ntmps23,Sz,Nat.reduceAdd,Nat.reduceSub,Sy]
 go_wp2_with (first
  |(refine wpList_append_lies _ rfl (.const (.slice none 0 0)) (.tmp 8) 41 rfl v.heap.size 60 j0 _ 5 40 Tryd.underlying41 hj hj0 hj1 hj2 rfl (by decide) (.slice none 0 0) 0 [] rfl (World.ownsRow_nil _ _ _ _) ⟨g0,0,none⟩ S.n cap0 S.tr rfl HH.out.2.2.2.2 HH.out.1 HH.out.2.1 HH.out.2.2.1 (by have:=HH.out.2.2.2.1;unfold maxLen;omega) (by have:=HH.out.2.2.2.1;omega) (Qi _) _ rfl ?_
    intro g cpg w6 hown6 hgrow6 hat6 hlt6))
 go_ret;refine ⟨_,rfl,g,cpg,rfl,?_,⟨hgrow6.size,λb hb=>hgrow6.block b hb (λe=>by cases e),hgrow6.os,hgrow6.output⟩,?_⟩
 .rw[Nat.zero_add,List.nil_append] at hown6
  exact hown6
 .rcases hat6 with h|h
  cases h;omega
def Refused (n:Nat) (ln:Nat->Nat) (E:Int):Prop:=((∃ k,k<n∧64<ln k)∧E=2)∨((∀ k,k<n->ln k<=64)∧(n=0∨8<n)∧E=1)
theorem new_rep0 {v':World}{bk:Nat}(hg:Grows v u) (hbk:u.heap[bk]? = some (.chan 0 #[] false 0 0 false)) (hb:v.heap.size<=bk)
 (hh:v'.heap=u.heap.push (.cells (rowNew (.slice none 0 0) bk) 97)) (ho:v'.os=u.os) (hu:v'.output=u.output):IsNew v [] u.heap.size bk (.slice none 0 0) v':=by
 have hold:∀ b,b<u.heap.size->v'.heap[b]? = u.heap[b]?:=λb hb=>by rw[hh,Qg,if_neg (by omega)]
 have hs':v'.heap.size=u.heap.size+1:=by rw[hh];simp
 have hsz:=hg.size;have hblk:∀ k b,blk (newS u.heap.size bk v.heap.size (.slice none 0 0) []) k=some b->k=0∧b=u.heap.size:=λk b hk=>by
  match k,hk with
  |0,hk=>cases hk;exact ⟨rfl,rfl⟩
  |1,hk=>cases hk
  |2,hk=>cases hk
  |3,hk=>cases hk
  |4,hk=>cases hk
  |k+5,hk=>simp[blk,newS] at hk
 refine ⟨⟨⟨?_,λi t ht=>by simp[newS] at ht,World.ownsRow_nil _ _ _ _,World.ownsRow_nil _ _ _ _,World.ownsRow_nil _ _ _ _,World.ownsRow_nil _ _ _ _,by show v.heap.size<=_;omega,λj k b hj hk=>?_,λb n h=>by cases h⟩,λj c hc=>by simp at hc,λj c hc=>by simp at hc,λi j c d hc=>by simp at hc,rfl⟩,⟨0,0,?_⟩,λb hb'=>?_,⟨by omega,λb hb'=>by rw[hold b (by omega),hg.old b hb'],ho.trans hg.os,hu.trans hg.output⟩⟩
 .show v'.heap[u.heap.size]? = _
  rw[hh];exact Qo
 rw[(hblk j b hj).1,(hblk k b hk).1];rw[hold bk (Qb hbk).1];exact hbk
 .rcases hb' with (⟨k,hk⟩|⟨j,c,hc,_⟩)|rfl
  rw[(hblk k b hk).2];exact hsz;simp at hc;exact hb
theorem body70 (p:Option Addr) (cap:Nat):Body Tryd.f17 #[.slice p 0 cap] v (λr v'=>∃ wb bk sc,r=Pt wb 0∧IsNew v [] wb bk sc v'):=by
 intro code hb;obtain rfl:=Qd hb;clear hb;have hmk:=run_mk;obtain ⟨j0,hj,hj0,hj1,hj2⟩:=info_parts info3;have HN:∀ v':World,v'.heap=(v.heap.push (.chan 0 #[] false 0 0 false)).push (.cells (rowNew (.slice none 0 0) v.heap.size) 97)->v'.os=v.os->v'.output=v.output->IsNew v [] (v.heap.size+1) v.heap.size (.slice none 0 0) v':=λv' h4 h5 h6=>by have:=new_rep0 (v:=v) (u:=v.alloc (.chan 0 #[] false 0 0 false)) (v':=v') (bk:=v.heap.size) ⟨by show _<=(v.heap.push _).size;simp,λb hb=>by show (v.heap.push _)[b]? = _;rw[Qg,if_neg (by omega)],rfl,rfl⟩ Qo (Qi _) h4 h5 h6;rw[show (v.alloc (.chan 0 #[] false 0 0 false)).heap.size=v.heap.size+1 by show (v.heap.push _).size=_;simp] at this;exact this
 have HN:Hid _:=⟨HN⟩
 cases p;all_goals
  simp only[Tryd.ntmps17,Sz,Nat.reduceAdd,Nat.reduceSub,Sy];go_wp2_with fail
  go_region_law fail
  all_goals
   go_wp2
   go_ret;exact ⟨_,rfl,v.heap.size+1,v.heap.size,_,rfl,HN.out _ rfl rfl rfl⟩
theorem body7A (p:Option Addr) (vb vo cap:Nat) (xs:List Int) (hp:0<xs.length->p=some ⟨vb,vo,none⟩) (hx1:xs.length<=17592186043904) (hv:∀ k x,xs[k]? = some x->v.cell? ⟨vb,vo+k,none⟩=some (I x)):
 Body Tryd.f17 #[.slice p xs.length cap] v (λr v'=>∃ wb bk sc,r=Pt wb 0∧IsNew v xs wb bk sc v'):=by
 rcases Nat.eq_zero_or_pos xs.length with h0|h0
 .obtain rfl:=List.length_eq_zero_iff.1 h0
  exact body70 p cap
 .rw[hp h0]
  exact body7 vb vo cap xs h0 hx1 hv
theorem body90 (h:Rep z S v) (h0:S.n=0):Body Tryd.f23 #[Pt S.wb 0] v (λr v'=>r=.slice none 0 0∧v'=v):=by
 intro code hb;obtain rfl:=Qd hb;clear hb;have c5:=h.wcell.2.2.2.2.2.1;obtain ⟨p0,cap0,e0⟩:∃ p cap,S.tv=.slice p 0 cap:=by obtain ⟨p,cap,e⟩:=own_form h.own;rw[h0] at e;exact ⟨p,cap,e⟩
 rw[e0] at c5;clear h e0;obtain ⟨j0,hj,hj0,hj1,hj2⟩:=info_parts info34;cases p0;all_goals
  simp only[Tryd.ntmps23,Sz,Nat.reduceAdd,Nat.reduceSub,Sy]
  go_wp2
  go_ret;exact ⟨_,rfl,rfl,rfl⟩
theorem body9A (h:Rep z S v) (hn:S.n*40<=140737488355328) (h1:∀ u∈S.tr,u.oneCell'=true):
 Body Tryd.f23 #[Pt S.wb 0] v (λr v'=>∃ p g cap,r=.slice p S.n cap∧(0<S.n->p=some ⟨g,0,none⟩∧v.heap.size<=g)∧(∀ j u,S.tr[j]? = some u->v'.cell? ⟨g,j,none⟩=some u)∧Grows v v'):=by
 rcases Nat.eq_zero_or_pos S.n with h0|h0
 .intro code hb
  refine wp_mono (body90 h h0 code hb) (bp_mono λr u hq=>?_);obtain ⟨rfl,rfl⟩:=hq;have hl:S.tr=[]:=by have:=h.own.1;rw[h0] at this;exact List.length_eq_zero_iff.1 (by omega)
  refine ⟨none,0,0,by rw[h0],(λh=>by omega),(λj x hj=>?_),⟨Qi _,λ_ _=>rfl,rfl,rfl⟩⟩;rw[hl] at hj;simp at hj
 .intro code hb
  refine wp_mono (body9 h h0 hn h1 code hb) (bp_mono λr u hq=>?_);obtain ⟨g,cap,rfl,hown,hgr,hle⟩:=hq;refine ⟨_,g,cap,rfl,λ_=>⟨rfl,hle⟩,λj x hj=>?_,hgr⟩;have:=hown.cells (g:=g) rfl j x hj;rw[show (⟨g,0,none⟩:Addr).add j=⟨g,j,none⟩ by unfold Addr.add;split<;>simp_all] at this;exact this
def cellsS (S:TS) (cv:Value) (k:Nat):TS:={ S with cv:=cv,chg:=List.replicate k 0 }
structure Cel (z:Nat->Option Nat) (S:TS) (K:List (Nat×Int)) (v:World) (S':TS) (K':List (Nat×Int)) (v':World):Prop where
 mem:Mem z S' K' v'
 fr:Fr (Own S K) v v'
 own:∀ b,Own S' K' b->Own S K b∨v.heap.size<=b
section
variable {z:Nat->Option Nat}{S S1 S2:TS}{K K1 K2:List (Nat×Int)}{v v1 v2:World}
theorem Cel.refl (h:Mem z S K v):Cel z S K v S K v:=⟨h,Fr.refl _ _,λb h=>.inl h⟩
theorem Cel.trans (h:Cel z S K v S1 K1 v1) (k:Cel z S1 K1 v1 S2 K2 v2):Cel z S K v S2 K2 v2:=by
 refine ⟨k.mem,⟨k.fr.os.trans h.fr.os,k.fr.output.trans h.fr.output,Qk h.fr.size k.fr.size,λb hb hs=>?_⟩,λb hb=>?_⟩;rw[k.fr.block b (Qp hb h.fr.size) (λe=>(h.own b e).elim hs (λe=>by omega)),h.fr.block b hb hs]
 .rcases k.own b hb with e|e
  exact h.own b e;exact .inr (Qk h.fr.size e)
theorem Cel.push (h:Cel z S K v S1 K1 v1) {o:Obj}(e:v2.heap=v1.heap.push o) (e1:v2.os=v1.os) (e2:v2.output=v1.output):Cel z S K v S1 K1 v2:=by
 have g:Grows v1 v2:=⟨by rw[e];simp,λb hb=>by rw[e,Qg,if_neg (by omega)],e1,e2⟩
 exact h.trans ⟨(h.mem.grows g).mem,⟨e1,e2,g.size,λb hb _=>g.old b hb⟩,λb hb=>.inl hb⟩
theorem Cel.same (h:Cel z S K v S1 K1 v1) (e:v2.heap=v1.heap) (e1:v2.os=v1.os) (e2:v2.output=v1.output):Cel z S K v S1 K1 v2:=by
 have g:Grows v1 v2:=⟨by rw[e];exact Qi _,λb hb=>by rw[e],e1,e2⟩
 exact h.trans ⟨(h.mem.grows g).mem,⟨e1,e2,g.size,λb hb _=>g.old b hb⟩,λb hb=>.inl hb⟩
theorem Cel.from (h:Cel z S K v1 S1 K1 v2) (e:v1.heap=v.heap) (e1:v1.os=v.os) (e2:v1.output=v.output):Cel z S K v S1 K1 v2 :=
 ⟨h.mem,⟨h.fr.os.trans e1,h.fr.output.trans e2,by rw[<-e];exact h.fr.size,λb hb hs=>by rw[h.fr.block b (by rw[e];exact hb) hs,e]⟩,λb hb=>by rw[<-e];exact h.own b hb⟩
end
structure Asked (v:World) (S:TS) (n sb so:Nat) (pc:Nat->Option Addr) (ln cp rb:Nat->Nat) (cl:Nat->List Cl):Prop where
 len:∀ j,j<n->(cl j).length=ln j∧ln j<=64
 row:∀ k,k<n->v.cell? ⟨sb,so+k,none⟩=some (.slice (pc k) (ln k) (cp k))
 far:¬ Own S [] sb
 pq:∀ j,j<n->0<ln j->pc j=some ⟨rb j,roOf (pc j),none⟩∧¬ Own S [] (rb j)
 call:∀ j,j<n->∀ (k:Nat) (c:Cl),(cl j)[k]? = some c->v.cell? ⟨rb j,roOf (pc j)+k*4,none⟩=some (I c.po)∧v.cell? ⟨rb j,roOf (pc j)+k*4+1,none⟩=some (I c.ca)∧v.cell? ⟨rb j,roOf (pc j)+k*4+2,none⟩=some (I c.cb)∧v.cell? ⟨rb j,roOf (pc j)+k*4+3,none⟩=some (I c.cc)
 ca:∀ j,j<n->∀ c∈cl j,-9223372036854775808<=c.ca∧c.ca<9223372036854775808
structure Objs (v:World) (S:TS) (xs:List Int) (pk:Nat->Option Obj) (S1:TS) (K:List (Nat×Int)) (u:World):Prop where
 cel:Cel zn S [] v S1 K u
 vals:K.map (·.2)=xs
 st:∃ cv,S1=cellsS S cv xs.length
 has:Has pk u
 new:∀ b,pk b≠none->(v.heap.size<=b∨b≠S.bk)∧¬ Own S1 K b
 row:∀ b o,pk b=some o->∃ c e f,o=.cells c e f
theorem Objs.same {xs:List Int}{pk:Nat->Option Obj}{S1:TS}{K:List (Nat×Int)}{u':World}(h:Objs v S xs pk S1 K u) (e:u'.heap=u.heap) (e1:u'.os=u.os) (e2:u'.output=u.output):Objs v S xs pk S1 K u' :=
 ⟨h.cel.same e e1 e2,h.vals,h.st,λb o hb=>by rw[e];exact h.has b o hb,h.new,h.row⟩
section
variable {v u:World}{S S1:TS}{K:List (Nat×Int)}{n sb so:Nat}{pc:Nat->Option Addr}{ln cp rb:Nat->Nat}{cl:Nat->List Cl}{xs:List Int}{pk:Nat->Option Obj}
theorem told_of (hm:Mem zn S [] v) (hb:Open v S.bk) (t:Asked v S n sb so pc ln cp rb cl) (o:Objs v S xs pk S1 K u):
 Told u S1 K pk n pc ln cp rb cl∧(∀ k,k<n->u.cell? ⟨sb,so+k,none⟩=some (.slice (pc k) (ln k) (cp k)))∧Open u S.bk∧v.heap.size<=u.heap.size ∧
  ∀ b,b<v.heap.size->¬ Own S [] b->u.heap[b]? = v.heap[b]?∧¬ Own S1 K b:=by
 have no:∀ b,b<v.heap.size->¬ Own S [] b->¬ Own S1 K b:=λb hb ho h=>(o.cel.own b h).elim ho (λh=>by omega);have same:∀ b,b<v.heap.size->¬ Own S [] b->u.heap[b]? = v.heap[b]?:=λb hb ho=>o.cel.fr.block b hb ho;have hcell:∀ (a:Addr) (x:Value),¬ Own S [] a.block->v.cell? a=some x->u.cell? a=some x:=λa x ho ha=>by rw[World.cell?_of_block (w:=v) (w':=u) (same a.block (World.block_lt_of_cell? _ _ ha) ho)];exact ha
 have hbkl:S.bk<v.heap.size:=by obtain ⟨c,m,h⟩:=hb;exact (Qb h).1
 have hbk:¬ Own S [] S.bk:=λh=>by obtain ⟨c,m,hh⟩:=hb;obtain ⟨x,e,f,h1⟩:=hm.row h;rw[h1] at hh;cases hh
 have hO:Open u S.bk:=by obtain ⟨c,m,hh⟩:=hb;exact ⟨c,m,by rw[same _ hbkl hbk];exact hh⟩
 have e1:S1.bk=S.bk:=by obtain ⟨cv,rfl⟩:=o.st;rfl
 refine ⟨⟨o.has,λb hb=>⟨(o.new b hb).2,by have:=(o.new b hb).1;rw[e1];rcases this with h|h;omega;exact h⟩,o.row,t.len,λj hj h0=>?_,λj hj k c hc=>?_,t.ca⟩,λk hk=>hcell _ _ t.far (t.row k hk),hO,o.cel.fr.size,λb hb ho=>⟨same b hb ho,no b hb ho⟩⟩
 .have h1:=t.pq j hj h0
  obtain ⟨c,hc⟩:∃ c,(cl j)[0]? = some c:=⟨_,Qf (by have:=t.len j hj;omega)⟩
  have hl:=World.block_lt_of_cell? _ _ (t.call j hj 0 c hc).1;exact ⟨h1.1,no _ hl h1.2⟩
 .have h0:0<ln j:=by have:=(Qc hc).1;have:=t.len j hj;omega
  have ho:=(t.pq j hj h0).2;have h4:=t.call j hj k c hc;exact ⟨hcell _ _ ho h4.1,hcell _ _ ho h4.2.1,hcell _ _ ho h4.2.2.1,hcell _ _ ho h4.2.2.2⟩
end
structure GOut (w:World) (S:TS) (n:Nat) (ln:Nat->Nat) (N:Nat) (S':TS) (K':List (Nat×Int)) (l:Nat->Ph) (w':World):Prop where
 mem:Mem zn S' K' w'
 size:w.heap.size<=w'.heap.size
 low:w.heap.size<=N
 old:∀ b,b<w.heap.size->¬ Own S [] b->b≠S.bk->w'.heap[b]? = w.heap[b]?∧¬ Own S' K' b
 rows:∀ j,j<n->w'.cell? ⟨N+1,j,none⟩=some (.slice (some ⟨N+4+3*j+2,0,none⟩) (ln j) (ln j))
 ans:∀ j,j<n->(l j).ans.length=ln j∧(0<ln j->w'.heap[N+4+3*j+2]? = some (.cells (arow (l j).ans).toArray 38 (0,0)))∧∃ a,l j=.done a
 os:w'.os=w.os
 out:w'.output=w.output
section
variable {mc:Mc}{fid:FuncId}{S:TS}{n sb so:Nat}{pc:Nat->Option Addr}{ln cp rb:Nat->Nat}{cl:Nat->List Cl}{xs:List Int}
theorem gplay_all (P:Pkg mc fid) {Q:Array Value->(Nat->Option Obj)->List (Nat×Int)->Prop}(hQ:∀ caps pk K,Q caps pk K->∀ X:Fix mc,X.fid=fid->X.caps=caps->X.pk=pk->X.kb=K.map (·.1)->P.Mine X) (hQk:∀ caps pk K,Q caps pk K->KOk mc K)
 {cap:Nat} {cs:List Frame} {bc:Frame} {ac:Act} {ops:Array Oper} {q0:Nat} {rest:List Nat} {oc:Oper} {k0:List Item} {w:World} {T:Trace} {gs:Array Goroutine} {q:Nat->Nat} (sl:Option (Nat×Nat)) (NT:Nat) (A:Alone gs w T q) {g0:Goroutine} (hg:gs[0]? = some g0)
 (hG:GoesI Tryd.prog true (DT (ScZ zn) (λ_=>False)) (λg w'=>∃ (bd:Frame) (ad:Act) (od:Array Oper) (qd:Nat) (rd:List Nat) (oe:Oper) (kd:List Item) (caps:Array Value) (pk:Nat->Option Obj) (S1:TS) (K:List (Nat×Int)),Objs w S xs pk S1 K w'∧Q caps pk K∧od[qd]? = some oe ∧
   (∀ (Ch:Nat->Prop) (Stop:Goroutine->World->Prop) (w1:World) (x:Value),(∀ d,GoesI Tryd.prog true (DT (ScZ zn) Ch) Stop (G (bc.at (ac.put oc.dst (.tuple #[x,I 0])) (.inRegion ops rest :: k0)) cs) (w1.at d))->GoesI Tryd.prog true (DT (ScZ zn) Ch) Stop (G (bd.at (ad.put oe.dst x) (.inRegion od rd :: kd)) (bc.at ac (.inRegion ops (q0 :: rest) :: k0) :: cs)) w1) ∧
   g=G ((base 60).at { tmps:=#[Pt S.wb 0,.slice (some ⟨sb,so,none⟩) n cap,.func (.func fid) (mc.bn caps) (mc.fr caps)]++Array.replicate 36 undef,defers:=[] } [.code B20]) (bd.at ad (.inRegion od (qd :: rd) :: kd) :: bc.at ac (.inRegion ops (q0 :: rest) :: k0) :: cs)) g0 w)
 (hm:Mem zn S [] w) (hthr:S.thr=[]) (hran:S.ran=false) (hbk:Open w S.bk) (t:Asked w S n sb so pc ln cp rb cl) (hn8:0<n∧n<=8)
 (hlen:∀ caps pk N K,S.n+2*lens (scrs mc fid caps pk N n K pc ln cp rb cl)<=1000000) (hsl:S.sched.length<=4611686018427387904) (hsc:∀ x∈S.sched,-9223372036854775808<=x∧x<9223372036854775808) (l0:Nat->Ph)
 (hturn:∀ (caps:Array Value) (pk:Nat->Option Obj) (N:Nat) (cv:Value) (K:List (Nat×Int)),K.map (·.2)=xs->∀ S1 l1,Hires mc 0 (scrs mc fid caps pk N n K pc ln cp rb cl) (nv { cellsS S cv xs.length with ran:=true }) l0 S1 l1->∃ m p',m<=NT∧Turns mc m ⟨S1,K,l1⟩ p'∧p'.S.n*40<=140737488355328):
 ∃ (N':Nat) (gs':Array Goroutine) (w':World) (sl':Option (Nat×Nat)) (T':Trace) (q':Nat->Nat) (caps:Array Value) (pk:Nat->Option Obj) (N:Nat) (cv:Value) (K:List (Nat×Int)) (S':TS) (S1:TS) (l1:Nat->Ph) (m:Nat) (p':PSt),
   runNT Tryd.prog N' (crowd gs w sl) T=(.next (crowd gs' w' sl'),T')∧gs'.size=gs.size+n∧gs'[0]? = some (G (bc.at (ac.put oc.dst (.tuple #[.slice (some ⟨N+1,0,none⟩) n n,I 0])) (.inRegion ops rest :: k0)) cs) ∧
   Alone gs' w' T' q'∧K.map (·.2)=xs∧nv S'=p'.S∧Hires mc 0 (scrs mc fid caps pk N n K pc ln cp rb cl) (nv { cellsS S cv xs.length with ran:=true }) l0 S1 l1∧Turns mc m ⟨S1,K,l1⟩ p'∧GOut w S n ln N S' p'.K p'.l w':=by
 obtain ⟨N1,gs1,a1,w1,sl1,T1,q1,r1,z1,h1,⟨bd,ad,od,qd,rd,oe,kd,caps,pk,S1,K,ho,hq,hoe,hback,rfl⟩,A1⟩:=alone_goes A hg sl hG;obtain ⟨t1,hs1,hbk1,hsz1,hold1⟩:=told_of hm hbk t ho;obtain ⟨cv,rfl⟩:=ho.st;have hsb:sb<w1.heap.size:=World.block_lt_of_cell? _ _ (hs1 0 hn8.1);obtain ⟨N2,gs2,w2,sl2,T2,q2,S2,S3,l1,m,p',r2,z2,h2,A2,hnv,hH,hT,O⟩:=run20_all P (hQ caps pk K hq) (hQk caps pk K hq) (S:=cellsS S cv xs.length) (K:=K) hoe sl1 NT A1 h1 ho.cel.mem hthr hran hbk1 t1 hs1 hsb hn8.2 (hlen _ _ _ _) hsl hsc l0 (hturn _ _ _ cv K ho.vals);obtain ⟨N3,gs3,a3,w3,sl3,T3,q3,r3,z3,h3,⟨rfl,d3,rfl⟩,A3⟩:=alone_goes A2 h2 sl2 (hback (λ_=>False) (λg w'=>g=G (bc.at (ac.put oc.dst (.tuple #[.slice (some ⟨w1.heap.size+1,0,none⟩) n n,I 0])) (.inRegion ops rest :: k0)) cs∧∃ d,w'=w2.at d) w2 _ (λd=>GoesI.stop λd'=>⟨rfl,d',rfl⟩));refine ⟨N1+N2+N3,gs3,w2.at d3,sl3,T3,q3,caps,pk,w1.heap.size,cv,K,S2,S3,l1,m,p',runNT_then (runNT_then r1 r2) r3,by omega,h3,A3,ho.vals,hnv,hH,hT,⟨(O.mem.grows (v':=w2.at d3) ⟨Qi _,λ_ _=>rfl,rfl,rfl⟩).mem,Qk hsz1 O.size,hsz1,λb hb hob hk=>?_,O.rows,O.ans,O.os.trans ho.cel.fr.os,O.out.trans ho.cel.fr.output⟩⟩;have h5:=hold1 b hb hob;have h6:=O.old b (by omega) h5.2 hk;exact ⟨h6.1.trans h5.1,h6.2⟩
end
def lits (u:Nat->Value):Nat->Nat->List Value
 |_,0=>[]
 |s,n+1=>u s :: lits u (s+1) n
theorem lits_get (u:Nat->Value):∀ (n s i:Nat),(lits u s n)[i]? = if i<n then some (u (s+i)) else none
 |0,s,i=>by simp[lits]
 |n+1,s,0=>by simp[lits]
 |n+1,s,i+1=>by have:=lits_get u n (s+1) i;simp only[lits,List.getElem?_cons_succ,this,Nat.add_lt_add_iff_right];rw[show s+1+i=s+(i+1) by omega]
theorem litN (h:a.tmps.size=n) (hd:a.defers=[]):∃ u:Nat->Value,a={ tmps:=(lits u 0 n).toArray,defers:=[] }∧∀ i,a.tmps.getD i undef=u i:=by
 obtain ⟨⟨l⟩,ds⟩:=a;simp only at hd h;subst hd;refine ⟨λi=>(Array.mk l).getD i undef,?_,λi=>rfl⟩;have e:l=lits (λi=>(Array.mk l).getD i undef) 0 n:=by
  apply List.ext_getElem?;intro i;rw[lits_get];have hl:l.length=n:=h;by_cases hi:i<n
  .rw[if_pos hi,Qf (by omega)]
   simp[Array.getD,hl,hi]
  rw[if_neg hi,List.getElem?_eq_none (by omega)]
 exact congrArg (λx=>({ tmps:=x.toArray,defers:=[] }:Act)) e
def Fl (n:Nat) (l:List (Nat×Value)) (a:Act):Prop:=a.tmps.size=n∧a.defers=[]∧∀ p∈l,a.tmps.getD p.1 undef=p.2
theorem Fl.sub {l':List (Nat×Value)}(h:Fl n l a) (hs:∀ p∈l',p∈l):Fl n l' a:=⟨h.1,h.2.1,λp hp=>h.2.2 p (hs p hp)⟩
theorem Fl.at (h:Fl n l a) (k:Nat) (v:Value) (hs:(k,v)∈l):a.eval (.tmp k)=v:=h.2.2 (k,v) hs
def Fls (u:Nat->Value):List (Nat×Value)->Prop
 | []=>True
 | [p]=>u p.1=p.2
 |p :: q :: l=>u p.1=p.2∧Fls u (q :: l)
theorem fls_of {u:Nat->Value}:∀ {l:List (Nat×Value)},(∀ p∈l,u p.1=p.2)->Fls u l
 | [],_=>trivial
 | [p],h=>h p (.head _)
 |p :: q :: l,h=>⟨h p (.head _),fls_of (l:=q :: l) λr hr=>h r (.tail _ hr)⟩
theorem litF (h:Fl n l a):∃ u:Nat->Value,a={ tmps:=(lits u 0 n).toArray,defers:=[] }∧Fls u l:=by obtain ⟨u,e,hg⟩:=litN h.1 h.2.1;exact ⟨u,e,fls_of λp hp=>(hg p.1).symm.trans (h.2.2 p hp)⟩
end Go.Proofs.YtfjjoohflcchnaaDoor.Gen
namespace Go.Proofs.YtfjjoohflcchnaaDoor
open Go Go.Lift Go.Conc Go.RowKit
def effCas (a y x:Int):(Int×Int)×Int×Value:=if x=a then ((a,y),y,.bool true) else ((x,x),x,.bool false)
def rest14:Code:=seq2 (seq2 (Tryd.f77.body.getD .skip))
theorem fine14:fineCode Tryd.prog true LT rest14:=fineCode_ask callT extT (by kernel_rfl)
theorem tail14 {z:Nat->Option Nat}{S:TS}{K:List (Nat×Int)}{v:World}{i j cb:Nat}{t:Thr}{x:Int}{a y:Int}(hm:Mem z S K v) (ht:S.thr[i]? = some t) (hK:K[j]? = some (cb,x)) (hn:(S.n+1)*40<=140737488355328) (a10 a11 a12 a13 a14 a15:Value):
 rest14.wp Tryd.prog (bodyPost Tryd.prog Tryd.f77 (λe w'=>∃ r,e=.returned r∧(r=(effCas a y x).2.2∧∃ tv,Evo z S K v (didS S tv i t (effCas a y x).1.1 (effCas a y x).1.2) (K.set j (cb,(effCas a y x).2.1)) w')))
  { tmps:=#[Pt cb 0,Pt t.tb 0,I a,I y,undef,undef,undef,undef,.bool false,undef,a10,a11,a12,a13,a14,a15,undef,undef,undef,undef,undef,undef,undef,undef,undef,undef,undef,undef,undef,undef,undef,undef,undef,undef],defers:=[] } v:=by
 obtain ⟨_,c1,f1⟩:=hm.cells hK;have HM:Hid (Mem z S K v):=⟨hm⟩
 by_cases hx:x=a
 .subst hx
  have HW:Hid (Evo z S K v S (K.set j (cb,y)) (v.setCell ⟨cb,1,none⟩ (I y))):=⟨Evo.write hm hK _⟩
  have HQ:Hid (effCas x y x=((x,y),y,.bool true)):=⟨by simp[effCas]⟩
  rw[HQ.out];clear hm hK;simp only at c1 f1;show Code.wp Tryd.prog (seq2 (seq2 (Tryd.f77.body.getD .skip))) _ _ _;unfold Tryd.f77 seq2;simp only[Qa]
  go_wp2_with (first
   |(go_at_call 111;refine ((body28 cb x y _ c1 f1).calls Tryd.func111 rfl).mono ?_;rintro e w1 ⟨_,rfl,rfl,rfl⟩)
   |(go_at_call 108;refine ((body27 HW.out.mem.rep ht x y hn).calls Tryd.func108 rfl).mono ?_;rintro e w2 ⟨_,rfl,rfl,tv,hev⟩))
  go_ret;exact ⟨_,rfl,rfl,tv,HW.out.did hev⟩
 have HW:Hid (Evo z S K v S (K.set j (cb,x)) v):=⟨by rw[set_same hK];exact Evo.refl hm⟩
 have HQ:Hid (effCas a y x=((x,x),x,.bool false)):=⟨by simp[effCas,hx]⟩
 rw[HQ.out];clear hm hK;simp only at c1 f1;show Code.wp Tryd.prog (seq2 (seq2 (Tryd.f77.body.getD .skip))) _ _ _;unfold Tryd.f77 seq2;simp only[Qa]
 go_wp2_with (first
  |(go_at_call 111;refine ((body28n cb x a y _ c1 f1 hx).calls Tryd.func111 rfl).mono ?_;rintro e w1 ⟨_,rfl,rfl,rfl⟩)
  |(go_at_call 107;refine ((body29 cb x _ c1).calls Tryd.func107 rfl).mono ?_;rintro e w1 ⟨_,rfl,rfl,rfl⟩)
  |(go_at_call 108;refine ((body27 HW.out.mem.rep ht x x hn).calls Tryd.func108 rfl).mono ?_;rintro e w2 ⟨_,rfl,rfl,tv,hev⟩))
 go_ret;exact ⟨_,rfl,rfl,tv,HW.out.did hev⟩
theorem res14 (tmps:Array Value):∃ v,(∀ w,(results Tryd.f77 tmps).run Tryd.prog w=.ok v w)∧∀ w,(results Tryd.f77 tmps).events Tryd.prog w #[]=#[] :=
 ⟨_,λ_=>results_tmp rfl _ _ _,λ_=>by simp[results,go_sem]⟩
theorem cas_goes {z:Nat->Option Nat}{Ch:Nat->Prop}{Stop:Goroutine->World->Prop}{h:Nat}{cont:Addr->Value}{S:TS}{K:List (Nat×Int)}{v w:World}{i j cb:Nat}{t:Thr}(a y:Int) (x:Int) (cs:List Frame) (Hm:Goroutine->Prop) {bc:Frame}{ac:Act}{ops:Array Oper}{q:Nat}{rest:List Nat}{oc:Oper}{k:List Item}(hoc:ops[q]? = some oc)
 (hH:∀ g,OpBack (h==0) i j cb t.tb 4 (effCas a y) (λr=>G (bc.at (ac.put oc.dst r) (.inRegion ops rest :: k)) cs) g->Hm g)
 (hvw:Rel z v w) (hn:NoRow Ch v) (hm:Mem z S K v) (ht:S.thr[i]? = some t) (hK:K[j]? = some (cb,x)) (hz:z t.tb=some 2) (hcont:cont ⟨t.tb,2,none⟩=.chan (some t.gc))
 (hstop:∀ g w',GiveT z cont h S.bk t.gc Hm (Then z Ch S K v (waiting S i t 1 4 j) K) g w'->Stop g w') (code:Code) (hc:Tryd.f77.body=some code):
 GoesI Tryd.prog (h==0) (DT (ScZ z) Ch) Stop (G ((base 77).at { tmps:=#[Pt cb 0,Pt t.tb 0,I a,I y]++Array.replicate 30 undef,defers:=[] } [.code code]) (bc.at ac (.inRegion ops (q :: rest) :: k) :: cs)) w:=by
 obtain rfl:=Qd hc;clear hc;have e0:w.cell? ⟨cb,0,none⟩=some (I j):=by rw[hvw.cell?];exact (hm.cells hK).1
 simp only[Sy];have HM:Hid (Mem z S K v):=⟨hm⟩
 clear hm;refine goesI_seq (dt_idle _ _) ?_;refine goesI_region (dt_idle _ _) ?_;simp only[Sz,Sr,Nat.reduceAdd]
 (refine goesI_oper rfl rfl (by decide) (λd K hK=>?_)
  go_simp;refine hK _ _ ⟨dt_reads (λe he=>?_),GoesI.at ?_ d⟩
  .have hm:=mem_listed he
   simp[go_sem, *] at hm
  clear hK K)
 refine goesI_regionEnd (dt_idle _ _) ?_;refine goesI_seq (dt_idle _ _) ?_;refine goesI_region (dt_idle _ _) ?_;simp only[Sz,Sr,Nat.reduceAdd];iterate 5
  (refine goesI_oper rfl rfl (by decide) (λd K hK=>?_)
   go_simp;refine hK _ _ ⟨dt_reads (λe he=>?_),GoesI.at ?_ d⟩
   .have hm:=mem_listed he
    simp[go_sem, *] at hm
    try exact ⟨_,_,hm⟩
   clear hK K)
 refine goesI_into (f:=106) (fn:=Tryd.f106) (args:=#[Pt t.tb 0,I j,I 4]) (dt_idle _ _) rfl rfl (by decide) rfl (by simp[Act.eval]) Tryd.func106 (by decide) rfl ?_;refine turn_mem 4 j _ Hm rfl (λg hg=>hH g ?_) hvw hn HM.out ht hz hcont hstop _ rfl;intro z1 Ch1 St yy w1 v1 S1 K1 t1 x1 r1 n1 m1 h1 htb hop hce hK1 hn1 hk;refine hg _ St yy w1 (dt_idle _ _) ?_;refine goesI_regionEnd (dt_idle _ _) ?_;rw[<-htb];refine goesI_rest (f:=77) (fn:=Tryd.f77) (c:=rest14) hE fineT r1 n1 Tryd.func77 fine14 rfl hoc res14 (λτ=>?_) (λr v' w' hR hr' hn'=>?_) (R:=λr w'=>r=(effCas a y x1).2.2∧∃ tv,Evo z1 S1 K1 v1 (didS S1 tv i t1 (effCas a y x1).1.1 (effCas a y x1).1.2) (K1.set j (cb,(effCas a y x1).2.1)) w');refine wp_mono (tail14 (m1.same (v':=onTape v1 τ 0) rfl) h1 hK1 hn1 _ _ _ _ _ _) (bp_mono λr u hq=>⟨hq.1,hq.2.choose,hq.2.choose_spec.base rfl rfl rfl⟩)
 .obtain ⟨rfl,tv,he⟩:=hR
  exact hk v' w' tv hr' hn' he
end Go.Proofs.YtfjjoohflcchnaaDoor
namespace Go.Proofs.YtfjjoohflcchnaaDoor.Gen
open Go Go.Lift Go.Conc Go.RowKit
variable {v w:World} {b b0 cb h i j kp rb tb:Nat} {a:Act} {z:Nat->Option Nat} {S:TS} {K:List (Nat×Int)} {x:Int} {M1 M2:Nat->Option Obj} {o:Obj} {Stop:Goroutine->World->Prop} {Ch:Nat->Prop} {F:Value} {cont:Addr->Value} {t:Thr}
def condB:Code->Code
 |.cond _ _ b=>b
 |c=>c
def ansW (v:World) (rb:Nat) (e x:Int):World:=(v.setCell ⟨rb,0,none⟩ (I e)).setCell ⟨rb,1,none⟩ (I x)
theorem Ap {a b:Value}(h:v.heap[rb]? = some (.cells #[a,b] 38 (0,0))) (e x:Int):(ansW v rb e x).heap[rb]? = some (.cells #[I e,I x] 38 (0,0)):=by have:=heap_setCell_same (o:=1) (heap_setCell_same (o:=0) h (I e)) (I x);unfold ansW;simpa using this
theorem Bf (v:World) (rb:Nat) (e x:Int) (b:Nat) (hb:b≠rb):(ansW v rb e x).heap[b]? = v.heap[b]?:=by unfold ansW;rw[Below.heap_setCell _ _ _ _ hb,Below.heap_setCell _ _ _ _ hb]
theorem Bg (v:World) (rb:Nat) (e x:Int):(ansW v rb e x).heap.size=v.heap.size:=by simp[ansW,World.setCell]
theorem ans_evo (h:Mem z S K v) (hB:¬ Own S K rb) (e x:Int):EvoP (· = rb) z S K v S K (ansW v rb e x) :=
 h.other hB (λb hb=>Bf v rb e x b hb) (Bg v rb e x) rfl rfl
theorem fl_put {n:Nat}{l:List (Nat×Value)}{d:Nat}{x:Value}(h:Fl n l a) (hd:d<n) (hl:(l.all λp=>p.1 != d)=true):Fl n (l++[(d,x)]) (a.put (some d) x):=by
 refine ⟨by show (a.tmps.setIfInBounds d x).size=n;rw[Array.size_setIfInBounds];exact h.1,h.2.1,λp hp=>?_⟩;show (a.tmps.setIfInBounds d x).getD p.1 undef=p.2;rw[Qe,Array.getElem?_setIfInBounds];rcases List.mem_append.1 hp with hp|hp
 .have:=(List.all_eq_true.1 hl) p hp
  have hne:¬ d=p.1:=by intro e;rw[e] at this;simp at this
  rw[if_neg hne,<-Qe];exact h.2.2 p hp
 .simp only[Sm,or_false] at hp
  subst hp;rw[if_pos rfl,if_pos (by rw[h.1];exact hd)];rfl
def uni (M1 M2:Nat->Option Obj) (b:Nat):Option Obj:=(M1 b).orElse λ_=>M2 b
theorem Aj :uni M1 M2 b≠none↔M1 b≠none∨M2 b≠none:=by unfold uni;cases M1 b<;>simp
theorem Ai (h:M1 b=some o):uni M1 M2 b=some o:=by unfold uni;rw[h];rfl
theorem Ak (h0:M1 b=none) (h:M2 b=some o):uni M1 M2 b=some o:=by unfold uni;rw[h0];exact h
def apartM (M1 M2:Nat->Option Obj):Prop:=∀ b,M1 b≠none->M2 b=none
theorem has_uni (h:Has (uni M1 M2) v) (ha:apartM M1 M2):Has M1 v∧Has M2 v:=by
 refine ⟨λb o hb=>h b o (Ai hb),λb o hb=>h b o ?_⟩;cases h1:M1 b with
 |none=>exact Ak h1 hb
 |some o'=>rw[ha b (by rw[h1];simp)] at hb;cases hb
theorem uni_has (h1:Has M1 v) (h2:Has M2 v):Has (uni M1 M2) v:=λb o hb=>by
 unfold uni at hb;cases h:M1 b with
 |some o'=>rw[h] at hb;cases hb;exact h1 b _ h
 |none=>rw[h] at hb;exact h2 b o hb
theorem uni_rows (h1:∀ b o,M1 b=some o->∃ c e f,o=.cells c e f) (h2:∀ b o,M2 b=some o->∃ c e f,o=.cells c e f):∀ b o,uni M1 M2 b=some o->∃ c e f,o=.cells c e f:=λb o hb=>by
 unfold uni at hb;cases h:M1 b with
 |some o'=>rw[h] at hb;cases hb;exact h1 b _ h
 |none=>rw[h] at hb;exact h2 b o hb
def oneM (b0:Nat) (o:Obj) (b:Nat):Option Obj:=if b=b0 then some o else none
theorem Ah (b0:Nat) (o:Obj):oneM b0 o b0=some o:=if_pos rfl
theorem Ao (h:oneM b0 o b≠none):b=b0:=by unfold oneM at h;split at h;assumption;exact absurd rfl h
theorem Ag (h:b≠b0):oneM b0 o b=none:=if_neg h
theorem oneM_eq {o':Obj}(h:oneM b0 o b=some o'):b=b0∧o'=o:=by have e:=Ao (b0:=b0) (o:=o) (b:=b) (by rw[h];simp);subst e;rw[Ah] at h;exact ⟨rfl,(Qd h).symm⟩
theorem has_one :Has (oneM b0 o) v↔v.heap[b0]? = some o:=by refine ⟨λh=>h b0 o (Ah b0 o),λh b o' hb=>?_⟩;obtain ⟨rfl,rfl⟩:=oneM_eq hb;exact h
theorem goesI_clo {main:Bool}{k:List Item}{cs:List Frame}{ops:Array Oper}{rest:List Nat}{o:Oper}{D:World->World->Array Event->Prop}(hD:∀ w,D w w #[]) {f:FuncId}{fn:Func}{c:Code}{p:Operand}{cap:Array Value}{b:Frame}
 (ho:ops[i]? = some o) (hw:Region.wanted o (yielded ops a.tmps)=true) (hk:b.kind≠.early) (hop:o.op=.call { callee:=.value p,args:=#[],argTypes:=#[] }) (hp:a.eval p=.func (.func f) #[] cap)
 (hf : Tryd.prog.funcs[f]? = some fn) (hname : (fn.name == "runtime.NumGoroutine") = false) (hb : fn.body = some c)
 (h:GoesI Tryd.prog main D Stop (G ((base f).at { tmps:=cap++Array.replicate (fn.ntmps - cap.size) undef,defers:=[] } [.code c]) (b.at a (.inRegion ops (i :: rest):: k):: cs)) w):
 GoesI Tryd.prog main D Stop (G (b.at a (.inRegion ops (i :: rest) :: k)) cs) w:=by
 have e:execOp a.eval o=callFunc f cap:=by unfold execOp;simp[hop,resolve,Deferred.ofValue,invoke,hp]
 refine goesI_enter (f:=f) (args:=cap) (fn:=fn) (c:=c) ho hw hk (λw=>?_) (λw=>?_) hD hf hb h
 .rw[e]
  have h1 : fn.name ≠ "runtime.NumGoroutine" := by simpa using hname
  simp[callFunc,run_program,hf,h1,hb]
 .unfold listed
  rw[e,events_callFunc_body hf hname hb];simp[seen_def]
structure Frs where
 bd:Frame
 ad:Act
 od:Array Oper
 qd:Nat
 rd:List Nat
 oe:Oper
 kd:List Item
 fs:List Frame
def Frs.stack (f:Frs):List Frame:=f.bd.at f.ad (.inRegion f.od (f.qd :: f.rd) :: f.kd) :: f.fs
def Frs.ret (f:Frs) (r:Value):Goroutine:=G (f.bd.at (f.ad.put f.oe.dst r) (.inRegion f.od f.rd :: f.kd)) f.fs
def Frs.Ok (f:Frs):Prop:=f.od[f.qd]? = some f.oe
def KBack (main:Bool) (Mo:Nat->Option Obj) (f:Int×Int->Int×Int) (c cu:Value->Goroutine):Prop :=
 ∀ (z:Nat->Option Nat) (Ch:Nat->Prop) (Stop:Goroutine->World->Prop) (w v:World) (S:TS) (K:List (Nat×Int)) (a:Int×Int),Rel z v w->NoRow Ch v->Mem z S K v->Has Mo v->(∀ b,Mo b≠none->¬ Own S K b) ->
   (∀ v' w',Rel z v' w'->NoRow Ch v'->EvoP (λb=>Mo b≠none) z S K v S K v'->GoesI Tryd.prog main (DT (ScZ z) Ch) Stop (cu (.agg #[I (f a).1,I (f a).2])) w') ->
   GoesI Tryd.prog main (DT (ScZ z) Ch) Stop (c (.agg #[I a.1,I a.2])) w
theorem KBack.trans {main:Bool}{f1 f2:Int×Int->Int×Int}{c1 c2 cu:Value->Goroutine}(h1:KBack main M1 f1 c1 c2) (h2:KBack main M2 f2 c2 cu) (ha:apartM M1 M2):KBack main (uni M1 M2) (λa=>f2 (f1 a)) c1 cu:=by
 intro z Ch Stop w v S K a hvw hn hm hM hf hk;obtain ⟨k1,k2⟩:=has_uni hM ha;refine h1 z Ch Stop w v S K a hvw hn hm k1 (λb hb=>hf b (Aj.2 (.inl hb))) (λv' w' r' n' e'=>?_);have kp:∀ b o,M2 b=some o->v'.heap[b]? = some o∧¬ Own S K b:=λb o hb=>by
  have hv:=k2 b o hb;have:=e'.keeps (Qb hv).1 (hf b (Aj.2 (.inr (by rw[hb];simp)))) (λhp=>by have hp:M1 b≠none:=hp;rw[ha b hp] at hb;cases hb)
  exact ⟨by rw[this.1];exact hv,this.2⟩
 refine h2 z Ch Stop w' v' S K (f1 a) r' n' e'.mem (λb o hb=>(kp b o hb).1) (λb hb=>?_) (λv2 w2 r2 n2 e2=>hk v2 w2 r2 n2 ?_)
 .obtain ⟨o,ho⟩:=Option.ne_none_iff_exists'.1 hb
  exact (kp b o ho).2
 exact (e'.wider (Pr':=λb=>uni M1 M2 b≠none) (λb _ hb=>Aj.2 (.inl hb))).trans (e2.wider (Pr':=λb=>uni M1 M2 b≠none) (λb _ hb=>Aj.2 (.inr hb)))
theorem KBack.more {main:Bool}{f:Int×Int->Int×Int}{c cu:Value->Goroutine}(h:KBack main M1 f c cu) (hs:∀ b o,M1 b=some o->M2 b=some o):KBack main M2 f c cu:=by
 intro z Ch Stop w v S K a hvw hn hm hM hf hk;refine h z Ch Stop w v S K a hvw hn hm (λb o hb=>hM b o (hs b o hb)) (λb hb=>?_) (λv' w' r' n' e'=>hk v' w' r' n' (e'.wider (λb _ hb=>?_)))
 .obtain ⟨o,ho⟩:=Option.ne_none_iff_exists'.1 hb
  exact hf b (by rw[hs b o ho];simp)
 .obtain ⟨o,ho⟩:=Option.ne_none_iff_exists'.1 hb
  rw[hs b o ho];simp
theorem Ba {v':World}(h:Below v.heap.size v v'):Grows v v':=⟨h.size,λb hb=>h.block b hb,h.os,h.output⟩
theorem gtape {u:World}{τ:Tape}(h:Grows (onTape v τ 0) u):Grows v u:=⟨h.size,h.old,h.os,h.output⟩
theorem Av {v':World}(h:R1.Flds v) (g:Grows v v'):R1.Flds v':=h.of λa x ha=>g.cell ha
theorem id_body (tb i:Nat) (w:World) (h:w.cell? ⟨tb,1,none⟩=some (I i)):Body Tryd.f68 #[Pt tb 0] w (λr w'=>r=I i∧w'=w):=by
 intro code hb;obtain rfl:=Qd hb;clear hb;simp only[Tryd.ntmps68,Sz,Nat.reduceAdd,Nat.reduceSub,Sy]
 go_wp2
 go_ret;exact ⟨_,rfl,rfl,rfl⟩
theorem cid_body (cb j:Nat) (w:World) (h:w.cell? ⟨cb,0,none⟩=some (I j)):Body Tryd.f99 #[Pt cb 0] w (λr w'=>r=I j∧w'=w):=by
 intro code hb;obtain rfl:=Qd hb;clear hb;simp only[Tryd.ntmps99,Sz,Nat.reduceAdd,Nat.reduceSub,Sy]
 go_wp2
 go_ret;exact ⟨_,rfl,rfl,rfl⟩
def gB:Code:=Tryd.f64.body.getD .skip
def gL:Code:=loopC (blockC (seq2 gB))
def gI:Code:=blockC gL
def gS:Code:=blockC (seq2 (seq2 gI))
def gE:Code:=condB (seq2 gS)
def gN:Code:=condA (seq2 gE)
def gW:Code:=condB (seq2 gE)
def gO1:Array Oper:=opsOf (seq1 gI)
def gO8:Array Oper:=opsOf (seq1 (condA (seq2 gS)))
def gO10:Array Oper:=opsOf (seq1 gN)
def gO11:Array Oper:=opsOf (seq1 (condA (seq2 gN)))
def gO5:Array Oper:=opsOf (seq1 (seq2 gW))
def gFr (a:Act):Frame:=(base 64).at a [.code gL,.inLoop gL,.inBlock 0]
def gSeen (a:Act) (r:Value):Frame:=(base 64).at (a.put (some 13) r) [.inRegion gO1 [6],.code (seq2 gI),.inBlock 1,.inLoop gL,.inBlock 0]
def gSw (a:Act):Frame:=(base 64).at a [.code gS,.inBlock 2,.inBlock 1,.inLoop gL,.inBlock 0]
def gVal (a:Act) (r:Value):Frame:=(base 64).at (a.put (some 43) r) [.inRegion gO8 [9,10],.code .ret,.inBlock 2,.inBlock 1,.inLoop gL,.inBlock 0]
def gTry (a:Act) (r:Value):Frame:=(base 64).at (a.put (some 56) r) [.inRegion gO10 [],.code (seq2 gN),.inBlock 2,.inBlock 1,.inLoop gL,.inBlock 0]
def gWoke (a:Act) (r:Value):Frame:=(base 64).at (a.put (some 30) r) [.inRegion gO5 [7],.code (seq2 (seq2 gW)),.inBlock 2,.inBlock 1,.inLoop gL,.inBlock 0]
def gDone (a:Act) (r:Value):Frame:=(base 64).at (a.put (some 60) r) [.inRegion gO11 [4,5],.code .ret,.inBlock 2,.inBlock 1,.inLoop gL,.inBlock 0]
def gKept (a:Act) (r:Value):Frame:=(base 64).at (a.put (some 61) r) [.inRegion gO11 [5],.code .ret,.inBlock 2,.inBlock 1,.inLoop gL,.inBlock 0]
theorem eGB:gB=.seq (seq1 gB) (.block 0 (.loop gL)):=by kernel_rfl
theorem eGS:gS=.seq (seq1 gS) (.cond (.tmp 33) (.seq (.region 8 gO8 true) .ret) (.seq (seq1 gE) (.cond (.tmp 45) (.seq (.region 10 gO10 true) (seq2 gN)) gW))):=by kernel_rfl
theorem eGW:gW=.seq (.seq (seq1 (seq1 gW)) (seq2 (seq1 gW))) (.seq (.region 5 gO5 false) (seq2 (seq2 gW))):=by kernel_rfl
theorem fine_g0:fineCode Tryd.prog true LT (seq1 gB):=fineCode_ask callT extT (by kernel_rfl)
theorem fine_g2:fineCode Tryd.prog true LT (seq1 (seq2 gI)):=fineCode_ask callT extT (by kernel_rfl)
theorem fine_g7:fineCode Tryd.prog true LT (seq1 gS):=fineCode_ask callT extT (by kernel_rfl)
theorem fine_g9:fineCode Tryd.prog true LT (seq1 gE):=fineCode_ask callT extT (by kernel_rfl)
theorem fine_g3:fineCode Tryd.prog true LT (seq1 (seq1 gW)):=fineCode_ask callT extT (by kernel_rfl)
theorem get_in {main:Bool}(cs:List Frame) (hvw:Rel z v w) (hn:NoRow Ch v)
 (hk:∀ a v' w',Fl 62 [(0,Pt kp 0),(1,Pt tb 0),(2,F),(6,Pt v.heap.size 0)] a->Rel z v' w'->NoRow Ch v'->Grows v v'->v'.heap[v.heap.size]? = some (.cells #[I 0,I 0] 38 (0,0))->GoesI Tryd.prog main (DT (ScZ z) Ch) Stop (G (gFr a) cs) w') (code:Code) (hc:Tryd.f64.body=some code):
 GoesI Tryd.prog main (DT (ScZ z) Ch) Stop (G ((base 64).at { tmps:=#[Pt kp 0,Pt tb 0,F]++Array.replicate 59 undef,defers:=[] } [.code code]) cs) w:=by
 have hw0:code=.seq (seq1 gB) (.block 0 (.loop gL)):=by rw[show code=gB by unfold gB;rw[hc];rfl];exact eGB
 subst hw0;clear hc;refine goesI_seq (dt_idle _ _) ?_;refine goesI_plain (z:=z) (wr:=true) (L:=LT) (I:=NoRow Ch) hE fineT noRow_keeps (λv v' w w' es hi hr ho he=>dt_of_z v v' w w' es hi hr ho he) hvw fine_g0 rfl (by simp[base]) hn
  (Q:=λa w'=>Fl 62 [(0,Pt kp 0),(1,Pt tb 0),(2,F),(6,Pt v.heap.size 0)] a∧w'.heap=v.heap.push (.cells #[I 0,I 0] 38)∧w'.os=v.os∧w'.output=v.output) (λτ=>?_) ?_
 .unfold gB Tryd.f64 seq1
  simp only[Qa,Sy];go_wp2_with fail;exact ⟨⟨rfl,rfl,by
   intro p hp;simp only[Sm,or_false] at hp;rcases hp with rfl|rfl|rfl|rfl<;>rfl⟩,rfl,rfl,rfl⟩
 rintro a' v' w' ⟨hA,hv1,hv2,hv3⟩ hr' hn' -;refine goesI_block (dt_idle _ _) ?_;refine goesI_loop (dt_idle _ _) ?_;refine hk a' v' w' hA hr' hn' ⟨by rw[hv1];simp,λb hb=>by rw[hv1,Qg,if_neg (by omega)],hv2,hv3⟩ ?_;rw[hv1];exact Qo
theorem get_look (y:Int) (h0:v.cell? ⟨kp,0,none⟩=some (Pt cb 0)) (hA:Fl 62 [(0,Pt kp 0),(1,Pt t.tb 0),(2,F),(6,Pt rb 0)] a) (cs:List Frame) (Hm:Goroutine->Prop)
 (hH:∀ g,(∃ a,Fl 62 [(0,Pt kp 0),(1,Pt t.tb 0),(2,F),(6,Pt rb 0)] a∧OpBack (h==0) i j cb t.tb 1 effLoad (λr=>G (gSeen a r) cs) g)->Hm g)
 (hvw:Rel z v w) (hn:NoRow Ch v) (hm:Mem z S K v) (ht:S.thr[i]? = some t) (hK:K[j]? = some (cb,y)) (hz:z t.tb=some 2) (hcont:cont ⟨t.tb,2,none⟩=.chan (some t.gc))
 (hstop:∀ g w',GiveT z cont h S.bk t.gc Hm (Then z Ch S K v (waiting S i t 1 1 j) K) g w'->Stop g w'):
 GoesI Tryd.prog (h==0) (DT (ScZ z) Ch) Stop (G (gFr a) cs) w:=by
 have e0:w.cell? ⟨kp,0,none⟩=some (Pt cb 0):=by rw[hvw.cell?];exact h0
 have HM:Hid (Mem z S K v):=⟨hm⟩
 clear hm;unfold gSeen gO1 gI gL gB Tryd.f64 seq1 seq2 blockC loopC opsOf at hH;simp only[Qa] at hH;obtain ⟨hsz,hd,hpp⟩:=hA;obtain ⟨u,rfl,hg⟩:=litN hsz hd;have u0:=(hg 0).symm.trans (hpp (0,Pt kp 0) (by simp));have u1:=(hg 1).symm.trans (hpp (1,Pt t.tb 0) (by simp));have u2:=(hg 2).symm.trans (hpp (2,F) (by simp));have u6:=(hg 6).symm.trans (hpp (6,Pt rb 0) (by simp));clear hg hpp hsz hd;unfold gFr gL gB Tryd.f64 seq2 blockC loopC;simp only[Qa,lits,Nat.reduceAdd,u0,u1,u2,u6];clear u0 u1 u2 u6;refine goesI_block (dt_idle _ _) ?_;refine goesI_seq (dt_idle _ _) ?_;refine goesI_region (dt_idle _ _) ?_;simp only[Sz,Sr,Nat.reduceAdd];iterate 5
  (refine goesI_oper rfl rfl (by decide) (λd K hK=>?_)
   go_simp;refine hK _ _ ⟨dt_reads (λe he=>?_),GoesI.at ?_ d⟩
   .have hm:=mem_listed he
    simp[go_sem, *] at hm
    try exact ⟨_,_,hm⟩
    try (rcases hm with rfl|rfl<;>exact ⟨_,_,rfl⟩)
   clear hK K)
 refine goesI_into (f:=73) (fn:=Tryd.f73) (args:=#[Pt cb 0,Pt t.tb 0]) (dt_idle _ _) rfl rfl (by decide) rfl (by simp[Act.eval]) Tryd.func73 (by decide) rfl ?_;exact load_goes y _ Hm rfl (λg hg=>hH g ⟨_,⟨rfl,rfl,by
  intro p hp;simp only[Sm,or_false] at hp;rcases hp with rfl|rfl|rfl|rfl<;>rfl⟩,hg⟩) hvw hn HM.out ht hK hz hcont hstop _ rfl
theorem gst_wp (hA:Fl 62 [(0,Pt kp 0),(1,Pt tb 0),(2,F),(6,Pt rb 0),(7,I x)] a) (hF:R1.Flds v):(seq1 (seq2 gI)).wp Tryd.prog (λe a' w'=>e=.normal∧Fl 62 [(0,Pt kp 0),(1,Pt tb 0),(2,F),(6,Pt rb 0),(7,I x),(16,I (R1.stI x))] a'∧Grows v w') a v:=by
 have s0:=hF.s0;have s1:=hF.s1;clear hF;obtain ⟨hsz,hd,hpp⟩:=hA;obtain ⟨u,rfl,hg⟩:=litN hsz hd;have u0:=(hg 0).symm.trans (hpp (0,Pt kp 0) (by simp));have u1:=(hg 1).symm.trans (hpp (1,Pt tb 0) (by simp));have u2:=(hg 2).symm.trans (hpp (2,F) (by simp));have u6:=(hg 6).symm.trans (hpp (6,Pt rb 0) (by simp));have u7:=(hg 7).symm.trans (hpp (7,I x) (by simp));clear hg hpp hsz hd;unfold gI gL gB Tryd.f64 seq1 seq2 blockC loopC;simp only[Qa,lits,Nat.reduceAdd,u0,u1,u2,u6,u7];clear u0 u1 u2 u6 u7
 go_wp2_with (go_at_call 74;refine (R1.get_yes x 0 2 _ (by decide) (by decide) (by decide)).mono ?_;rintro e w1 ⟨rfl,hb1⟩)
 exact ⟨⟨rfl,rfl,by
  intro p hp;simp only[Sm,or_false] at hp;rcases hp with rfl|rfl|rfl|rfl|rfl|rfl<;>rfl⟩,Ba hb1⟩
theorem get_st {main:Bool}(hF:R1.Flds v) (hA:Fl 62 [(0,Pt kp 0),(1,Pt tb 0),(2,F),(6,Pt rb 0)] a) (cs:List Frame) (hvw:Rel z v w) (hn:NoRow Ch v)
 (hk:∀ a v' w',Fl 62 [(0,Pt kp 0),(1,Pt tb 0),(2,F),(6,Pt rb 0),(7,I x),(16,I (R1.stI x))] a->Rel z v' w'->NoRow Ch v'->Grows v v'->GoesI Tryd.prog main (DT (ScZ z) Ch) Stop (G (gSw a) cs) w'):
 GoesI Tryd.prog main (DT (ScZ z) Ch) Stop (G (gSeen a (I x)) cs) w:=by
 have e2:seq2 gI=.seq (seq1 (seq2 gI)) (.block 2 gS):=by kernel_rfl
 have hop:gO1[6]? = some (gO1.getD 6 default):=by kernel_rfl
 unfold gSeen;have hA1:Fl 62 [(0,Pt kp 0),(1,Pt tb 0),(2,F),(6,Pt rb 0),(13,I x)] (a.put (some 13) (I x)):=fl_put hA (by decide) (by simp);generalize a.put (some 13) (I x)=a1 at hA1;refine goesI_opZ (L:=LT) (x:=I x) hop rfl (by simp[base]) (fineOp_ask callT extT (by kernel_rfl)) hvw hn (v':=v) ?_ rfl (λw1 r1 n1=>?_)
 .have e:(gO1.getD 6 default).op=.assign (.tmp 13):=by kernel_rfl
  unfold execOp;rw[e];simp only[hA1.at 13 (I x) (by simp)];simp[go_sem]
 have hd:(gO1.getD 6 default).dst=some 7:=by kernel_rfl
 rw[hd];have hA2:Fl 62 [(0,Pt kp 0),(1,Pt tb 0),(2,F),(6,Pt rb 0),(7,I x)] (a1.put (some 7) (I x)):=(fl_put (hA1.sub (l':=[(0,Pt kp 0),(1,Pt tb 0),(2,F),(6,Pt rb 0)]) (by simp)) (by decide) (by simp)).sub (by simp);generalize a1.put (some 7) (I x)=a2 at hA2;refine goesI_regionEnd (dt_idle _ _) ?_;rw[e2];refine goesI_seq (dt_idle _ _) ?_;refine goesI_plain (z:=z) (wr:=true) (L:=LT) (I:=NoRow Ch) hE fineT noRow_keeps (λv v' w w' es hi hr ho he=>dt_of_z v v' w w' es hi hr ho he) r1 fine_g2 hA2.2.1 (by simp[base]) n1
  (Q:=λa w'=>Fl 62 [(0,Pt kp 0),(1,Pt tb 0),(2,F),(6,Pt rb 0),(7,I x),(16,I (R1.stI x))] a∧Grows v w') (λτ=>?_) ?_
 exact wp_mono (gst_wp (v:=onTape v τ 0) hA2 (hF.of (λa x h=>h))) (λe a w h=>⟨h.1,h.2.1,gtape h.2.2⟩);rintro a' v' w' ⟨hA',g'⟩ hr' hn' -;refine goesI_block (dt_idle _ _) ?_;exact hk a' v' w' hA' hr' hn' g'
def val_g8 (kp tb cv:Nat) (x:Int):Nat->Value
 |0=>I x
 |1=>.agg #[I 10,I 20]
 |2=>I (R1.codI x)
 |3=>Pt kp 0
 |4=>Pt kp 0
 |5=>Pt kp 1
 |6=>Pt cv 0
 |7=>Pt tb 0
 |_=>undef
theorem reg_g8:regOk gO8 8 35=true:=by kernel_rfl
theorem fin_g8:((gO8.extract 0 8).all λo=>plainOp Tryd.prog true o.op||askCall plainFs plainXs o.op)=true:=by kernel_rfl
theorem g8_pre {main:Bool}(kp tb cv:Nat) (x:Int) (hA:Fl 62 [(0,Pt kp 0),(1,Pt tb 0),(2,F),(6,Pt rb 0),(7,I x)] a) (k:List Item) (cs:List Frame) (hF:R1.Flds v) (h1:v.cell? ⟨kp,1,none⟩=some (Pt cv 0)) (hvw:Rel z v w) (hn:NoRow Ch v)
 (hN:∀ v1 w1 a' o,gO8[8]? = some o->(∀ y,Region.wanted o y=true)->Fl 62 [(0,Pt kp 0),(1,Pt tb 0),(2,F),(6,Pt rb 0),(7,I x),(37,I (R1.codI x)),(41,Pt cv 0),(42,Pt tb 0)] a'->Rel z v1 w1->NoRow Ch v1->Grows v v1->GoesI Tryd.prog main (DT (ScZ z) Ch) Stop (G ((base 64).at a' (.inRegion gO8 [8,9,10] :: k)) cs) w1):
 GoesI Tryd.prog main (DT (ScZ z) Ch) Stop (G ((base 64).at a (.code (.region 8 gO8 true) :: k)) cs) w:=by
 refine A7 (val:=val_g8 kp tb cv x) reg_g8 (by rw[hA.1];decide) hvw hn ?_ ?_
 .intro i0 o rest a' v1 w1 hi ho hw ev ev0 r1 n1 g1 hk
  match i0,hi,ho,ev,hk with
  |0,_,ho,ev,hk=>have l0:a'.eval (.tmp 7)=I x:=(ev0 7 (by decide)).trans (hA.at 7 _ (by simp));exact Ab ho hw (by simp[base]) (p:=Op.move (Operand.tmp 7)) (by kernel_rfl) (Ad fin_g8 (by decide) ho) r1 n1 (x:=I x) rfl (λo' h'=>by unfold execOp;rw[h'];simp only[l0];simp[go_sem]) hk
  |1,_,ho,ev,hk=>have c0:=g1.cell hF.c0;have c1:=g1.cell hF.c1;exact Ab ho hw (by simp[base]) (p:=Op.load 124 (Operand.global 2)) (by kernel_rfl) (Ad fin_g8 (by decide) ho) r1 n1 (x:=.agg #[I 10,I 20]) rfl (λo' h'=>by unfold execOp;rw[h'];simp only[Act.eval];simp[go_sem,c0,c1]) hk
  |2,_,ho,ev,hk =>have l0:a'.eval (.tmp 35)=I x:=ev 0 (by decide) (by kernel_rfl);have l1:a'.eval (.tmp 36)=.agg #[I 10,I 20]:=ev 1 (by decide) (by kernel_rfl);exact op_calls (f:=74) (fn:=Tryd.f74) (xs:=#[.tmp 35,.tmp 36]) (ats:=#[3,124]) (args:=#[I x,.agg #[I 10,I 20]]) ho hw (by simp[base]) (by kernel_rfl) (by simp only[List.map_toArray,List.map_cons,List.map_nil,l0,l1]) Tryd.func74 (by kernel_rfl) rfl (fineFn_body fineT (by simp[LT,plainFs]) Tryd.func74 rfl) (λtmps=>⟨_,λw=>results_tmp rfl _ _ _,λw=>by simp[results,go_sem]⟩) r1 n1 (x:=I (R1.codI x)) rfl (λτ=>wp_mono (R1.wget_body x 10 20 (onTape v1 τ 0) (by decide) (by decide) (by decide) _ rfl) (bp_mono λr u hq=>⟨hq.1,gtape (Ba hq.2)⟩)) hk
  |3,_,ho,ev,hk=>have l0:a'.eval (.tmp 0)=Pt kp 0:=(ev0 0 (by decide)).trans (hA.at 0 _ (by simp));exact Ab ho hw (by simp[base]) (p:=Op.move (Operand.tmp 0)) (by kernel_rfl) (Ad fin_g8 (by decide) ho) r1 n1 (x:=Pt kp 0) rfl (λo' h'=>by unfold execOp;rw[h'];simp only[l0];simp[go_sem]) hk
  |4,_,ho,ev,hk=>have l0:a'.eval (.tmp 38)=Pt kp 0:=ev 3 (by decide) (by kernel_rfl);exact Ab ho hw (by simp[base]) (p:=Op.nilCheck (Operand.tmp 38)) (by kernel_rfl) (Ad fin_g8 (by decide) ho) r1 n1 (x:=Pt kp 0) rfl (λo' h'=>by unfold execOp;rw[h'];simp only[l0];simp[go_sem]) hk
  |5,_,ho,ev,hk=>have l0:a'.eval (.tmp 39)=Pt kp 0:=ev 4 (by decide) (by kernel_rfl);exact Ab ho hw (by simp[base]) (p:=Op.fieldAddr 146 (Operand.tmp 39) 1) (by kernel_rfl) (Ad fin_g8 (by decide) ho) r1 n1 (x:=Pt kp 1) rfl (λo' h'=>by unfold execOp;rw[h'];simp only[l0];simp[go_sem]) hk
  |6,_,ho,ev,hk=>have l0:a'.eval (.tmp 40)=Pt kp 1:=ev 5 (by decide) (by kernel_rfl);have c0:=g1.cell h1;exact Ab ho hw (by simp[base]) (p:=Op.load 116 (Operand.tmp 40)) (by kernel_rfl) (Ad fin_g8 (by decide) ho) r1 n1 (x:=Pt cv 0) rfl (λo' h'=>by unfold execOp;rw[h'];simp only[l0];simp[go_sem,c0]) hk
  |7,_,ho,ev,hk=>have l0:a'.eval (.tmp 1)=Pt tb 0:=(ev0 1 (by decide)).trans (hA.at 1 _ (by simp));exact Ab ho hw (by simp[base]) (p:=Op.move (Operand.tmp 1)) (by kernel_rfl) (Ad fin_g8 (by decide) ho) r1 n1 (x:=Pt tb 0) rfl (λo' h'=>by unfold execOp;rw[h'];simp only[l0];simp[go_sem]) hk
 .intro v1 w1 o ho hw r1 n1 g1
  refine hN v1 w1 _ o ho hw ⟨(An _ _ _ _).trans hA.1,(Al _ _ _ _).trans hA.2.1,?_⟩ r1 n1 g1;have hsz:35+8<=a.tmps.size:=by rw[hA.1];decide
  intro p hp;simp only[Sm,or_false] at hp;rcases hp with rfl|rfl|rfl|rfl|rfl|rfl|rfl|rfl;rw[Qe,Aa _ _ _ _ _ hsz,if_neg (by simp),<-Qe];exact hA.2.2 (0,Pt kp 0) (by simp);rw[Qe,Aa _ _ _ _ _ hsz,if_neg (by simp),<-Qe];exact hA.2.2 (1,Pt tb 0) (by simp);rw[Qe,Aa _ _ _ _ _ hsz,if_neg (by simp),<-Qe];exact hA.2.2 (2,F) (by simp);rw[Qe,Aa _ _ _ _ _ hsz,if_neg (by simp),<-Qe];exact hA.2.2 (6,Pt rb 0) (by simp);rw[Qe,Aa _ _ _ _ _ hsz,if_neg (by simp),<-Qe];exact hA.2.2 (7,I x) (by simp);rw[Qe,Aa _ _ _ _ _ hsz,if_pos (by simp)];rfl;rw[Qe,Aa _ _ _ _ _ hsz,if_pos (by simp)];rfl;rw[Qe,Aa _ _ _ _ _ hsz,if_pos (by simp)];rfl
def val_g10 (kp tb cb i:Nat) (x:Int):Nat->Value
 |0=>Pt kp 0
 |1=>Pt kp 0
 |2=>Pt kp 0
 |3=>Pt cb 0
 |4=>Pt tb 0
 |5=>I x
 |6=>Pt tb 0
 |7=>I i
 |8=>I (R1.Ae 1 i 0)
 |_=>undef
theorem reg_g10:regOk gO10 9 47=true:=by kernel_rfl
theorem fin_g10:((gO10.extract 0 9).all λo=>plainOp Tryd.prog true o.op||askCall plainFs plainXs o.op)=true:=by kernel_rfl
theorem g10_pre {main:Bool}(kp tb cb i:Nat) (x:Int) (hA:Fl 62 [(0,Pt kp 0),(1,Pt tb 0),(2,F),(6,Pt rb 0),(7,I x)] a) (k:List Item) (cs:List Frame) (hF:R1.Flds v) (h0:v.cell? ⟨kp,0,none⟩=some (Pt cb 0)) (h1:v.cell? ⟨tb,1,none⟩=some (I i)) (hvw:Rel z v w) (hn:NoRow Ch v)
 (hN:∀ v1 w1 a' o,gO10[9]? = some o->(∀ y,Region.wanted o y=true)->Fl 62 [(0,Pt kp 0),(1,Pt tb 0),(2,F),(6,Pt rb 0),(7,I x),(50,Pt cb 0),(51,Pt tb 0),(52,I x),(55,I (R1.Ae 1 i 0))] a'->Rel z v1 w1->NoRow Ch v1->Grows v v1->GoesI Tryd.prog main (DT (ScZ z) Ch) Stop (G ((base 64).at a' (.inRegion gO10 [9] :: k)) cs) w1):
 GoesI Tryd.prog main (DT (ScZ z) Ch) Stop (G ((base 64).at a (.code (.region 10 gO10 true) :: k)) cs) w:=by
 refine A7 (val:=val_g10 kp tb cb i x) reg_g10 (by rw[hA.1];decide) hvw hn ?_ ?_
 .intro i0 o rest a' v1 w1 hi ho hw ev ev0 r1 n1 g1 hk
  match i0,hi,ho,ev,hk with
  |0,_,ho,ev,hk=>have l0:a'.eval (.tmp 0)=Pt kp 0:=(ev0 0 (by decide)).trans (hA.at 0 _ (by simp));exact Ab ho hw (by simp[base]) (p:=Op.move (Operand.tmp 0)) (by kernel_rfl) (Ad fin_g10 (by decide) ho) r1 n1 (x:=Pt kp 0) rfl (λo' h'=>by unfold execOp;rw[h'];simp only[l0];simp[go_sem]) hk
  |1,_,ho,ev,hk=>have l0:a'.eval (.tmp 47)=Pt kp 0:=ev 0 (by decide) (by kernel_rfl);exact Ab ho hw (by simp[base]) (p:=Op.nilCheck (Operand.tmp 47)) (by kernel_rfl) (Ad fin_g10 (by decide) ho) r1 n1 (x:=Pt kp 0) rfl (λo' h'=>by unfold execOp;rw[h'];simp only[l0];simp[go_sem]) hk
  |2,_,ho,ev,hk=>have l0:a'.eval (.tmp 48)=Pt kp 0:=ev 1 (by decide) (by kernel_rfl);exact Ab ho hw (by simp[base]) (p:=Op.fieldAddr 146 (Operand.tmp 48) 0) (by kernel_rfl) (Ad fin_g10 (by decide) ho) r1 n1 (x:=Pt kp 0) rfl (λo' h'=>by unfold execOp;rw[h'];simp only[l0];simp[go_sem]) hk
  |3,_,ho,ev,hk=>have l0:a'.eval (.tmp 49)=Pt kp 0:=ev 2 (by decide) (by kernel_rfl);have c0:=g1.cell h0;exact Ab ho hw (by simp[base]) (p:=Op.load 116 (Operand.tmp 49)) (by kernel_rfl) (Ad fin_g10 (by decide) ho) r1 n1 (x:=Pt cb 0) rfl (λo' h'=>by unfold execOp;rw[h'];simp only[l0];simp[go_sem,c0]) hk
  |4,_,ho,ev,hk=>have l0:a'.eval (.tmp 1)=Pt tb 0:=(ev0 1 (by decide)).trans (hA.at 1 _ (by simp));exact Ab ho hw (by simp[base]) (p:=Op.move (Operand.tmp 1)) (by kernel_rfl) (Ad fin_g10 (by decide) ho) r1 n1 (x:=Pt tb 0) rfl (λo' h'=>by unfold execOp;rw[h'];simp only[l0];simp[go_sem]) hk
  |5,_,ho,ev,hk=>have l0:a'.eval (.tmp 7)=I x:=(ev0 7 (by decide)).trans (hA.at 7 _ (by simp));exact Ab ho hw (by simp[base]) (p:=Op.move (Operand.tmp 7)) (by kernel_rfl) (Ad fin_g10 (by decide) ho) r1 n1 (x:=I x) rfl (λo' h'=>by unfold execOp;rw[h'];simp only[l0];simp[go_sem]) hk
  |6,_,ho,ev,hk=>have l0:a'.eval (.tmp 1)=Pt tb 0:=(ev0 1 (by decide)).trans (hA.at 1 _ (by simp));exact Ab ho hw (by simp[base]) (p:=Op.move (Operand.tmp 1)) (by kernel_rfl) (Ad fin_g10 (by decide) ho) r1 n1 (x:=Pt tb 0) rfl (λo' h'=>by unfold execOp;rw[h'];simp only[l0];simp[go_sem]) hk
  |7,_,ho,ev,hk =>have l0:a'.eval (.tmp 53)=Pt tb 0:=ev 6 (by decide) (by kernel_rfl);exact op_calls (f:=68) (fn:=Tryd.f68) (xs:=#[.tmp 53]) (ats:=#[48]) (args:=#[Pt tb 0]) ho hw (by simp[base]) (by kernel_rfl) (by simp only[List.map_toArray,List.map_cons,List.map_nil,l0]) Tryd.func68 (by kernel_rfl) rfl (fineFn_body fineT (by simp[LT,plainFs]) Tryd.func68 rfl) (λtmps=>⟨_,λw=>results_tmp rfl _ _ _,λw=>by simp[results,go_sem]⟩) r1 n1 (x:=I i) rfl (λτ=>wp_mono (id_body tb i (onTape v1 τ 0) (g1.cell h1) _ rfl) (bp_mono λr u hq=>⟨hq.1,by rw[hq.2];exact gtape (grefl _)⟩)) hk
  |8,_,ho,ev,hk =>have l0:a'.eval (.tmp 54)=I i:=ev 7 (by decide) (by kernel_rfl);exact op_calls (f:=96) (fn:=Tryd.f96) (xs:=#[.const (.int .i64 1),.tmp 54,.const (.int .i64 0)]) (ats:=#[3,3,28]) (args:=#[I 1,I i,I 0]) ho hw (by simp[base]) (by kernel_rfl) (by simp only[List.map_toArray,List.map_cons,List.map_nil,l0];rfl) Tryd.func96 (by kernel_rfl) rfl (fineFn_body fineT (by simp[LT,plainFs]) Tryd.func96 rfl) (λtmps=>⟨_,λw=>results_tmp rfl _ _ _,λw=>by simp[results,go_sem]⟩) r1 n1 (x:=I (R1.Ae 1 i 0)) rfl (λτ=>wp_mono (R1.wordOf_any 1 i 0 (onTape v1 τ 0) ((Av hF g1).of (λa x h=>h)) _ rfl) (bp_mono λr u hq=>⟨hq.1,gtape (Ba hq.2)⟩)) hk
 .intro v1 w1 o ho hw r1 n1 g1
  refine hN v1 w1 _ o ho hw ⟨(An _ _ _ _).trans hA.1,(Al _ _ _ _).trans hA.2.1,?_⟩ r1 n1 g1;have hsz:47+9<=a.tmps.size:=by rw[hA.1];decide
  intro p hp;simp only[Sm,or_false] at hp;rcases hp with rfl|rfl|rfl|rfl|rfl|rfl|rfl|rfl|rfl;rw[Qe,Aa _ _ _ _ _ hsz,if_neg (by simp),<-Qe];exact hA.2.2 (0,Pt kp 0) (by simp);rw[Qe,Aa _ _ _ _ _ hsz,if_neg (by simp),<-Qe];exact hA.2.2 (1,Pt tb 0) (by simp);rw[Qe,Aa _ _ _ _ _ hsz,if_neg (by simp),<-Qe];exact hA.2.2 (2,F) (by simp);rw[Qe,Aa _ _ _ _ _ hsz,if_neg (by simp),<-Qe];exact hA.2.2 (6,Pt rb 0) (by simp);rw[Qe,Aa _ _ _ _ _ hsz,if_neg (by simp),<-Qe];exact hA.2.2 (7,I x) (by simp);rw[Qe,Aa _ _ _ _ _ hsz,if_pos (by simp)];rfl;rw[Qe,Aa _ _ _ _ _ hsz,if_pos (by simp)];rfl;rw[Qe,Aa _ _ _ _ _ hsz,if_pos (by simp)];rfl;rw[Qe,Aa _ _ _ _ _ hsz,if_pos (by simp)];rfl
theorem g7_wp {b:Bool}(hA:Fl 62 [(0,Pt kp 0),(1,Pt tb 0),(2,F),(6,Pt rb 0),(7,I x),(16,I (R1.stI x))] a) (hb:(R1.stI x==2)=b):(seq1 gS).wp Tryd.prog (λe a' w'=>e=.normal∧Fl 62 [(33,.bool b),(0,Pt kp 0),(1,Pt tb 0),(2,F),(6,Pt rb 0),(7,I x),(16,I (R1.stI x))] a'∧w'.heap=v.heap∧w'.os=v.os∧w'.output=v.output) a v:=by
 obtain ⟨hsz,hd,hpp⟩:=hA;obtain ⟨u,rfl,hg⟩:=litN hsz hd;have u0:=(hg 0).symm.trans (hpp (0,Pt kp 0) (by simp));have u1:=(hg 1).symm.trans (hpp (1,Pt tb 0) (by simp));have u2:=(hg 2).symm.trans (hpp (2,F) (by simp));have u6:=(hg 6).symm.trans (hpp (6,Pt rb 0) (by simp));have u7:=(hg 7).symm.trans (hpp (7,I x) (by simp));have u16:=(hg 16).symm.trans (hpp (16,I (R1.stI x)) (by simp));clear hg hpp hsz hd;unfold gS gI gL gB Tryd.f64 seq1 seq2 blockC loopC;simp only[Qa,lits,Nat.reduceAdd,u0,u1,u2,u6,u7,u16];clear u0 u1 u2 u6 u7 u16;go_wp2_with fail;exact ⟨rfl,rfl,by
  intro p hp;simp only[Sm,or_false] at hp;rcases hp with rfl|rfl|rfl|rfl|rfl|rfl|rfl<;>rfl⟩
theorem g9_wp {b:Bool}(hA:Fl 62 [(0,Pt kp 0),(1,Pt tb 0),(2,F),(6,Pt rb 0),(7,I x),(16,I (R1.stI x))] a) (hb:(R1.stI x==0)=b):(seq1 gE).wp Tryd.prog (λe a' w'=>e=.normal∧Fl 62 [(45,.bool b),(0,Pt kp 0),(1,Pt tb 0),(2,F),(6,Pt rb 0),(7,I x),(16,I (R1.stI x))] a'∧w'.heap=v.heap∧w'.os=v.os∧w'.output=v.output) a v:=by
 obtain ⟨hsz,hd,hpp⟩:=hA;obtain ⟨u,rfl,hg⟩:=litN hsz hd;have u0:=(hg 0).symm.trans (hpp (0,Pt kp 0) (by simp));have u1:=(hg 1).symm.trans (hpp (1,Pt tb 0) (by simp));have u2:=(hg 2).symm.trans (hpp (2,F) (by simp));have u6:=(hg 6).symm.trans (hpp (6,Pt rb 0) (by simp));have u7:=(hg 7).symm.trans (hpp (7,I x) (by simp));have u16:=(hg 16).symm.trans (hpp (16,I (R1.stI x)) (by simp));clear hg hpp hsz hd;unfold gE gS gI gL gB Tryd.f64 seq1 seq2 blockC loopC condB;simp only[Qa,lits,Nat.reduceAdd,u0,u1,u2,u6,u7,u16];clear u0 u1 u2 u6 u7 u16;go_wp2_with fail;exact ⟨rfl,rfl,by
  intro p hp;simp only[Sm,or_false] at hp;rcases hp with rfl|rfl|rfl|rfl|rfl|rfl|rfl<;>rfl⟩
theorem get_done (y:Int) (hx:R1.stI x=2) (hF:R1.Flds v) (h1:v.cell? ⟨kp,1,none⟩=some (Pt cb 0)) (hA:Fl 62 [(0,Pt kp 0),(1,Pt t.tb 0),(2,F),(6,Pt rb 0),(7,I x),(16,I (R1.stI x))] a) (cs:List Frame) (Hm:Goroutine->Prop)
 (hH:∀ g,(∃ a,Fl 62 [(37,I (R1.codI x)),(0,Pt kp 0),(1,Pt t.tb 0),(2,F),(6,Pt rb 0)] a∧OpBack (h==0) i j cb t.tb 1 effLoad (λr=>G (gVal a r) cs) g)->Hm g)
 (hvw:Rel z v w) (hn:NoRow Ch v) (hm:Mem z S K v) (ht:S.thr[i]? = some t) (hK:K[j]? = some (cb,y)) (hz:z t.tb=some 2) (hcont:cont ⟨t.tb,2,none⟩=.chan (some t.gc))
 (hstop:∀ g w',GiveT z cont h S.bk t.gc Hm (Then z Ch S K v (waiting S i t 1 1 j) K) g w'->Stop g w'):
 GoesI Tryd.prog (h==0) (DT (ScZ z) Ch) Stop (G (gSw a) cs) w:=by
 rw[show gSw a=(base 64).at a [.code (.seq (seq1 gS) (.cond (.tmp 33) (.seq (.region 8 gO8 true) .ret) (.seq (seq1 gE) (.cond (.tmp 45) (.seq (.region 10 gO10 true) (seq2 gN)) gW)))),.inBlock 2,.inBlock 1,.inLoop gL,.inBlock 0] by unfold gSw;rw[<-eGS]];refine goesI_seq (dt_idle _ _) ?_;refine goesI_plain (z:=z) (wr:=true) (L:=LT) (I:=NoRow Ch) hE fineT noRow_keeps (λv v' w w' es hi hr ho he=>dt_of_z v v' w w' es hi hr ho he) hvw fine_g7 hA.2.1 (by simp[base]) hn (Q:=λa w'=>Fl 62 [(33,.bool true),(0,Pt kp 0),(1,Pt t.tb 0),(2,F),(6,Pt rb 0),(7,I x),(16,I (R1.stI x))] a∧w'.heap=v.heap∧w'.os=v.os∧w'.output=v.output) (λτ=>g7_wp (v:=onTape v τ 0) hA (by rw[hx];rfl)) ?_;rintro a v1 w1 ⟨hA,q1,q2,q3⟩ r1 n1 -;have g1:Grows v v1:=⟨by rw[q1];exact Qi _,λb _=>by rw[q1],q2,q3⟩
 refine goesI_cond (dt_idle _ _) (t:=true) (hA.at 33 _ (by simp)) ?_;simp only[if_true,if_false,Qh];have hA:Fl 62 [(0,Pt kp 0),(1,Pt t.tb 0),(2,F),(6,Pt rb 0),(7,I x),(16,I (R1.stI x))] a:=hA.sub (by simp);refine goesI_seq (dt_idle _ _) ?_;refine g8_pre (main:=h==0) (F:=F) (rb:=rb) kp t.tb cb x (hA.sub (l':=[(0,Pt kp 0),(1,Pt t.tb 0),(2,F),(6,Pt rb 0),(7,I x)]) (by simp)) _ cs (Av hF g1) (g1.cell h1) r1 n1 (λv2 w2 a2 o ho hw hA2 r2 n2 g2=>?_);have g3:=Am g1 g2;have e2:=hm.grows g3;refine goesI_into (f:=73) (fn:=Tryd.f73) (args:=#[Pt cb 0,Pt t.tb 0]) (dt_idle _ _) ho (hw _) (by simp[base]) (op_at (p:=.call { callee:=.value (.func 73),args:=#[.tmp 41,.tmp 42],argTypes:=#[116,48] }) (by kernel_rfl) ho) (by simp only[List.map_toArray,List.map_cons,List.map_nil];rw[hA2.at 41 (Pt cb 0) (by simp),hA2.at 42 (Pt t.tb 0) (by simp)]) Tryd.func73 (by kernel_rfl) rfl ?_;refine load_goes y _ Hm ho (λg hg=>hH g ⟨a2,hA2.sub (by simp),?_⟩) r2 n2 e2.mem ht hK hz hcont (λg w' hg=>hstop g w' (give_mono (λhF=>?_) hg)) _ rfl
 .rw[dst_at (p:=some 43) (by kernel_rfl) ho] at hg
  exact hg
 .obtain ⟨v',k1,k2,k3⟩:=hF
  exact ⟨v',k1,k2,e2.trans k3⟩
theorem get_new (y:Int) (hx:R1.stI x=0) (hF:R1.Flds v) (h0:v.cell? ⟨kp,0,none⟩=some (Pt cb 0)) (hA:Fl 62 [(0,Pt kp 0),(1,Pt t.tb 0),(2,F),(6,Pt rb 0),(7,I x),(16,I (R1.stI x))] a) (cs:List Frame) (Hm:Goroutine->Prop)
 (hH:∀ g,(∃ a,Fl 62 [(0,Pt kp 0),(1,Pt t.tb 0),(2,F),(6,Pt rb 0)] a∧OpBack (h==0) i j cb t.tb 4 (effCas x (R1.Ae 1 i 0)) (λr=>G (gTry a r) cs) g)->Hm g)
 (hvw:Rel z v w) (hn:NoRow Ch v) (hm:Mem z S K v) (ht:S.thr[i]? = some t) (hK:K[j]? = some (cb,y)) (hz:z t.tb=some 2) (hcont:cont ⟨t.tb,2,none⟩=.chan (some t.gc))
 (hstop:∀ g w',GiveT z cont h S.bk t.gc Hm (Then z Ch S K v (waiting S i t 1 4 j) K) g w'->Stop g w'):
 GoesI Tryd.prog (h==0) (DT (ScZ z) Ch) Stop (G (gSw a) cs) w:=by
 rw[show gSw a=(base 64).at a [.code (.seq (seq1 gS) (.cond (.tmp 33) (.seq (.region 8 gO8 true) .ret) (.seq (seq1 gE) (.cond (.tmp 45) (.seq (.region 10 gO10 true) (seq2 gN)) gW)))),.inBlock 2,.inBlock 1,.inLoop gL,.inBlock 0] by unfold gSw;rw[<-eGS]];refine goesI_seq (dt_idle _ _) ?_;refine goesI_plain (z:=z) (wr:=true) (L:=LT) (I:=NoRow Ch) hE fineT noRow_keeps (λv v' w w' es hi hr ho he=>dt_of_z v v' w w' es hi hr ho he) hvw fine_g7 hA.2.1 (by simp[base]) hn (Q:=λa w'=>Fl 62 [(33,.bool false),(0,Pt kp 0),(1,Pt t.tb 0),(2,F),(6,Pt rb 0),(7,I x),(16,I (R1.stI x))] a∧w'.heap=v.heap∧w'.os=v.os∧w'.output=v.output) (λτ=>g7_wp (v:=onTape v τ 0) hA (by rw[hx];rfl)) ?_;rintro a v1 w1 ⟨hA,q1,q2,q3⟩ r1 n1 -;have g1:Grows v v1:=⟨by rw[q1];exact Qi _,λb _=>by rw[q1],q2,q3⟩
 refine goesI_cond (dt_idle _ _) (t:=false) (hA.at 33 _ (by simp)) ?_;simp only[if_true,if_false,Qh];have hA:Fl 62 [(0,Pt kp 0),(1,Pt t.tb 0),(2,F),(6,Pt rb 0),(7,I x),(16,I (R1.stI x))] a:=hA.sub (by simp);refine goesI_seq (dt_idle _ _) ?_;refine goesI_plain (z:=z) (wr:=true) (L:=LT) (I:=NoRow Ch) hE fineT noRow_keeps (λv v' w w' es hi hr ho he=>dt_of_z v v' w w' es hi hr ho he) r1 fine_g9 hA.2.1 (by simp[base]) n1 (Q:=λa w'=>Fl 62 [(45,.bool true),(0,Pt kp 0),(1,Pt t.tb 0),(2,F),(6,Pt rb 0),(7,I x),(16,I (R1.stI x))] a∧w'.heap=v1.heap∧w'.os=v1.os∧w'.output=v1.output) (λτ=>g9_wp (v:=onTape v1 τ 0) hA (by rw[hx];rfl)) ?_;rintro a v2 w2 ⟨hA,q4,q5,q6⟩ r2 n2 -;have g2:Grows v v2:=Am g1 ⟨by rw[q4];exact Qi _,λb _=>by rw[q4],q5,q6⟩;refine goesI_cond (dt_idle _ _) (t:=true) (hA.at 45 _ (by simp)) ?_;simp only[if_true,if_false,Qh];have hA:Fl 62 [(0,Pt kp 0),(1,Pt t.tb 0),(2,F),(6,Pt rb 0),(7,I x),(16,I (R1.stI x))] a:=hA.sub (by simp);refine goesI_seq (dt_idle _ _) ?_;have c1:v2.cell? ⟨t.tb,1,none⟩=some (I i):=g2.cell (hm.rep.cell ht).2.1;refine g10_pre (main:=h==0) (F:=F) (rb:=rb) kp t.tb cb i x (hA.sub (l':=[(0,Pt kp 0),(1,Pt t.tb 0),(2,F),(6,Pt rb 0),(7,I x)]) (by simp)) _ cs (Av hF g2) (g2.cell h0) c1 r2 n2 (λv3 w3 a2 o ho hw hA2 r3 n3 g3=>?_);have g4:=Am g2 g3;have e2:=hm.grows g4
 refine goesI_into (f:=77) (fn:=Tryd.f77) (args:=#[Pt cb 0,Pt t.tb 0,I x,I (R1.Ae 1 i 0)]) (dt_idle _ _) ho (hw _) (by simp[base]) (op_at (p:=.call { callee:=.value (.func 77),args:=#[.tmp 50,.tmp 51,.tmp 52,.tmp 55],argTypes:=#[116,48,3,3] }) (by kernel_rfl) ho) (by simp only[List.map_toArray,List.map_cons,List.map_nil];rw[hA2.at 50 (Pt cb 0) (by simp),hA2.at 51 (Pt t.tb 0) (by simp),hA2.at 52 (I x) (by simp),hA2.at 55 (I (R1.Ae 1 i 0)) (by simp)]) Tryd.func77 (by kernel_rfl) rfl ?_;refine cas_goes x (R1.Ae 1 i 0) y _ Hm ho (λg hg=>hH g ⟨a2,hA2.sub (by simp),?_⟩) r3 n3 e2.mem ht hK hz hcont (λg w' hg=>hstop g w' (give_mono (λhF=>?_) hg)) _ rfl
 .rw[dst_at (p:=some 56) (by kernel_rfl) ho] at hg
  exact hg
 .obtain ⟨v',k1,k2,k3⟩:=hF
  exact ⟨v',k1,k2,e2.trans k3⟩
end Go.Proofs.YtfjjoohflcchnaaDoor.Gen
namespace Go.Lift
open Go.Conc
variable {v:Value} {c:Frame}
section
variable {P:Program}{main:Bool}{b:Frame}{a:Act}{k:List Item}{cs:List Frame}{w:World}{D:World->World->Array Event->Prop}{Stop:Goroutine->World->Prop}{ops:Array Oper}{i:Nat}{rest:List Nat}{o:Oper}{todo:List Item}{ds:List Deferred}{f:FuncId}{fn:Func}
theorem stepG_panic (ho:ops[i]? = some o) (hw:Region.wanted o (yielded ops a.tmps)=true) (hk:b.kind≠.early) (hr:(execOp a.eval o).run P w=.halt (.panic v) w) (he:(execOp a.eval o).events P w #[]=#[]):
 stepG P main (G (b.at a (.inRegion ops (i :: rest) :: k)) cs) w=.go (G { b.at a (.inRegion ops (i :: rest) :: k) with mode:=.panicking [{ v:=v,recovered:=false }] } cs) w #[]:=by
 have hk':(b.kind==CallKind.early)=false:=by simpa using hk
 rw[stepG_oper ho hw];simp[stepG.apply,hr,he,G,Frame.at,Frame.raise,hk',GStep.after,seen_none]
theorem stepG_unwind_cloP {c : Code} {cap : Array Value} {ch : List PanicEntry} (hd : a.defers = dclo f cap :: ds) (hf : P.funcs[f]? = some fn) (hname : (fn.name == "runtime.NumGoroutine") = false) (hb : fn.body = some c) :
 stepG P main (G { b.at a todo with mode:=.panicking ch } cs) w =
  .go (G ((baseD f).at { tmps:=cap++Array.replicate (fn.ntmps - cap.size) undef,defers:=[] } [.code c]) ({ b.at ⟨a.tmps,ds⟩ todo with mode:=.panicking ch } :: cs)) w #[]:=by
 have h1 : ¬ fn.name = "runtime.NumGoroutine" := by simpa using hname
 rw[<-enter_atD cap hf hb];simp[G,stepG,unwind,callDeferred,Frame.at,hd,dclo,invoke,callFunc,hf,h1,hb,GStep.after,seen_none]
theorem stepG_recover_some (ho:ops[i]? = some o) (hw:Region.wanted o (yielded ops a.tmps)=true) (hk:b.kind=.deferred) (hc:c.mode=.panicking [{ v:=v,recovered:=false }]) (hr:(execOp a.eval o).run P w=.ok .recover w) (he:(execOp a.eval o).events P w #[]=#[]):
 stepG P main (G (b.at a (.inRegion ops (i :: rest) :: k)) (c :: cs)) w=.go (G (b.at (a.put o.dst v) (.inRegion ops rest :: k)) ({ c with mode:=.panicking [{ v:=v,recovered:=true }] } :: cs)) w #[]:=by
 have hfin:(b.at a (.inRegion ops (i :: rest) :: k)).finish v=b.at (a.put o.dst v) (.inRegion ops rest :: k):=by rw[Frame.finish_at,ho];rfl
 rw[stepG_oper ho hw,<-hfin];simp[stepG.apply,hr,he,G,Frame.at,hk,hc,tryRecover,GStep.after,seen_none]
theorem stepG_backD {T:Array Value}{todo':List Item}(hf:P.funcs[f]? = some fn) (hr:fn.results=#[]) (hc:c.mode=.panicking [{ v:=v,recovered:=true }]):
 stepG P main (G { (baseD f).at ⟨T,[]⟩ todo' with mode:=.returning } (c :: cs)) w=.go (G { c with mode:=.returning } cs) w #[]:=by
 simp[G,stepG,unwind,doReturn,results,Frame.at,baseD,hf,hr,hc,seen,GStep.after]
theorem stepG_backR {T:Array Value}{todo':List Item}(hf:P.funcs[f]? = some fn) (hr:fn.results=#[]) (hc:c.mode=.returning):
 stepG P main (G { (baseD f).at ⟨T,[]⟩ todo' with mode:=.returning } (c :: cs)) w=.go (G c cs) w #[]:=by
 simp[G,stepG,unwind,doReturn,results,Frame.at,baseD,hf,hr,hc,seen,GStep.after]
end
end Go.Lift
