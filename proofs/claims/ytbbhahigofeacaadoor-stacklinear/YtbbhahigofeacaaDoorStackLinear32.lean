/- StackLinear, for every schedule, number of slots and scripts: the Pushes and Pops of a Play, where they are at most twelve, tell what calls one behind the other would tell. No conditions. StackLinear, part 32 of 32: GOpens, GRowL, La8Row, La8Card. -/
import Derived.Test.YtbbhahigofeacaaDoorStackLinear01
import Derived.Test.YtbbhahigofeacaaDoorStackLinear10
import Derived.Test.YtbbhahigofeacaaDoorStackLinear30
import Derived.Test.YtbbhahigofeacaaDoorStackLinear31
import Derived.Conc.LeavingOf
import Derived.ProofKit
import Derived.OpenShut
import Derived.ChangeOld
import Derived.SizedLaws
import Derived.Lib.SmallJoins
import Derived.Deep.SlicePairs
import Derived.Test.YtbbhahigofeacaaDoorRows
import Derived.LaidLaws
import Derived.LaidHandle
import Derived.Lay
import Derived.Test.YtbbhahigofeacaaDoorTie
import Derived.Test.YtbbhahigofeacaaDoorCards
import Derived.SevenTiedAt
set_option linter.unusedSimpArgs false
set_option linter.unusedVariables false
set_option maxHeartbeats 4000000
set_option maxRecDepth 100000
noncomputable section
namespace Go.Proofs.YtbbhahigofeacaaDoor.Gen
open Go Go.Lift Go.Conc
open Go.ChangeShapes Go.WideShapes Go.ChangeAt Go.RowKit Go.Joins Go.Deep
variable {v:Value} {ps:List MemPlace} {W:World}
theorem op_knob:ownKnob Tryd.prog.godebug=none:=by kernel_rfl
theorem op_cells3:Tryd.prog.cellsOf 3=1:=by kernel_rfl
theorem op_cells39:Tryd.prog.cellsOf 50=4:=by kernel_rfl
theorem op_cells37:Tryd.prog.cellsOf 45=1:=by kernel_rfl
theorem op_bytes3:Tryd.prog.bytesOf 3=8:=by kernel_rfl
theorem op_bytes37:Tryd.prog.bytesOf 45=24:=by kernel_rfl
def clV (c:Cl):List Value:=[I c.po,I c.ca,I c.cb,I c.cc]
theorem inr_of {n:Int}(h:(Lit.int .i64 n).wf=true):InR n:=by have:=bounds_i64 h;unfold InR;omega
section
variable {H:Type}{enc:TypeId×Value->H}{w:World}
theorem ints_in {r:Reach}{b0:Nat}{d:DataW H}(hv:Value.okWide Tryd.prog w r b0 25 v) (h:DataW.Trod enc Tryd.prog w 0 (λ_=>true) true 25 v d ps) (hsz:∀ elems spare,d=.slice elems spare->(elems.length+spare.length)*Tryd.prog.bytesOf 3<=reachBytes):
 ∃ (p:Option Addr) (cap b o:Nat) (xs:List Int),v=.slice p xs.length cap∧InI w p b o xs:=by
 obtain ⟨a0,len0,cap0,rfl⟩:=okWide_slice Tryd.underlying25 hv;obtain ⟨fuel,hf⟩:=h;rcases open_ints Tryd.underlying25 Tryd.underlying3 op_cells3 hf with ⟨hcs,_⟩|⟨x,l,c,zs,hcs,_,hl,hm,hz,hx,hcell,hwf⟩
 .simp[Value.cells] at hcs
  obtain ⟨rfl,rfl,rfl⟩:=hcs;exact ⟨none,0,0,0,[],rfl,⟨λh=>by simp at h,λk x hk=>by simp at hk,λx hx=>by simp at hx,Nat.zero_le _⟩⟩
 .simp[Value.cells] at hcs
  obtain ⟨rfl,rfl,rfl⟩:=hcs;have hz':zs.length=cap0:=by simpa using hz
  have ht:(zs.take len0).length=len0:=by rw[List.length_take];omega
  have hb:=hsz _ _ (congrArg Prod.fst hx);have hlz:∀ (k:IntKind) (l:List Int),(ChangeShapes.lits (H:=H) k l).length=l.length:=λk l=>by simp[ChangeShapes.lits]
  rw[op_bytes3,hlz,hlz,ht] at hb;have hlen:len0<=17592186043904:=by unfold reachBytes at hb;omega
  obtain ⟨b,off,spot⟩:=x;by_cases h0:len0=0
  .subst h0
   exact ⟨_,_,0,0,[],rfl,⟨λh=>by simp at h,λk x hk=>by simp at hk,λx hx=>by simp at hx,Nat.zero_le _⟩⟩
  .have hspot:spot=none:=by simpa [Addr.add] using World.cell?_spot (hcell 0 (by omega))
   subst hspot;refine ⟨_,_,b,off,zs.take len0,by rw[ht],⟨λ_=>rfl,λi a hi=>?_,λx hx=>inr_of (hwf x (List.mem_of_mem_take hx)),by rw[ht];exact hlen⟩⟩;have hil:i<len0:=by have:=(Qc hi).1;omega
   have hc:=hcell i (by omega);have hadd:(⟨b,off,none⟩:Addr).add i=⟨b,off+i,none⟩:=by unfold Addr.add;split<;>simp_all
   rw[hadd] at hc;have ha:zs.getD i 0=a:=by rw[List.getElem?_take_of_lt hil] at hi;rw[Ql,hi];rfl
   rw[ha] at hc;exact hc
theorem clV_open:∀ fuel cs (y:DataW H×List MemPlace),cs.length=4->DataW.trod enc Tryd.prog w 0 (λ_=>true) true fuel 50 cs=some y->∃ a,cs=clV a∧InR a.ca∧a.ok:=by
 intro fuel cs y hl h;obtain ⟨xs,k,hk,hxy,_,hxl,hf⟩:=DataW.trod_struct Tryd.underlying50 h
 match xs,hxl,cs,hl with
 | [y0,y1,y2,y3],_,[c0,c1,c2,c3],_ =>have g0:=hf 0 _ rfl;have g1:=hf 1 _ rfl;have g2:=hf 2 _ rfl;have g3:=hf 3 _ rfl;simp[op_cells3] at g0 g1 g2 g3;obtain ⟨a0,e0,_,f0⟩:=DataW.trod_int Tryd.underlying3 g0;obtain ⟨a1,e1,_,f1⟩:=DataW.trod_int Tryd.underlying3 g1;obtain ⟨a2,e2,_,f2⟩:=DataW.trod_int Tryd.underlying3 g2;obtain ⟨a3,e3,_,f3⟩:=DataW.trod_int Tryd.underlying3 g3;simp at e0 e1 e2 e3;subst e0 e1 e2 e3;exact ⟨⟨a0,a1,a2,a3⟩,rfl,inr_of f1,inr_of f2,inr_of f3⟩
def Sc (w:World) (v:Value) (q:Option Addr×Nat×Nat×List Cl):Prop :=
 v=.slice q.1 q.2.2.2.length q.2.1∧(0<q.2.2.2.length->q.1=some ⟨q.2.2.1,roOf q.1,none⟩)∧(∀ (k:Nat) (c:Cl),q.2.2.2[k]? = some c->w.cell? ⟨q.2.2.1,roOf q.1+k*4,none⟩=some (I c.po)∧w.cell? ⟨q.2.2.1,roOf q.1+k*4+1,none⟩=some (I c.ca)∧w.cell? ⟨q.2.2.1,roOf q.1+k*4+2,none⟩=some (I c.cb)∧w.cell? ⟨q.2.2.1,roOf q.1+k*4+3,none⟩=some (I c.cc))∧∀ c∈q.2.2.2,InR c.ca∧c.ok
theorem script_in {fuel:Nat}{cs:List Value}{y:DataW H×List MemPlace}(h:DataW.trod enc Tryd.prog w 0 (λ_=>true) true fuel 45 cs=some y):∃ v q,cs=[v]∧Sc w v q:=by
 rcases open_slice Tryd.underlying45 h with ⟨hcs,hx⟩|⟨ad,len,cap,m,k,D,Pl,hcs,_,hl,hm,hmm,hxe,hx⟩
 exact ⟨_,(none,0,0,[]),hcs,rfl,λh=>by simp at h,λk c h=>by simp at h,λc hc=>by simp at hc⟩
 .simp only[if_true] at hmm
  subst hmm;have each:∀ i,i<len->∃ a:Cl,(∀ j,j<4->w.cell? ((ad.add (i*4)).add j)=(clV a)[j]?)∧InR a.ca∧a.ok:=by intro i hi;obtain ⟨cs',h1,h2⟩:=hx i (by omega);rw[op_cells39] at h1;obtain ⟨_,hlen,hc⟩:=World.cells?_some h1;obtain ⟨a,rfl,ha⟩:=clV_open _ _ _ hlen h2;exact ⟨a,hc,ha⟩
  have ie:Inhabited Cl:=⟨⟨0,0,0,0⟩⟩
  obtain ⟨q,hq⟩:=choose_lt each;obtain ⟨b,off,spot⟩:=ad;by_cases h0:len=0
  .subst h0
   exact ⟨_,(some ⟨b,off,spot⟩,m,0,[]),hcs,rfl,λh=>by simp at h,λk c h=>by simp at h,λc hc=>by simp at hc⟩
  .have c01:w.cell? (((⟨b,off,spot⟩:Addr).add (0*4)).add 0)=some (I (q 0).po):=(hq 0 (by omega)).1 0 (by omega)
   have hspot:spot=none:=by have:=World.cell?_spot c01;simpa [Addr.add] using this
   subst hspot;have hadd:∀ (o j:Nat),(⟨b,o,none⟩:Addr).add j=⟨b,o+j,none⟩:=by intro o j;unfold Addr.add;split<;>simp_all
   refine ⟨_,(some ⟨b,off,none⟩,m,b,(List.range len).map q),hcs,?_,λ_=>rfl,λi a hi=>?_,λc hc=>?_⟩;simp
   .have hil:i<len:=by simpa using (Qc hi).1
    have ha:a=q i:=by simp[hil] at hi;exact hi.symm
    subst ha;have k0:=(hq i hil).1 0 (by omega);have k1:=(hq i hil).1 1 (by omega);have k2:=(hq i hil).1 2 (by omega);have k3:=(hq i hil).1 3 (by omega);rw[hadd,hadd] at k0 k1 k2 k3;exact ⟨k0,k1,k2,k3⟩
   .obtain ⟨i,hi,rfl⟩:=List.mem_map.1 hc
    exact (hq i (List.mem_range.1 hi)).2
theorem scripts_in {r:Reach}{b0:Nat}{d:DataW H}(hv:Value.okWide Tryd.prog w r b0 26 v) (h:DataW.Trod enc Tryd.prog w 0 (λ_=>true) true 26 v d ps) (hsz:∀ elems spare,d=.slice elems spare->(elems.length+spare.length)*Tryd.prog.bytesOf 45<=reachBytes):
 ∃ (p:Option Addr) (b o n cap:Nat) (pc:Nat->Option Addr) (ln cp rb:Nat->Nat) (cl:Nat->List Cl),v=.slice p n cap∧InS w p b o n pc ln cp rb cl:=by
 obtain ⟨a0,len0,cap0,rfl⟩:=okWide_slice Tryd.underlying26 hv;obtain ⟨fuel,hf⟩:=h;have nothing:∀ p cap,∃ (p':Option Addr) (b o n cap':Nat) (pc:Nat->Option Addr) (ln cp rb:Nat->Nat) (cl:Nat->List Cl),(Value.slice p 0 cap)=.slice p' n cap'∧InS w p' b o n pc ln cp rb cl:=λp cap =>⟨p,0,0,0,cap,λ_=>none,λ_=>0,λ_=>0,λ_=>0,λ_=>[],rfl,⟨λh=>by omega,λk hk=>by omega,λk hk=>by omega,λk hk=>by omega,λk hk=>by omega,λk hk=>by omega,Nat.zero_le _⟩⟩
 rcases open_slice Tryd.underlying26 hf with ⟨hcs,_⟩|⟨ad,len,cap,m,k,D,Pl,hcs,_,hl,hm,hmm,hxe,hx⟩
 .simp[Value.cells] at hcs
  obtain ⟨rfl,rfl,rfl⟩:=hcs;exact nothing _ _
 .simp[Value.cells] at hcs
  obtain ⟨rfl,rfl,rfl⟩:=hcs;simp only[if_true] at hmm;subst hmm;have hb:=hsz _ _ (congrArg Prod.fst hxe);rw[op_bytes37] at hb;simp only[List.length_map,List.length_range] at hb;have hlen:len0<=17592186043904:=by unfold reachBytes at hb;omega
  have each:∀ i,i<len0->∃ q:Option Addr×Nat×Nat×List Cl,∃ v,w.cell? ((ad.add (i*1)).add 0)=some v∧Sc w v q:=by intro i hi;obtain ⟨cs',h1,h2⟩:=hx i (by omega);rw[op_cells37] at h1;obtain ⟨_,hlen,hc⟩:=World.cells?_some h1;obtain ⟨v,q,rfl,hq⟩:=script_in h2;exact ⟨q,v,hc 0 (by omega),hq⟩
  have ie:Inhabited (Option Addr×Nat×Nat×List Cl):=⟨(none,0,0,[])⟩
  obtain ⟨q,hq⟩:=choose_lt each;obtain ⟨b,off,spot⟩:=ad;by_cases h0:len0=0
  .subst h0
   exact nothing _ _
  .obtain ⟨v0,hv0,_⟩:=hq 0 (by omega)
   have hspot:spot=none:=by have:=World.cell?_spot hv0;simpa [Addr.add] using this
   subst hspot;have hadd:∀ (o j:Nat),(⟨b,o,none⟩:Addr).add j=⟨b,o+j,none⟩:=by intro o j;unfold Addr.add;split<;>simp_all
   refine ⟨some ⟨b,off,none⟩,b,off,len0,_,λi=>(q i).1,λi=>(q i).2.2.2.length,λi=>(q i).2.1,λi=>(q i).2.2.1,λi=>(q i).2.2.2,rfl,⟨λ_=>rfl,λi hi=>?_,λ_ _=>rfl,λi hi h=>?_,λi hi k c hc=>?_,λi hi c hc=>?_,hlen⟩⟩
   .obtain ⟨v,h1,h2⟩:=hq i hi
    rw[hadd,hadd,Nat.mul_one,h2.1] at h1;exact h1
   .obtain ⟨v,h1,h2⟩:=hq i hi
    exact h2.2.1 h
   .obtain ⟨v,h1,h2⟩:=hq i hi
    exact h2.2.2.1 k c hc
   .obtain ⟨v,h1,h2⟩:=hq i hi
    exact h2.2.2.2 c hc
end
theorem grows_frame {w':World}(h:Grows W w') (may:MemPlace->Prop):W.keptBut w' may:=by refine ⟨h.os,h.output,λi hi=>?_⟩;rw[h.old i hi];split<;>simp_all
theorem grows_same {w':World}(h:Grows W w') {p:MemPlace}(hp:p.block<W.heap.size):W.sameAt w' p:=by
 cases p with
 |cell b o=>exact World.cell?_of_block (w:=W) (h.old b hp)
 |map b=>exact h.old b hp
theorem op_laid:laidOutB Tryd.prog=true:=by kernel_rfl
theorem grows_trod {H:Type}{enc:TypeId×Value->H}{t:TypeId}(hr:Tryd.prog.readableRec t=true) (hrow:t<Tryd.prog.types.size) {W':World}{d:DataW H}
 (h:DataW.Trod enc Tryd.prog W 0 (λ_=>true) true t v d ps) (hb:Grows W W') (hlt:∀ x∈ps,x.block<W.heap.size):
 DataW.Trod enc Tryd.prog W' 0 (λb=>decide (b<W.heap.size)) true t v d ps :=
 WideElems.Trod_stays op_laid hr hrow h (λx hx=>grows_same hb (hlt x hx)) (λx hx=>by simpa using hlt x hx)
end Go.Proofs.YtbbhahigofeacaaDoor.Gen
namespace Go.Proofs.YtbbhahigofeacaaDoor
open Go Go.Lift Go.Conc
open Go.ChangeShapes Go.WideShapes Go.ChangeAt Go.RowKit Go.Joins Go.Deep
open Gen
section
variable {H:Type}{enc:TypeId×Value->H}
theorem leaving_and {a:Assume}{C:Checked}{os:Os}{f:FuncId}{fn:Func}{s:ChangeSpec}{X:World->Array Value->Prop}
 (hX:∀ (w w':World) (args:Array Value),w.heap=w'.heap->X w args->X w' args)
 (own:ownKnob C.prog.godebug=none) (started:os.Started) (hfn:C.prog.funcs[f]? = some fn)
 (wit:∃ (w:World) (tape:Tape) (i:Input),w.os=os∧(w.forCall tape i).Shaped C.prog∧i.vars=[]∧Input.okWide C.prog (w.forCall tape i) .any w.heap.size f i ∧
   ((s.pre enc C.prog fn [] false (w.forCall tape i).memory i.args∧X (w.forCall tape i).memory i.args)∧sizedMet enc C.prog fn (OpenSpec.ofChange s) false (w.forCall tape i).memory i.args)∧a.holds C.prog (lone (Frame.enter C.prog f i.args .normal) [] (w.forCall tape i)))
 (runs:∀ (W:World) (base:Nat) (args:Array Value) (ds gs:List (DataW H)) (before:List MemPlace),
   (∀ (j:Nat) t v,fn.params[j]? = some t->args[j]? = some v->Value.okWide C.prog W .any base t v) ->
   DataW.Whole enc C.prog fn.params.toList s.vars false W args.toList ds gs before ->
   (DataW.weightsEach C.prog (fn.params.toList++s.plain.varTypes C.prog) (ds++gs)).all (·<=reachBytes)=true->X W args ->
   ∃ M last o w' t',runNT C.prog (M+1) (solo (G (Frame.enter C.prog f args .normal) []) W) #[]=(.ended o w',t')∧runN C.prog M (solo (G (Frame.enter C.prog f args .normal) []) W)=.next last ∧
     step C.prog last=.ended o w'∧Conc.Good C.prog (λv W'=>s.post enc C.prog fn false true false false W args v W') last o w' t'):
 ReturnsInLeavingWide a C os f .any (λw args=>(s.pre enc C.prog fn [] false w args∧X w args)∧sizedMet enc C.prog fn (OpenSpec.ofChange s) false w args) (s.post enc C.prog fn false true false false):=by
 refine returnsInLeavingWide_of_good own started wit ?_;intro w tape i _ _ _ hok hpre _;obtain ⟨_,_,_,fn',hfn',_,_,_,_,hval⟩:=hok;have e:fn'=fn:=Qd (hfn'.symm.trans hfn);subst e;obtain ⟨⟨⟨ds,gs,before,hw,hc⟩,hx⟩,hz⟩:=hpre;have hw':=DataW.Whole.of_heap (w':=w.forCall tape i) (by rfl) hw;obtain ⟨M,last,o,w',t',h1,h2,h3,h4⟩:=runs (w.forCall tape i) w.heap.size i.args ds gs before hval hw' (hz.weights hw) (hX _ _ _ (by rfl) hx);exact ⟨M,last,o,w',t',h1,h2,h3,h4.mono λv hp=>ChangeSpec.post_blind hp⟩
end
theorem fieldT0:(Tryd.prog.globals[0]?).map (·.type)=some 98:=by kernel_rfl
theorem fieldT1:(Tryd.prog.globals[1]?).map (·.type)=some 98:=by kernel_rfl
theorem fieldT2:(Tryd.prog.globals[2]?).map (·.type)=some 98:=by kernel_rfl
theorem fieldT3:(Tryd.prog.globals[3]?).map (·.type)=some 98:=by kernel_rfl
theorem cells98:Tryd.prog.cellsOf 98=2:=by kernel_rfl
theorem field_open {w:World}{fuel:Nat}{cs:List Value}{x y:Int}{p:List MemPlace}(h:DataW.trod (λ_=>()) Tryd.prog w 0 (λ_=>true) false fuel 98 cs=some (.agg [.lit (.int .i64 x),.lit (.int .i64 y)],p)):cs=[I x,I y]:=by
 obtain ⟨xs,k,hk,hxy,hl,hxl,hf⟩:=DataW.trod_struct Tryd.underlying98 h;rw[cells98] at hl
 match xs,hxl,cs,hl with
 | [y0,y1],_,[c0,c1],_ =>have g0:=hf 0 _ rfl;have g1:=hf 1 _ rfl;simp[op_cells3] at g0 g1;obtain ⟨a0,e0,f0,_⟩:=DataW.trod_int Tryd.underlying3 g0;obtain ⟨a1,e1,f1,_⟩:=DataW.trod_int Tryd.underlying3 g1;simp at e0 e1;subst e0 e1 f0 f1;simp at hxy;obtain ⟨⟨rfl,rfl⟩,_⟩:=hxy;rfl
theorem var_row {w:World}{n:String}{g:Nat}{cs:Array Value}(hg:Tryd.prog.globalNamed n=some g) (h:w.var? Tryd.prog n=some cs):∃ t f,w.heap[g]? = some (.cells cs t f):=by
 simp only[World.var?,hg,Option.bind_some] at h;split at h
 .rename_i c t f e
  cases h;exact ⟨t,f,e⟩
 cases h
abbrev laidC : List (String × DataW Unit) := [("butler/slots.fieldFirst", Rows.laid_butler_slots_fieldFirst), ("butler/slots.fieldVersion", Rows.laid_butler_slots_fieldVersion), ("butler/stack.fieldTop", Rows.laid_butler_stack_fieldTop), ("butler/stack.fieldVersion", Rows.laid_butler_stack_fieldVersion)]
theorem gV0 : Tryd.prog.globalNamed "butler/slots.fieldFirst" = some 0 := by kernel_rfl
theorem gV1 : Tryd.prog.globalNamed "butler/slots.fieldVersion" = some 1 := by kernel_rfl
theorem gV2 : Tryd.prog.globalNamed "butler/stack.fieldTop" = some 2 := by kernel_rfl
theorem gV3 : Tryd.prog.globalNamed "butler/stack.fieldVersion" = some 3 := by kernel_rfl
theorem gl_laid {W:World}(h:laidMetH Tryd.prog laidC W):Gl W:=by
 have h':laidMet Tryd.prog laidC W:=h;obtain ⟨ps,hv,_,_⟩:=h';obtain ⟨g0,t0,cs0,fuel0,p0,q0,e10,e20,e30,e40,hr0,rfl⟩:=hv;obtain ⟨g1,t1,cs1,fuel1,p1,q1,e11,e21,e31,e41,hr1,rfl⟩:=hr0;obtain ⟨g2,t2,cs2,fuel2,p2,q2,e12,e22,e32,e42,hr2,rfl⟩:=hr1;obtain ⟨g3,t3,cs3,fuel3,p3,q3,e13,e23,e33,e43,hr3,rfl⟩:=hr2;obtain rfl:=Qd (gV0.symm.trans e10);obtain rfl:=Qd (gV1.symm.trans e11);obtain rfl:=Qd (gV2.symm.trans e12);obtain rfl:=Qd (gV3.symm.trans e13);obtain rfl:=Qd (fieldT0.symm.trans e20);obtain rfl:=Qd (fieldT1.symm.trans e21);obtain rfl:=Qd (fieldT2.symm.trans e22);obtain rfl:=Qd (fieldT3.symm.trans e23);have f0:=field_open e40;have f1:=field_open e41;have f2:=field_open e42;have f3:=field_open e43;obtain ⟨ty0,fz0,r0⟩:=var_row gV0 e30;obtain ⟨ty1,fz1,r1⟩:=var_row gV1 e31;obtain ⟨ty2,fz2,r2⟩:=var_row gV2 e32;obtain ⟨ty3,fz3,r3⟩:=var_row gV3 e33;have c0:cs0=#[I 0,I 32]:=by rw[<-f0]
 have c1:cs1=#[I 32,I 30]:=by rw[<-f1]
 have c2:cs2=#[I 0,I 32]:=by rw[<-f2]
 have c3:cs3=#[I 32,I 30]:=by rw[<-f3]
 subst c0 c1 c2 c3;exact ⟨⟨_,_,_,r0,rfl,rfl⟩,⟨_,_,_,r1,rfl,rfl⟩,⟨_,_,_,r2,rfl,rfl⟩,⟨_,_,_,r3,rfl,rfl⟩⟩
def laidW8 (os:Os):World:=World.laidAll Tryd.prog os laidC
theorem laidW8_met (os:Os) (args:Array Value):laidMetH Tryd.prog laidC ((laidW8 os).forCall (λ_ _=>0) ⟨#[],args,[]⟩).memory:=laidMet_laidAll (laid:=laidC) args (by kernel_rfl) (by kernel_rfl)
theorem stackLinear_lifted (os:Os) (started:os.Started) (H:Type) (enc:TypeId×Value->H):
 ReturnsInLeavingWide {} Tryd.checked os 8 .any (λw args=>(Rows.stackLinearSpec.pre enc Tryd.prog Tryd.f8 [] false w args∧laidMetH Tryd.prog laidC w)∧sizedMet enc Tryd.prog Tryd.f8 (OpenSpec.ofChange Rows.stackLinearSpec) false w args) (Rows.stackLinearSpec.post enc Tryd.prog Tryd.f8 false true false false):=by
 refine leaving_and (C:=Tryd.checked) (X:=λw _=>laidMetH Tryd.prog laidC w) (λ_ _ _ hh h=>laidMet.of_heap (l:=laidC) hh h) op_knob started Tryd.func8
  (ChangeSpec.witness_at (enc:=enc) (C:=Tryd.checked) (os:=os) (X:=λw _=>laidMetH Tryd.prog laidC w) false (laidW8 os) #[.slice none 0 0,.int .i64 0,.slice none 0 0] 8 (World.laidAll_os _ _ _) (by kernel_rfl) (by kernel_rfl) (by kernel_rfl) (by kernel_rfl) (by kernel_rfl) (laidW8_met os _)) ?_
 intro W base args ds gs before hval0 hW hsz0 hL;have hval:∀ (j:Nat) t v,Tryd.f8.params[j]? = some t->args[j]? = some v->Value.okWide Tryd.prog W .any base t v:=hval0;have hW':=hW;obtain ⟨p,q,hA0,hV,rfl,_,_⟩:=hW;have hA:DataW.TrodAll enc Tryd.prog W 0 (λ_=>true) true Tryd.f8.params.toList args.toList ds p:=hA0;have hsz:(DataW.weightsEach Tryd.prog (Tryd.f8.params.toList++Rows.stackLinearSpec.plain.varTypes Tryd.prog) (ds++gs)).all (·<=reachBytes)=true:=hsz0;rw[Tryd.params8] at hA hval hsz;obtain ⟨v0,vs0,d0,ds0,p0,q0,hargs,rfl,rfl,h0,r0⟩:=trodAll_cons hA;obtain ⟨v1,vs1,d1,ds1,p1,q1,rfl,rfl,rfl,h1,r1⟩:=trodAll_cons r0;obtain ⟨v2,vs2,d2,ds2,p2,q2,rfl,rfl,rfl,h2,r2⟩:=trodAll_cons r1;obtain ⟨rfl,rfl,rfl⟩:=trodAll_nil r2;obtain rfl:args=#[v0,v1,v2]:=by cases args;simp_all
 obtain ⟨rfl,rfl⟩:=trodVars_none hV;have k0:=h0;have k1:=h1;have k2:=h2;have lt0:∀ x∈p0,x.block<W.heap.size:=by obtain ⟨m,hm⟩:=k0;exact DataW.trod_lt m _ _ _ hm
 have lt1:∀ x∈p1,x.block<W.heap.size:=by obtain ⟨m,hm⟩:=k1;exact DataW.trod_lt m _ _ _ hm
 have lt2:∀ x∈p2,x.block<W.heap.size:=by obtain ⟨m,hm⟩:=k2;exact DataW.trod_lt m _ _ _ hm
 obtain ⟨sp,scap,sb,so,sched,e0,hS⟩:=ints_in (hval 0 25 v0 rfl rfl) h0 (λel sp e=>sized_slice hsz (j:=0) rfl (by rw[e];rfl) Tryd.underlying25);obtain ⟨x0,hx0,j1,j2,j3⟩:=open_int Tryd.underlying3 (hval 1 3 v1 rfl rfl) h1;obtain ⟨cp0,b,o,n,cap,pc,ln,cp,rb,cl,e2,hC⟩:=scripts_in (hval 2 26 v2 rfl rfl) h2 (λel sp e=>sized_slice hsz (j:=2) rfl (by rw[e];rfl) Tryd.underlying26);clear hA0 hval0 hsz0;subst e0 hx0 e2;simp only[List.append_nil] at hW';obtain ⟨M,last,o',w',t',g1,g2,g3,g4⟩:=run8 (scap:=scap) (cap:=cap) W (gl_laid hL) x0 hS hC;refine ⟨M,last,o',w',t',g1,g2,g3,g4.mono λv hF=>?_⟩;obtain ⟨rfl,bel⟩:PostT W v w':=hF;exact ⟨_,_,_,[],_,[],hW',trodAll_mk1 (shut_bool Tryd.underlying4 _),
  (trodAll_cons_mk (grows_trod (by kernel_rfl) (of_decide_eq_true (by kernel_rfl)) k0 bel lt0)
  (trodAll_cons_mk (grows_trod (by kernel_rfl) (of_decide_eq_true (by kernel_rfl)) k1 bel lt1)
  (trodAll_cons_mk (grows_trod (by kernel_rfl) (of_decide_eq_true (by kernel_rfl)) k2 bel lt2) trodAll_mk0))),rfl,grows_frame bel _,λh=>by cases h⟩
theorem stackLinear_holds:Rows.StackLinearSaid :=
 OpenClaim.holds_of_wide_leaving 8 Tryd.f8 rfl rfl rfl rfl rfl rfl rfl ⟨rfl,rfl,rfl,rfl,rfl⟩ rfl rfl rfl rfl rfl (by kernel_rfl) Tryd.func8 (by kernel_rfl)
  (of_decide_eq_true (by kernel_rfl)) (by unfold Func.isWrapper;first|(rw[if_pos (by decide +kernel)];kernel_rfl)|(rw[if_neg (by decide +kernel)];exact ⟨rfl,rfl⟩))
  (λos started H enc _=>stackLinear_lifted os started H enc)
end Go.Proofs.YtbbhahigofeacaaDoor
namespace Go.Proofs.YtbbhahigofeacaaDoor
open Go
theorem card_goes8 {p:Pinned}{s:OpenSpec}{c:OpenClaim}{kinds:List LaidKind}{tests:Bool}{har:Bool×String}{lk:Bool}(Lk:Looks)
 (hc:c.holds p s) (hw:c.wfByText s=true) (htie:c.laidByTextAt Lk p kinds tests)
 (hst:c.start=.entering) (hnb:c.noBlocks=false∧c.again=false) (hm:p.checked.prog.mainIs=some (har.1,har.2.toList)) (hn:(!har.1&&har.2.isEmpty&&!lk)=false)
 (hl:∀ f fn,p.checked.prog.funcNamed c.func=some f->p.checked.prog.funcs[f]? = some fn->lk=p.checked.prog.looks []∧∀ (j:Nat) t,fn.params[j]? = some t->p.checked.prog.wantsStandIn t=false)
 (hg:true=c.goesBy p.checked.prog):
 Claim7.holds p (.plain s) { stood:={ row:=c,standIns:=[],harness:=har,looks:=lk },kinds:=[],alts:=[],goes:=true,laidByText:=true,laidKinds:=kinds,laidTests:=tests,laidLooks:=Lk }:=by
 have h6:Claim7.isSixth { stood:={ row:=c,standIns:=[],harness:=har,looks:=lk },kinds:=[] }=false:=by simpa [Claim7.isSixth] using hn
 have h1:=Claim7.new_of_sixth hc har lk hst hnb hm h6 hl;obtain ⟨_,rest⟩:=h1;exact ⟨⟨hw,rest⟩,λD hD=>(by cases hD),htie,(λh=>by cases h),hg⟩
theorem stackLinear_card:Rows.StackLinearCardSaid :=
 card_goes8 .later stackLinear_holds (by kernel_rfl) stackLinear_row_tie rfl ⟨rfl,rfl⟩ (by kernel_rfl) rfl
  (fun f fn hf hfn=>by
    obtain rfl : f = 8 := Qd ((show Tryd.prog.funcNamed "butler/butlerlaw09.StackLinear" = some 8 by kernel_rfl).symm.trans hf) |>.symm
    obtain rfl:fn=Tryd.f8:=(Qd (Tryd.func8.symm.trans hfn)).symm;exact ⟨by kernel_rfl,λj t ht=>by
     rw[Tryd.params8] at ht;have hm:t∈[25,3,26]:=by simpa using Array.mem_of_getElem? ht
     have hall:([25,3,26].all λu=>!Tryd.prog.wantsStandIn u)=true:=by kernel_rfl
     exact (show Tryd.prog.wantsStandIn t=false by simpa using List.all_eq_true.1 hall t hm)⟩)
  (by kernel_rfl)
#print axioms stackLinear_card
end Go.Proofs.YtbbhahigofeacaaDoor
