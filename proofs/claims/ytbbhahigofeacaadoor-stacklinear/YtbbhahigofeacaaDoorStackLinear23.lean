/- StackLinear, part 23 of 32: Cas, GReg, StCh, StTk, StGv. -/
import Derived.Test.YtbbhahigofeacaaDoorStackLinear01
import Derived.Test.YtbbhahigofeacaaDoorStackLinear04
import Derived.Test.YtbbhahigofeacaaDoorStackLinear05
import Derived.Test.YtbbhahigofeacaaDoorStackLinear09
import Derived.Test.YtbbhahigofeacaaDoorStackLinear22
import Derived.BigQuiet
set_option linter.unusedSimpArgs false
set_option linter.unusedVariables false
set_option maxHeartbeats 4000000
set_option maxRecDepth 100000
noncomputable section
namespace Go.Proofs.YtbbhahigofeacaaDoor
open Go Go.Lift Go.Conc Go.RowKit
def Bn (a y x:Int):(Int×Int)×Int×Value:=if x=a then ((a,y),y,.bool true) else ((x,x),x,.bool false)
def rest14:Code:=seq2 (seq2 (Tryd.f48.body.getD .skip))
theorem fine14:A7 Tryd.prog true LT rest14:=Dk C9 extT (by kernel_rfl)
theorem tail14 {z:Nat->Option Nat}{S:TS}{K:List (Nat×Int)}{v:World}{i j cb:Nat}{t:Thr}{x:Int}{a y:Int}(hm:Mem z S K v) (ht:S.thr[i]? = some t) (hK:K[j]? = some (cb,x)) (hn:(S.n+1)*40<=140737488355328) (a10 a11 a12 a13 a14 a15:Value):
 rest14.wp Tryd.prog (bodyPost Tryd.prog Tryd.f48 (λe w'=>∃ r,e=.returned r∧(r=(Bn a y x).2.2∧∃ tv,Evo z S K v (didS S tv i t (Bn a y x).1.1 (Bn a y x).1.2) (K.set j (cb,(Bn a y x).2.1)) w')))
  { tmps:=#[Pt cb 0,Pt t.tb 0,I a,I y,undef,undef,undef,undef,.bool false,undef,a10,a11,a12,a13,a14,a15,undef,undef,undef,undef,undef,undef,undef,undef,undef,undef,undef,undef,undef,undef,undef,undef,undef,undef],defers:=[] } v:=by
 obtain ⟨_,c1,f1⟩:=hm.cells hK;have HM:Hid (Mem z S K v):=⟨hm⟩
 by_cases hx:x=a
 .subst hx
  have HW:Hid (Evo z S K v S (K.set j (cb,y)) (v.setCell ⟨cb,1,none⟩ (I y))):=⟨Evo.write hm hK _⟩
  have HQ:Hid (Bn x y x=((x,y),y,.bool true)):=⟨by simp[Bn]⟩
  rw[HQ.out];clear hm hK;simp only at c1 f1;show Code.wp Tryd.prog (seq2 (seq2 (Tryd.f48.body.getD .skip))) _ _ _;unfold Tryd.f48 seq2;simp only[Qa]
  go_wp2_with (first
   |(go_at_call 72;refine ((body28 cb x y _ c1 f1).calls Tryd.func72 rfl).mono ?_;rintro e w1 ⟨_,rfl,rfl,rfl⟩)
   |(go_at_call 69;refine ((body27 HW.out.mem.rep ht x y hn).calls Tryd.func69 rfl).mono ?_;rintro e w2 ⟨_,rfl,rfl,tv,hev⟩))
  go_ret;exact ⟨_,rfl,rfl,tv,HW.out.did hev⟩
 have HW:Hid (Evo z S K v S (K.set j (cb,x)) v):=⟨by rw[set_same hK];exact Evo.refl hm⟩
 have HQ:Hid (Bn a y x=((x,x),x,.bool false)):=⟨by simp[Bn,hx]⟩
 rw[HQ.out];clear hm hK;simp only at c1 f1;show Code.wp Tryd.prog (seq2 (seq2 (Tryd.f48.body.getD .skip))) _ _ _;unfold Tryd.f48 seq2;simp only[Qa]
 go_wp2_with (first
  |(go_at_call 72;refine ((body28n cb x a y _ c1 f1 hx).calls Tryd.func72 rfl).mono ?_;rintro e w1 ⟨_,rfl,rfl,rfl⟩)
  |(go_at_call 68;refine ((body29 cb x _ c1).calls Tryd.func68 rfl).mono ?_;rintro e w1 ⟨_,rfl,rfl,rfl⟩)
  |(go_at_call 69;refine ((body27 HW.out.mem.rep ht x x hn).calls Tryd.func69 rfl).mono ?_;rintro e w2 ⟨_,rfl,rfl,tv,hev⟩))
 go_ret;exact ⟨_,rfl,rfl,tv,HW.out.did hev⟩
theorem res14 (tmps:Array Value):∃ v,(∀ w,(results Tryd.f48 tmps).run Tryd.prog w=.ok v w)∧∀ w,(results Tryd.f48 tmps).events Tryd.prog w #[]=#[] :=
 ⟨_,λ_=>results_tmp rfl _ _ _,λ_=>by simp[results,go_sem]⟩
theorem cas_goes {z:Nat->Option Nat}{Ch:Nat->Prop}{Stop:Goroutine->World->Prop}{h:Nat}{cont:Addr->Value}{S:TS}{K:List (Nat×Int)}{v w:World}{i j cb:Nat}{t:Thr}(a y:Int) (x:Int) (cs:List Frame) (Hm:Goroutine->Prop) {bc:Frame}{ac:Act}{ops:Array Oper}{q:Nat}{rest:List Nat}{oc:Oper}{k:List Item}(hoc:ops[q]? = some oc)
 (hH:∀ g,Eg (h==0) i j cb t.tb 4 (Bn a y) (λr=>G (bc.at (ac.put oc.dst r) (.inRegion ops rest :: k)) cs) g->Hm g)
 (hvw:Rel z v w) (hn:Ai Ch v) (hm:Mem z S K v) (ht:S.thr[i]? = some t) (hK:K[j]? = some (cb,x)) (hz:z t.tb=some 2) (hcont:cont ⟨t.tb,2,none⟩=.chan (some t.gc))
 (hstop:∀ g w',Fq z cont h S.bk t.gc Hm (Then z Ch S K v (waiting S i t 1 4 j) K) g w'->Stop g w') (code:Code) (hc:Tryd.f48.body=some code):
 GoT z (h==0) Ch Stop (G ((base 48).at { tmps:=#[Pt cb 0,Pt t.tb 0,I a,I y]++Array.replicate 30 undef,defers:=[] } [.code code]) (bc.at ac (.inRegion ops (q :: rest) :: k) :: cs)) w:=by
 obtain rfl:=Qd hc;clear hc;have e0:w.cell? ⟨cb,0,none⟩=some (I j):=by rw[hvw.cell?];exact (hm.cells hK).1
 simp only[Sy];have HM:Hid (Mem z S K v):=⟨hm⟩
 clear hm;refine Ab ?_;refine Ac ?_;simp only[Sz,Sr,Nat.reduceAdd]
 (refine Ad rfl rfl (by decide) rfl λd K hK=>?_
  go_simp;refine hK _ ?_;clear hK K)
 refine Aa ?_;refine Ab ?_;refine Ac ?_;simp only[Sz,Sr,Nat.reduceAdd];iterate 5
  (refine Ad rfl rfl (by decide) rfl λd K hK=>?_
   go_simp;refine hK _ ?_;clear hK K)
 refine Ao (f:=67) (fn:=Tryd.f67) (args:=#[Pt t.tb 0,I j,I 4]) (Ag _ _) rfl rfl (by decide) rfl (by simp[Act.eval]) Tryd.func67 (by decide) rfl ?_;refine turn_mem 4 j _ Hm rfl (λg hg=>hH g ?_) hvw hn HM.out ht hz hcont hstop _ rfl;intro z1 Ch1 St yy w1 v1 S1 K1 t1 x1 r1 n1 m1 h1 htb hop hce hK1 hn1 hk;refine hg _ St yy w1 (Ag _ _) ?_;refine Aa ?_;rw[<-htb];refine Ho (f:=48) (fn:=Tryd.f48) (c:=rest14) hE Dn r1 n1 Tryd.func48 fine14 rfl hoc res14 (λτ=>?_) (λr v' w' hR hr' hn'=>?_) (R:=λr w'=>r=(Bn a y x1).2.2∧∃ tv,Evo z1 S1 K1 v1 (didS S1 tv i t1 (Bn a y x1).1.1 (Bn a y x1).1.2) (K1.set j (cb,(Bn a y x1).2.1)) w');refine wp_mono (tail14 (m1.same (v':=Ap v1 τ 0) rfl) h1 hK1 hn1 _ _ _ _ _ _) (Dm λr u hq=>⟨hq.1,hq.2.choose,hq.2.choose_spec.base rfl rfl rfl⟩)
 .obtain ⟨rfl,tv,he⟩:=hR
  exact hk v' w' tv hr' hn' he
end Go.Proofs.YtbbhahigofeacaaDoor
namespace Go.Proofs.YtbbhahigofeacaaDoor.Gen
open Go Go.Lift Go.Conc Go.RowKit
variable {i:Nat} {o:Oper}
def putN (a:Act) (d:Nat) (val:Nat->Value):Nat->Act
 |0=>a
 |n+1=>(putN a d val n).put (some (d+n)) (val n)
theorem Gp (a:Act) (d:Nat) (val:Nat->Value):∀ n,(putN a d val n).defers=a.defers
 |0=>rfl
 |n+1=>Gp a d val n
theorem Hk (a:Act) (d:Nat) (val:Nat->Value):∀ n,(putN a d val n).tmps.size=a.tmps.size
 |0=>rfl
 |n+1=>by show ((putN a d val n).tmps.setIfInBounds (d+n) (val n)).size=_;rw[Array.size_setIfInBounds,Hk a d val n]
theorem Br (a:Act) (d:Nat) (val:Nat->Value) (t:Nat):∀ n,d+n<=a.tmps.size->(putN a d val n).tmps[t]? = if d<=t∧t<d+n then some (val (t - d)) else a.tmps[t]?
 |0,_=>by rw[if_neg (by omega)];rfl
 |n+1,h=>by
  show ((putN a d val n).tmps.setIfInBounds (d+n) (val n))[t]? = _;have hs:d+n<(putN a d val n).tmps.size:=by rw[Hk];omega
  rw[Array.getElem?_setIfInBounds];by_cases e:d+n=t
  .subst e
   rw[if_pos rfl,if_pos hs,if_pos (by omega)];rw[show d+n - d=n by omega]
  .rw[if_neg e,Br a d val t n (by omega)]
   by_cases h1:d<=t∧t<d+n;rw[if_pos h1,if_pos (by omega)];rw[if_neg h1,if_neg (by omega)]
def oneWay (md:Region.Mode) (ops:Array Oper) (n:Nat):Bool:=(List.range ops.size).all λm=>decide (m<n)||(Region.ready md ops (Cj ops.size m)==[m])
theorem listedN_set {s n:Nat}:(Cj s n).setIfInBounds n true=Cj s (n+1):=by
 apply Array.ext_getElem?;intro j;rw[Array.getElem?_setIfInBounds];have hsz:(Cj s n).size=s:=by simp[Cj]
 by_cases hj:j<s
 .rw[Ie hj,Ie hj]
  by_cases e:n=j
  .subst e
   rw[if_pos rfl,if_pos (by omega)];simp
  .rw[if_neg e]
   congr 1
   simp only[decide_eq_decide];omega
 .have h1:(Cj s (n+1))[j]? = none:=Array.getElem?_eq_none (by have:(Cj s (n+1)).size=s:=by simp[Cj]
                                                              omega)
  have h2:(Cj s n)[j]? = none:=Array.getElem?_eq_none (by omega);rw[h1,h2];split
  .rename_i e
   rw[if_neg (by omega)]
  rfl
theorem one_way {md:Region.Mode}{ops:Array Oper}:∀ (k n t:Nat),oneWay md ops n=true->n+k=ops.size->Region.linearise.go md ops k t (Cj ops.size n) []=List.range' n k
 |0,n,t,_,_=>rfl
 |k+1,n,t,h,hk=>by
  have hr:Region.ready md ops (Cj ops.size n)=[n]:=by unfold oneWay at h;rw[List.all_eq_true] at h;have:=h n (List.mem_range.2 (by omega));simpa using this
  have h':oneWay md ops (n+1)=true:=by unfold oneWay at h ⊢;rw[List.all_eq_true] at h ⊢;intro m hm;have:=h m hm;simp only[Bool.or_eq_true,decide_eq_true_eq] at this ⊢;rcases this with h1|h1;left;omega;exact .inr h1
  simp only[Region.linearise.go];change (match (Region.ready md ops (Cj ops.size n))[t % (Region.ready md ops (Cj ops.size n)).length]? with
   |some i=>Region.linearise.go md ops k (t / (Region.ready md ops (Cj ops.size n)).length) ((Cj ops.size n).setIfInBounds i true) [i]
   |none=>[].reverse)=_
  rw[hr];simp only[List.length_cons,List.length_nil,Nat.zero_add,Nat.mod_one,List.getElem?_cons_zero];rw[linearise_go_acc,List.reverse_singleton,List.singleton_append,listedN_set,one_way k (n+1) _ h' (by omega)];rfl
def depOn (ops:Array Oper) (i j:Nat):Bool:=((ops[i]?).map (λo=>o.after.toList.any λe=>e.on==j&&Region.binds .any e))==some true
def regOk (ops:Array Oper) (n d:Nat):Bool :=
 leadsOn .any ops n&&inText .any ops n&&oneWay .any ops n&&decide (n<ops.size)&&((List.range n).all λi=>(ops[i]?).map (·.dst)==some (some (d+i)))&&((List.range (n+1)).all λi=>(ops[i]?).map (·.guard.isNone)==some true)
section
variable {z:Nat->Option Nat}{Ch:Nat->Prop}{Stop:Goroutine->World->Prop}{main:Bool}{b:Frame}{k:List Item}{cs:List Frame}{ops:Array Oper}{n d id:Nat}{val:Nat->Value}{a0:Act}{v w:World}
theorem grefl (v:World):Grows v v:=⟨Qi _,λ_ _=>rfl,rfl,rfl⟩
theorem gtrans {v v' v'':World}(h:Grows v v') (k:Grows v' v''):Grows v v'':=⟨Qk h.size k.size,λb hb=>(k.old b (Qp hb h.size)).trans (h.old b hb),k.os.trans h.os,k.output.trans h.output⟩
theorem region_in (hreg:regOk ops n d=true) (hsz:d+n<=a0.tmps.size) (hvw:Rel z v w) (hn:Ai Ch v)
 (hop:∀ (i:Nat) (o:Oper) (rest:List Nat) (a:Act) (v1 w1:World),i<n->ops[i]? = some o->Region.wanted o (yielded ops a.tmps)=true->(∀ j,j<n->depOn ops i j=true->a.eval (.tmp (d+j))=val j)->(∀ t,t<d->a.eval (.tmp t)=a0.eval (.tmp t))->Rel z v1 w1->Ai Ch v1->Grows v v1 ->
   (∀ v2 w2,Rel z v2 w2->Ai Ch v2->Grows v1 v2->GoT z main Ch Stop (G (b.at (a.put o.dst (val i)) (.inRegion ops rest :: k)) cs) w2) ->
   GoT z main Ch Stop (G (b.at a (.inRegion ops (i :: rest) :: k)) cs) w1)
 (hN:∀ v1 w1 o,ops[n]? = some o->(∀ y,Region.wanted o y=true)->Rel z v1 w1->Ai Ch v1->Grows v v1->GoT z main Ch Stop (G (b.at (putN a0 d val n) (.inRegion ops (List.range' n (ops.size - n)):: k)) cs) w1):
 GoT z main Ch Stop (G (b.at a0 (.code (.region id ops true) :: k)) cs) w:=by
 unfold regOk at hreg;simp only[Bool.and_eq_true,decide_eq_true_eq] at hreg;obtain ⟨⟨⟨⟨⟨h1,h2⟩,h3⟩,h4⟩,h5⟩,h6⟩:=hreg;have hdst:∀ (i:Nat),i<n->∀ o,ops[i]? = some o->o.dst=some (d+i):=λi hi o ho=>by have:=(List.all_eq_true.1 h5) i (List.mem_range.2 hi);rw[ho] at this;simpa using this
 have hgd:∀ (i:Nat),i<n+1->∀ o,ops[i]? = some o->o.guard=none:=λi hi o ho=>by have:=(List.all_eq_true.1 h6) i (List.mem_range.2 hi);rw[ho] at this;simpa using this
 refine Jh (n:=n) (val:=val) (J:=λw=>∃ v1,Rel z v1 w∧Ai Ch v1∧Grows v v1) mix21 (λw d ⟨v1,hJ,hJ2⟩=>⟨v1,hJ.re rfl rfl rfl rfl rfl rfl,hJ2⟩) (λw=>dt_draw _ _ w) h1 h2 (on:=ops[n]'h4) (Qm h4) ?_ ?_ ?_ (putN a0 d val n) ?_ ?_ ⟨v,hvw,hn,grefl v⟩
 .intro i j oi oj t hi hj hoi hoj hti htj
  rw[hdst i hi oi hoi] at hti;rw[hdst j hj oj hoj] at htj;have e:d+i=d+j:=(Qd hti).trans (Qd htj).symm;omega
 .intro i o t hi ho ht
  rw[hdst i hi o ho] at ht;have e:d+i=t:=Qd ht;subst e;show d+i<a0.tmps.size;omega
 .intro i o rest listed a w1 hi ho hdep hagr ⟨v1,r1,n1,g1⟩ hgo
  refine hop i o rest a v1 w1 hi ho (by simp[Region.wanted,hgd i (by omega) o ho]) (λj hj hd=>?_) (λt ht=>?_) r1 n1 g1 (λv2 w2 r2 n2 g2=>hgo w2 ⟨v2,r2,n2,gtrans g1 g2⟩)
  .have hjs:j<ops.size:=by omega
   refine hagr.eval hj (o:=ops[j]) (Qm hjs) ?_ (hdst j hj _ (Qm hjs));unfold depOn at hd;rw[ho] at hd;simp only[Option.map_some,beq_iff_eq,Option.some.injEq,List.any_eq_true,Bool.and_eq_true] at hd;obtain ⟨e,he,e1,e2⟩:=hd;rw[<-e1];exact hdep e he e2
  .refine hagr.eval0 (λj o hj ho e=>?_)
   rw[hdst j hj o ho] at e;have:d+j=t:=Qd e;subst this;exact absurd ht (by show ¬ d+j<d;omega)
 .refine ⟨Gp a0 d val n,Hk a0 d val n,λj o t hj ho _ ht=>?_,λt ht=>?_⟩
  .rw[hdst j hj o ho] at ht
   have e:d+j=t:=Qd ht;subst e;rw[Br a0 d val _ n hsz,if_pos (by omega),show d+j - d=j by omega]
  .rw[Br a0 d val _ n hsz,if_neg]
   rintro ⟨q1,q2⟩;obtain ⟨t,rfl⟩:∃ t':Nat,t'=t:=⟨t,rfl⟩
   have hjs:t - d<ops.size:=by omega
   refine ht (t - d) (ops[t - d]) (by omega) (Qm hjs) ?_ ?_
   .rw[Qe,Ie hjs]
    simp;omega
   .rw[hdst (t - d) (by omega) _ (Qm hjs)]
    exact congrArg some (show d+(t - d)=t by omega)
 .rintro t w1 ⟨v1,r1,n1,g1⟩
  rw[one_way (ops.size - n) n t h3 (by omega)];exact hN v1 w1 (ops[n]'h4) (Qm h4) (λy=>by simp[Region.wanted,hgd n (by omega) _ (Qm h4)]) r1 n1 g1
theorem Bg {m:Nat}(h:((ops.extract 0 m).all λo=>E5 Tryd.prog true o.op||H8 Dh Jr o.op)=true) (hi:i<m) (ho:ops[i]? = some o):Ek Tryd.prog true LT o:=by
 refine Bh C9 extT ((Array.all_eq_true_iff_forall_mem.1 h) o ?_);have:(ops.extract 0 m)[i]? = some o:=by have hs:=(Qb ho).1;rw[Array.getElem?_extract,if_pos (by omega)];simpa using ho
 exact Array.mem_of_getElem? this
theorem Bf {rest:List Nat}{a:Act}{v1 w1:World}(ho:ops[i]? = some o) (hw:Region.wanted o (yielded ops a.tmps)=true) (hk:b.kind≠.early) {p:Op}(hp:(ops[i]?).map (·.op)=some p) (hf:Ek Tryd.prog true LT o) (hr:Rel z v1 w1) (hn:Ai Ch v1) {x:Value}(hx:val i=x)
 (hrun:∀ o':Oper,o'.op=p->(execOp a.eval o').run Tryd.prog v1=.ok (.value x) v1)
 (hk2:∀ v2 w2,Rel z v2 w2->Ai Ch v2->Grows v1 v2->GoT z main Ch Stop (G (b.at (a.put o.dst (val i)) (.inRegion ops rest :: k)) cs) w2):
 GoT z main Ch Stop (G (b.at a (.inRegion ops (i :: rest) :: k)) cs) w1:=by
 have e:o.op=p:=by rw[ho] at hp;exact Qd hp
 refine Cf ho hw hk hf hr hn (hrun o e) rfl (λw2 hr2 hn2=>?_);rw[<-hx];exact hk2 v1 w2 hr2 hn2 (grefl v1)
theorem Kz {rest:List Nat}{a:Act}{v1 w1:World}{f:FuncId}{fn:Func}{c:Code}{xs:Array Operand}{ats:Array TypeId}{args:Array Value}(ho:ops[i]? = some o) (hw:Region.wanted o (yielded ops a.tmps)=true) (hk:b.kind≠.early) (hp:(ops[i]?).map (·.op)=some (.call { callee:=.value (.func f),args:=xs,argTypes:=ats })) (ha:xs.map a.eval=args)
 (hf : Tryd.prog.funcs[f]? = some fn) (hname : (fn.name == "runtime.NumGoroutine") = false) (hb : fn.body = some c) (hc : A7 Tryd.prog true LT c)
 (hres:∀ tmps,∃ v,(∀ w,(results fn tmps).run Tryd.prog w=.ok v w)∧∀ w,(results fn tmps).events Tryd.prog w #[]=#[])
 (hr:Rel z v1 w1) (hn:Ai Ch v1) {x:Value} (hx:val i=x)
 (hwp:∀ τ,c.wp Tryd.prog (bodyPost Tryd.prog fn (λe w'=>∃ v,e=.returned v∧v=x∧Grows v1 w')) { tmps:=args++Array.replicate (fn.ntmps - args.size) undef,defers:=[] } (Ap v1 τ 0))
 (hk2:∀ v2 w2,Rel z v2 w2->Ai Ch v2->Grows v1 v2->GoT z main Ch Stop (G (b.at (a.put o.dst (val i)) (.inRegion ops rest :: k)) cs) w2):
 GoT z main Ch Stop (G (b.at a (.inRegion ops (i :: rest) :: k)) cs) w1:=by
 have e:o.op=.call { callee:=.value (.func f),args:=xs,argTypes:=ats }:=by rw[ho] at hp;exact Qd hp
 refine Ed (f:=f) (fn:=fn) (args:=args) hE Dn ho hw hk e ha hf hname hb hc hres hr hn (R:=λr u=>r=x∧Grows v1 u) hwp (λr u w2 hR hr2 hn2=>?_);rw[hR.1,<-hx];exact hk2 u w2 hr2 hn2 hR.2
end
end Go.Proofs.YtbbhahigofeacaaDoor.Gen
namespace Go.Proofs.YtbbhahigofeacaaDoor.Gen
open Go Go.Lift Go.Conc Go.RowKit
open R1 (fstI verI hdI)
variable {P:Program} {main:Bool} {b bc:Frame} {a ac:Act} {cb h i j k n q s sb tb:Nat} {cs:List Frame} {v w:World} {Stop:Goroutine->World->Prop} {z:Nat->Option Nat} {Ch:Nat->Prop} {cont:Addr->Value} {S:TS} {K:List (Nat×Int)} {t:Thr} {x y:Int} {ops:Array Oper} {oc:Oper} {k0:List Item}
theorem stepG_scope {c:Code}{k:List Item}:stepG P main (G (b.at a (.code (.scope c) :: k)) cs) w=.go (G (b.at a (.code c :: .inScope c :: k)) cs) w:=by simp[G,stepG,stepG.exec,Frame.at]
theorem Ig {D:World->World->Array Event->Prop}{k:List Item}(hD:∀ w,D w w #[]) {c:Code}(h:GoesI P main D Stop (G (b.at a (.code c :: .inScope c :: k)) cs) w):GoesI P main D Stop (G (b.at a (.code (.scope c) :: k)) cs) w:=.ctl rfl (λ_=>stepG_scope) hD h
theorem Jx {D:World->World->Array Event->Prop}{k:List Item}(hD:∀ w,D w w #[]) {l:Nat}(h:GoesI P main D Stop (G (b.at a k) cs) w):GoesI P main D Stop (G (b.at a (.code (.label l) :: k)) cs) w:=.ctl rfl (λ_=>stepG_label) hD h
def Bd:Code->Code
 |.scope c=>c
 |_=>.skip
theorem Dv {v':World}(h:Below v.heap.size v v'):Grows v v':=⟨h.size,λb hb=>h.block b hb,h.os,h.output⟩
theorem gtape {u:World}{τ:Tape}(h:Grows (Ap v τ 0) u):Grows v u:=⟨h.size,h.old,h.os,h.output⟩
theorem flds_grows {v':World}(h:R1.Flds v) (g:Grows v v'):R1.Flds v':=h.of λa x ha=>g.cell ha
structure Slt (v:World) (s sb n:Nat) (kb:List Nat):Prop where
 head:∃ cb,kb[0]? = some cb∧v.cell? ⟨s,0,none⟩=some (Pt cb 0)
 row:v.cell? ⟨s,1,none⟩=some (.slice (some ⟨sb,0,none⟩) n n)
 next:∀ k,k<n->∃ cb,kb[nxJ k]? = some cb∧v.cell? ⟨sb,k*2,none⟩=some (Pt cb 0)
 used:∀ k,k<n->∃ cb,kb[usJ k]? = some cb∧v.cell? ⟨sb,k*2+1,none⟩=some (Pt cb 0)
structure Stk (v:World) (c s sb pb n:Nat) (kb:List Nat):Prop where
 slt:Slt v s sb n kb
 slots:v.cell? ⟨c,0,none⟩=some (Pt s 0)
 head:∃ cb,kb[hdJ n]? = some cb∧v.cell? ⟨c,1,none⟩=some (Pt cb 0)
 row:v.cell? ⟨c,2,none⟩=some (.slice (some ⟨pb,0,none⟩) n n)
 value:∀ k,k<n->∃ cb,kb[vlJ n k]? = some cb∧v.cell? ⟨pb,k*2,none⟩=some (Pt cb 0)
 link:∀ k,k<n->∃ cb,kb[lkJ n k]? = some cb∧v.cell? ⟨pb,k*2+1,none⟩=some (Pt cb 0)
 n1:n<=1000
def J4:Code:=Tryd.f46.body.getD .skip
def J3:Array Oper:=opsOf (seq1 (seq2 J4))
def ch46T (a:Act) (r:Value):Frame:=(base 46).at (a.put (some 21) r) [.inRegion J3 [13],.code .ret]
theorem ch46E:J4=.seq (seq1 J4) (.seq (.region 1 J3 true) .ret):=by kernel_rfl
theorem ch46E0:seq1 J4=.region 0 (opsOf (seq1 J4)) false:=by kernel_rfl
def val_ch46 (s cb tb:Nat) (x f:Int):Nat->Value
 |0=>Pt s 0
 |1=>Pt s 0
 |2=>Pt s 0
 |3=>Pt cb 0
 |4=>Pt tb 0
 |5=>I x
 |6=>I f
 |7=>I x
 |8=>.agg #[I 32,I 30]
 |9=>I (verI x)
 |10=>I (verI x+1)
 |11=>I (hdI f (verI x+1))
 |_=>undef
theorem reg_ch46:regOk J3 12 9=true:=by kernel_rfl
theorem F4:((J3.extract 0 12).all λo=>E5 Tryd.prog true o.op||H8 Dh Jr o.op)=true:=by kernel_rfl
theorem ch46_pre (s cb tb:Nat) (x f:Int)  (hA:Fl 22 [(0,Pt s 0),(1,Pt tb 0),(2,I x),(3,I f)] a) (k:List Item) (cs:List Frame) (hF:R1.Flds v) (h0:v.cell? ⟨s,0,none⟩=some (Pt cb 0)) (hvw:Rel z v w) (hn:Ai Ch v)
 (hN:∀ v1 w1 a' o,J3[12]? = some o->(∀ y,Region.wanted o y=true)->Fl 22 [(0,Pt s 0),(1,Pt tb 0),(2,I x),(3,I f),(12,Pt cb 0),(13,Pt tb 0),(14,I x),(20,I (hdI f (verI x+1)))] a'->Rel z v1 w1->Ai Ch v1->Grows v v1->GoT z main Ch Stop (G ((base 46).at a' (.inRegion J3 [12,13] :: k)) cs) w1):
 GoT z main Ch Stop (G ((base 46).at a (.code (.region 1 J3 true) :: k)) cs) w:=by
 refine region_in (val:=val_ch46 s cb tb x f) reg_ch46 (by rw[hA.1];decide) hvw hn ?_ ?_
 .intro i0 o rest a' v1 w1 hi ho hw ev ev0 r1 n1 g1 hk
  match i0,hi,ho,ev,hk with
  |0,_,ho,ev,hk=>have l0:a'.eval (.tmp 0)=Pt s 0:=(ev0 0 (by decide)).trans (hA.at 0 _ (by simp));exact Bf ho hw (by simp[base]) (p:=Op.move (Operand.tmp 0)) (by kernel_rfl) (Bg F4 (by decide) ho) r1 n1 (x:=Pt s 0) rfl (λo' h'=>by unfold execOp;rw[h'];simp only[l0];simp[go_sem]) hk
  |1,_,ho,ev,hk=>have l0:a'.eval (.tmp 9)=Pt s 0:=ev 0 (by decide) (by kernel_rfl);exact Bf ho hw (by simp[base]) (p:=Op.nilCheck (Operand.tmp 9)) (by kernel_rfl) (Bg F4 (by decide) ho) r1 n1 (x:=Pt s 0) rfl (λo' h'=>by unfold execOp;rw[h'];simp only[l0];simp[go_sem]) hk
  |2,_,ho,ev,hk=>have l0:a'.eval (.tmp 10)=Pt s 0:=ev 1 (by decide) (by kernel_rfl);exact Bf ho hw (by simp[base]) (p:=Op.fieldAddr 91 (Operand.tmp 10) 0) (by kernel_rfl) (Bg F4 (by decide) ho) r1 n1 (x:=Pt s 0) rfl (λo' h'=>by unfold execOp;rw[h'];simp only[l0];simp[go_sem]) hk
  |3,_,ho,ev,hk=>have l0:a'.eval (.tmp 11)=Pt s 0:=ev 2 (by decide) (by kernel_rfl);have c0:=g1.cell h0;exact Bf ho hw (by simp[base]) (p:=Op.load 89 (Operand.tmp 11)) (by kernel_rfl) (Bg F4 (by decide) ho) r1 n1 (x:=Pt cb 0) rfl (λo' h'=>by unfold execOp;rw[h'];simp only[l0];simp[go_sem,c0]) hk
  |4,_,ho,ev,hk=>have l0:a'.eval (.tmp 1)=Pt tb 0:=(ev0 1 (by decide)).trans (hA.at 1 _ (by simp));exact Bf ho hw (by simp[base]) (p:=Op.move (Operand.tmp 1)) (by kernel_rfl) (Bg F4 (by decide) ho) r1 n1 (x:=Pt tb 0) rfl (λo' h'=>by unfold execOp;rw[h'];simp only[l0];simp[go_sem]) hk
  |5,_,ho,ev,hk=>have l0:a'.eval (.tmp 2)=I x:=(ev0 2 (by decide)).trans (hA.at 2 _ (by simp));exact Bf ho hw (by simp[base]) (p:=Op.move (Operand.tmp 2)) (by kernel_rfl) (Bg F4 (by decide) ho) r1 n1 (x:=I x) rfl (λo' h'=>by unfold execOp;rw[h'];simp only[l0];simp[go_sem]) hk
  |6,_,ho,ev,hk=>have l0:a'.eval (.tmp 3)=I f:=(ev0 3 (by decide)).trans (hA.at 3 _ (by simp));exact Bf ho hw (by simp[base]) (p:=Op.move (Operand.tmp 3)) (by kernel_rfl) (Bg F4 (by decide) ho) r1 n1 (x:=I f) rfl (λo' h'=>by unfold execOp;rw[h'];simp only[l0];simp[go_sem]) hk
  |7,_,ho,ev,hk=>have l0:a'.eval (.tmp 2)=I x:=(ev0 2 (by decide)).trans (hA.at 2 _ (by simp));exact Bf ho hw (by simp[base]) (p:=Op.move (Operand.tmp 2)) (by kernel_rfl) (Bg F4 (by decide) ho) r1 n1 (x:=I x) rfl (λo' h'=>by unfold execOp;rw[h'];simp only[l0];simp[go_sem]) hk
  |8,_,ho,ev,hk=>have c0:=g1.cell hF.b0;have c1:=g1.cell hF.b1;exact Bf ho hw (by simp[base]) (p:=Op.load 98 (Operand.global 1)) (by kernel_rfl) (Bg F4 (by decide) ho) r1 n1 (x:=.agg #[I 32,I 30]) rfl (λo' h'=>by unfold execOp;rw[h'];simp only[Act.eval];simp[go_sem,c0,c1]) hk
  |9,_,ho,ev,hk =>have l0:a'.eval (.tmp 16)=I x:=ev 7 (by decide) (by kernel_rfl);have l1:a'.eval (.tmp 17)=.agg #[I 32,I 30]:=ev 8 (by decide) (by kernel_rfl);exact Kz (f:=45) (fn:=Tryd.f45) (xs:=#[.tmp 16,.tmp 17]) (ats:=#[3,98]) (args:=#[I x,.agg #[I 32,I 30]]) ho hw (by simp[base]) (by kernel_rfl) (by simp only[List.map_toArray,List.map_cons,List.map_nil,l0,l1]) Tryd.func45 (by kernel_rfl) rfl (Ci Dn (by simp[LT,Dh]) Tryd.func45 rfl) (λtmps=>⟨_,λw=>results_tmp rfl _ _ _,λw=>by simp[results,go_sem,Tryd.f45]⟩) r1 n1 (x:=I (verI x)) rfl (λτ=>wp_mono (R1.Ew x 32 30 (Ap v1 τ 0) (by decide) (by decide) (by decide) _ rfl) (Dm λr u hq=>⟨hq.1,gtape (Dv hq.2)⟩)) hk
  |10,_,ho,ev,hk =>
   have l0:a'.eval (.tmp 18)=I (verI x):=ev 9 (by decide) (by kernel_rfl);have hw1:IntKind.i64.wrap (verI x+1)=verI x+1:=by have:=R1.verI_in x;rw[IntKind.wrap_i64];omega
   exact Bf ho hw (by simp[base]) (p:=Op.binOp BinOp.add 3 (Operand.tmp 18) (Operand.const (Value.int IntKind.i64 1)) 3) (by kernel_rfl) (Bg F4 (by decide) ho) r1 n1 (x:=I (verI x+1)) rfl (λo' h'=>by unfold execOp;rw[h'];simp only[l0];simp[go_sem,hw1]) hk
  |11,_,ho,ev,hk =>have l0:a'.eval (.tmp 15)=I f:=ev 6 (by decide) (by kernel_rfl);have l1:a'.eval (.tmp 19)=I (verI x+1):=ev 10 (by decide) (by kernel_rfl);exact Kz (f:=42) (fn:=Tryd.f42) (xs:=#[.tmp 15,.tmp 19]) (ats:=#[3,3]) (args:=#[I f,I (verI x+1)]) ho hw (by simp[base]) (by kernel_rfl) (by simp only[List.map_toArray,List.map_cons,List.map_nil,l0,l1]) Tryd.func42 (by kernel_rfl) rfl (Ci Dn (by simp[LT,Dh]) Tryd.func42 rfl) (λtmps=>⟨_,λw=>results_tmp rfl _ _ _,λw=>by simp[results,go_sem,Tryd.f42]⟩) r1 n1 (x:=I (hdI f (verI x+1))) rfl (λτ=>wp_mono (R1.shead_any f (verI x+1) (Ap v1 τ 0) ((flds_grows hF g1).of (λa x h=>h)) _ rfl) (Dm λr u hq=>⟨hq.1,gtape (Dv hq.2)⟩)) hk
 .intro v1 w1 o ho hw r1 n1 g1
  refine hN v1 w1 _ o ho hw ⟨(Hk _ _ _ _).trans hA.1,(Gp _ _ _ _).trans hA.2.1,?_⟩ r1 n1 g1;have hsz:9+12<=a.tmps.size:=by rw[hA.1];decide
  intro p hp;simp only[Sm,or_false] at hp;rcases hp with rfl|rfl|rfl|rfl|rfl|rfl|rfl|rfl;rw[Qe,Br _ _ _ _ _ hsz,if_neg (by simp),<-Qe];exact hA.2.2 (0,Pt s 0) (by simp);rw[Qe,Br _ _ _ _ _ hsz,if_neg (by simp),<-Qe];exact hA.2.2 (1,Pt tb 0) (by simp);rw[Qe,Br _ _ _ _ _ hsz,if_neg (by simp),<-Qe];exact hA.2.2 (2,I x) (by simp);rw[Qe,Br _ _ _ _ _ hsz,if_neg (by simp),<-Qe];exact hA.2.2 (3,I f) (by simp);rw[Qe,Br _ _ _ _ _ hsz,if_pos (by simp)];rfl;rw[Qe,Br _ _ _ _ _ hsz,if_pos (by simp)];rfl;rw[Qe,Br _ _ _ _ _ hsz,if_pos (by simp)];rfl;rw[Qe,Br _ _ _ _ _ hsz,if_pos (by simp)];rfl
theorem ch46_go (x f:Int) (hF:R1.Flds v) (h0:v.cell? ⟨s,0,none⟩=some (Pt cb 0)) (cs:List Frame) (Hm:Goroutine->Prop)
 (hH:∀ g,(∃ a,Fl 22 [] a∧Eg (h==0) i j cb t.tb 4 (Bn x (hdI f (verI x+1))) (λr=>G (ch46T a r) cs) g)->Hm g)
 (hvw:Rel z v w) (hn:Ai Ch v) (hm:Mem z S K v) (ht:S.thr[i]? = some t) (hK:K[j]? = some (cb,y)) (hz:z t.tb=some 2) (hcont:cont ⟨t.tb,2,none⟩=.chan (some t.gc))
 (hstop:∀ g w',Fq z cont h S.bk t.gc Hm (Then z Ch S K v (waiting S i t 1 4 j) K) g w'->Stop g w') (code:Code) (hc:Tryd.f46.body=some code):
 GoT z (h==0) Ch Stop (G ((base 46).at { tmps:=#[Pt s 0,Pt t.tb 0,I x,I f]++Array.replicate 18 undef,defers:=[] } [.code code]) cs) w:=by
 have hw0:code=.seq (.region 0 (opsOf (seq1 J4)) false) (.seq (.region 1 J3 true) .ret):=by rw[show code=J4 by unfold J4;rw[hc];rfl,<-ch46E0];exact ch46E
 subst hw0;clear hc;have HM:Hid (Mem z S K v):=⟨hm⟩
 clear hm;simp only[Sy];refine Ab ?_;unfold J4 Tryd.f46 seq1 opsOf;simp only[Qa];refine Ac ?_;simp only[Sz,Sr,Nat.reduceAdd];refine Ad rfl rfl (by decide) rfl λd K hK=>?_;go_simp;refine hK _ ?_;clear hK K;refine Aa ?_;refine Ab ?_;refine ch46_pre s cb t.tb x f ⟨rfl,rfl,(alC rfl<|alC rfl<|alC rfl<|alC rfl<|alN)⟩ _ cs hF h0 hvw hn (λv4 w4 a' o ho hw hA hvw4 hn4 hg4=>?_);have hm4:=HM.out.grows hg4;have e12:a'.eval (.tmp 12)=Pt cb 0:=hA.at 12 _ (by simp);have e13:a'.eval (.tmp 13)=Pt t.tb 0:=hA.at 13 _ (by simp);have e14:a'.eval (.tmp 14)=I x:=hA.at 14 _ (by simp);have e20:a'.eval (.tmp 20)=I (hdI f (verI x+1)):=hA.at 20 _ (by simp);have hop:(J3[12]?).map (·.op)=some (.call { callee:=.value (.func 48),args:=#[.tmp 12,.tmp 13,.tmp 14,.tmp 20],argTypes:=#[89,52,3,3] }):=by kernel_rfl
 have hds:(J3[12]?).map (·.dst)=some (some 21):=by kernel_rfl
 rw[ho] at hop hds;have hop':=Qd hop;have hds':o.dst=some 21:=Qd hds;refine Ao (f:=48) (fn:=Tryd.f48) (args:=#[Pt cb 0,Pt t.tb 0,I x,I (hdI f (verI x+1))]) (Ag _ _) ho (hw _) (by simp[base]) hop' (by simp only[List.map_toArray,List.map_cons,List.map_nil,e12,e13,e14,e20]) Tryd.func48 (by decide) rfl ?_;refine cas_goes x (hdI f (verI x+1)) y _ Hm ho (λg hg=>hH g ⟨a',⟨hA.1,hA.2.1,λp hp=>by cases hp⟩,?_⟩) hvw4 hn4 hm4.mem ht hK hz hcont (λg w' hs=>hstop g w' (Hr (λhT=>by obtain ⟨v',r1,r2,r3⟩:=hT;exact ⟨v',r1,r2,hm4.trans r3⟩) hs)) _ rfl;rw[hds'] at hg;exact hg
theorem Ja  (r:Bool) (hA:Fl 22 [] a) (cs:List Frame) {rest:List Nat}(hoc:ops[q]? = some oc) (hvw:Rel z v w) (hn:Ai Ch v)
 (hk:∀ w',Rel z v w'->GoT z main Ch Stop (G (bc.at (ac.put oc.dst (.bool r)) (.inRegion ops rest :: k0)) cs) w'):
 GoT z main Ch Stop (G (ch46T a (.bool r)) (bc.at ac (.inRegion ops (q :: rest) :: k0) :: cs)) w:=by
 obtain ⟨hsz,hd,hpp⟩:=hA;obtain ⟨u,rfl,hg⟩:=litN hsz hd;clear hg hpp hsz hd;unfold ch46T J3 J4 Tryd.f46 seq1 seq2 opsOf;simp only[Qa,lits,Nat.reduceAdd];walk_nrm
 refine Ad rfl rfl (by decide) rfl λd K hK=>?_;go_simp;refine hK _ ?_;clear hK K;refine Aa ?_;refine GoesI.ctl rfl (λ_=>stepG_ret') (Ag _ _) ?_;exact Ce (f:=46) (fn:=Tryd.f46) (x:=.bool r) hvw hn Tryd.func46 rfl hoc (by simp[results,go_sem,Tryd.f46]) (λw' r'=>hk w' r')
def J2:Code:=Tryd.f73.body.getD .skip
def J1:Array Oper:=opsOf (seq1 (seq2 J2))
def ch73T (a:Act) (r:Value):Frame:=(base 73).at (a.put (some 21) r) [.inRegion J1 [13],.code .ret]
theorem ch73E:J2=.seq (seq1 J2) (.seq (.region 1 J1 true) .ret):=by kernel_rfl
theorem ch73E0:seq1 J2=.region 0 (opsOf (seq1 J2)) false:=by kernel_rfl
def val_ch73 (s cb tb:Nat) (x f:Int):Nat->Value
 |0=>Pt s 0
 |1=>Pt s 0
 |2=>Pt s 1
 |3=>Pt cb 0
 |4=>Pt tb 0
 |5=>I x
 |6=>I f
 |7=>I x
 |8=>.agg #[I 32,I 30]
 |9=>I (verI x)
 |10=>I (verI x+1)
 |11=>I (hdI f (verI x+1))
 |_=>undef
theorem reg_ch73:regOk J1 12 9=true:=by kernel_rfl
theorem F3:((J1.extract 0 12).all λo=>E5 Tryd.prog true o.op||H8 Dh Jr o.op)=true:=by kernel_rfl
theorem ch73_pre (s cb tb:Nat) (x f:Int)  (hA:Fl 22 [(0,Pt s 0),(1,Pt tb 0),(2,I x),(3,I f)] a) (k:List Item) (cs:List Frame) (hF:R1.Flds v) (h0:v.cell? ⟨s,1,none⟩=some (Pt cb 0)) (hvw:Rel z v w) (hn:Ai Ch v)
 (hN:∀ v1 w1 a' o,J1[12]? = some o->(∀ y,Region.wanted o y=true)->Fl 22 [(0,Pt s 0),(1,Pt tb 0),(2,I x),(3,I f),(12,Pt cb 0),(13,Pt tb 0),(14,I x),(20,I (hdI f (verI x+1)))] a'->Rel z v1 w1->Ai Ch v1->Grows v v1->GoT z main Ch Stop (G ((base 73).at a' (.inRegion J1 [12,13] :: k)) cs) w1):
 GoT z main Ch Stop (G ((base 73).at a (.code (.region 1 J1 true) :: k)) cs) w:=by
 refine region_in (val:=val_ch73 s cb tb x f) reg_ch73 (by rw[hA.1];decide) hvw hn ?_ ?_
 .intro i0 o rest a' v1 w1 hi ho hw ev ev0 r1 n1 g1 hk
  match i0,hi,ho,ev,hk with
  |0,_,ho,ev,hk=>have l0:a'.eval (.tmp 0)=Pt s 0:=(ev0 0 (by decide)).trans (hA.at 0 _ (by simp));exact Bf ho hw (by simp[base]) (p:=Op.move (Operand.tmp 0)) (by kernel_rfl) (Bg F3 (by decide) ho) r1 n1 (x:=Pt s 0) rfl (λo' h'=>by unfold execOp;rw[h'];simp only[l0];simp[go_sem]) hk
  |1,_,ho,ev,hk=>have l0:a'.eval (.tmp 9)=Pt s 0:=ev 0 (by decide) (by kernel_rfl);exact Bf ho hw (by simp[base]) (p:=Op.nilCheck (Operand.tmp 9)) (by kernel_rfl) (Bg F3 (by decide) ho) r1 n1 (x:=Pt s 0) rfl (λo' h'=>by unfold execOp;rw[h'];simp only[l0];simp[go_sem]) hk
  |2,_,ho,ev,hk=>have l0:a'.eval (.tmp 10)=Pt s 0:=ev 1 (by decide) (by kernel_rfl);exact Bf ho hw (by simp[base]) (p:=Op.fieldAddr 132 (Operand.tmp 10) 1) (by kernel_rfl) (Bg F3 (by decide) ho) r1 n1 (x:=Pt s 1) rfl (λo' h'=>by unfold execOp;rw[h'];simp only[l0];simp[go_sem]) hk
  |3,_,ho,ev,hk=>have l0:a'.eval (.tmp 11)=Pt s 1:=ev 2 (by decide) (by kernel_rfl);have c0:=g1.cell h0;exact Bf ho hw (by simp[base]) (p:=Op.load 89 (Operand.tmp 11)) (by kernel_rfl) (Bg F3 (by decide) ho) r1 n1 (x:=Pt cb 0) rfl (λo' h'=>by unfold execOp;rw[h'];simp only[l0];simp[go_sem,c0]) hk
  |4,_,ho,ev,hk=>have l0:a'.eval (.tmp 1)=Pt tb 0:=(ev0 1 (by decide)).trans (hA.at 1 _ (by simp));exact Bf ho hw (by simp[base]) (p:=Op.move (Operand.tmp 1)) (by kernel_rfl) (Bg F3 (by decide) ho) r1 n1 (x:=Pt tb 0) rfl (λo' h'=>by unfold execOp;rw[h'];simp only[l0];simp[go_sem]) hk
  |5,_,ho,ev,hk=>have l0:a'.eval (.tmp 2)=I x:=(ev0 2 (by decide)).trans (hA.at 2 _ (by simp));exact Bf ho hw (by simp[base]) (p:=Op.move (Operand.tmp 2)) (by kernel_rfl) (Bg F3 (by decide) ho) r1 n1 (x:=I x) rfl (λo' h'=>by unfold execOp;rw[h'];simp only[l0];simp[go_sem]) hk
  |6,_,ho,ev,hk=>have l0:a'.eval (.tmp 3)=I f:=(ev0 3 (by decide)).trans (hA.at 3 _ (by simp));exact Bf ho hw (by simp[base]) (p:=Op.move (Operand.tmp 3)) (by kernel_rfl) (Bg F3 (by decide) ho) r1 n1 (x:=I f) rfl (λo' h'=>by unfold execOp;rw[h'];simp only[l0];simp[go_sem]) hk
  |7,_,ho,ev,hk=>have l0:a'.eval (.tmp 2)=I x:=(ev0 2 (by decide)).trans (hA.at 2 _ (by simp));exact Bf ho hw (by simp[base]) (p:=Op.move (Operand.tmp 2)) (by kernel_rfl) (Bg F3 (by decide) ho) r1 n1 (x:=I x) rfl (λo' h'=>by unfold execOp;rw[h'];simp only[l0];simp[go_sem]) hk
  |8,_,ho,ev,hk=>have c0:=g1.cell hF.d0;have c1:=g1.cell hF.d1;exact Bf ho hw (by simp[base]) (p:=Op.load 98 (Operand.global 3)) (by kernel_rfl) (Bg F3 (by decide) ho) r1 n1 (x:=.agg #[I 32,I 30]) rfl (λo' h'=>by unfold execOp;rw[h'];simp only[Act.eval];simp[go_sem,c0,c1]) hk
  |9,_,ho,ev,hk =>have l0:a'.eval (.tmp 16)=I x:=ev 7 (by decide) (by kernel_rfl);have l1:a'.eval (.tmp 17)=.agg #[I 32,I 30]:=ev 8 (by decide) (by kernel_rfl);exact Kz (f:=45) (fn:=Tryd.f45) (xs:=#[.tmp 16,.tmp 17]) (ats:=#[3,98]) (args:=#[I x,.agg #[I 32,I 30]]) ho hw (by simp[base]) (by kernel_rfl) (by simp only[List.map_toArray,List.map_cons,List.map_nil,l0,l1]) Tryd.func45 (by kernel_rfl) rfl (Ci Dn (by simp[LT,Dh]) Tryd.func45 rfl) (λtmps=>⟨_,λw=>results_tmp rfl _ _ _,λw=>by simp[results,go_sem,Tryd.f45]⟩) r1 n1 (x:=I (verI x)) rfl (λτ=>wp_mono (R1.Ew x 32 30 (Ap v1 τ 0) (by decide) (by decide) (by decide) _ rfl) (Dm λr u hq=>⟨hq.1,gtape (Dv hq.2)⟩)) hk
  |10,_,ho,ev,hk =>
   have l0:a'.eval (.tmp 18)=I (verI x):=ev 9 (by decide) (by kernel_rfl);have hw1:IntKind.i64.wrap (verI x+1)=verI x+1:=by have:=R1.verI_in x;rw[IntKind.wrap_i64];omega
   exact Bf ho hw (by simp[base]) (p:=Op.binOp BinOp.add 3 (Operand.tmp 18) (Operand.const (Value.int IntKind.i64 1)) 3) (by kernel_rfl) (Bg F3 (by decide) ho) r1 n1 (x:=I (verI x+1)) rfl (λo' h'=>by unfold execOp;rw[h'];simp only[l0];simp[go_sem,hw1]) hk
  |11,_,ho,ev,hk =>have l0:a'.eval (.tmp 15)=I f:=ev 6 (by decide) (by kernel_rfl);have l1:a'.eval (.tmp 19)=I (verI x+1):=ev 10 (by decide) (by kernel_rfl);exact Kz (f:=92) (fn:=Tryd.f92) (xs:=#[.tmp 15,.tmp 19]) (ats:=#[3,3]) (args:=#[I f,I (verI x+1)]) ho hw (by simp[base]) (by kernel_rfl) (by simp only[List.map_toArray,List.map_cons,List.map_nil,l0,l1]) Tryd.func92 (by kernel_rfl) rfl (Ci Dn (by simp[LT,Dh]) Tryd.func92 rfl) (λtmps=>⟨_,λw=>results_tmp rfl _ _ _,λw=>by simp[results,go_sem,Tryd.f92]⟩) r1 n1 (x:=I (hdI f (verI x+1))) rfl (λτ=>wp_mono (R1.thead_any f (verI x+1) (Ap v1 τ 0) ((flds_grows hF g1).of (λa x h=>h)) _ rfl) (Dm λr u hq=>⟨hq.1,gtape (Dv hq.2)⟩)) hk
 .intro v1 w1 o ho hw r1 n1 g1
  refine hN v1 w1 _ o ho hw ⟨(Hk _ _ _ _).trans hA.1,(Gp _ _ _ _).trans hA.2.1,?_⟩ r1 n1 g1;have hsz:9+12<=a.tmps.size:=by rw[hA.1];decide
  intro p hp;simp only[Sm,or_false] at hp;rcases hp with rfl|rfl|rfl|rfl|rfl|rfl|rfl|rfl;rw[Qe,Br _ _ _ _ _ hsz,if_neg (by simp),<-Qe];exact hA.2.2 (0,Pt s 0) (by simp);rw[Qe,Br _ _ _ _ _ hsz,if_neg (by simp),<-Qe];exact hA.2.2 (1,Pt tb 0) (by simp);rw[Qe,Br _ _ _ _ _ hsz,if_neg (by simp),<-Qe];exact hA.2.2 (2,I x) (by simp);rw[Qe,Br _ _ _ _ _ hsz,if_neg (by simp),<-Qe];exact hA.2.2 (3,I f) (by simp);rw[Qe,Br _ _ _ _ _ hsz,if_pos (by simp)];rfl;rw[Qe,Br _ _ _ _ _ hsz,if_pos (by simp)];rfl;rw[Qe,Br _ _ _ _ _ hsz,if_pos (by simp)];rfl;rw[Qe,Br _ _ _ _ _ hsz,if_pos (by simp)];rfl
theorem ch73_go (x f:Int) (hF:R1.Flds v) (h0:v.cell? ⟨s,1,none⟩=some (Pt cb 0)) (cs:List Frame) (Hm:Goroutine->Prop)
 (hH:∀ g,(∃ a,Fl 22 [] a∧Eg (h==0) i j cb t.tb 4 (Bn x (hdI f (verI x+1))) (λr=>G (ch73T a r) cs) g)->Hm g)
 (hvw:Rel z v w) (hn:Ai Ch v) (hm:Mem z S K v) (ht:S.thr[i]? = some t) (hK:K[j]? = some (cb,y)) (hz:z t.tb=some 2) (hcont:cont ⟨t.tb,2,none⟩=.chan (some t.gc))
 (hstop:∀ g w',Fq z cont h S.bk t.gc Hm (Then z Ch S K v (waiting S i t 1 4 j) K) g w'->Stop g w') (code:Code) (hc:Tryd.f73.body=some code):
 GoT z (h==0) Ch Stop (G ((base 73).at { tmps:=#[Pt s 0,Pt t.tb 0,I x,I f]++Array.replicate 18 undef,defers:=[] } [.code code]) cs) w:=by
 have hw0:code=.seq (.region 0 (opsOf (seq1 J2)) false) (.seq (.region 1 J1 true) .ret):=by rw[show code=J2 by unfold J2;rw[hc];rfl,<-ch73E0];exact ch73E
 subst hw0;clear hc;have HM:Hid (Mem z S K v):=⟨hm⟩
 clear hm;simp only[Sy];refine Ab ?_;unfold J2 Tryd.f73 seq1 opsOf;simp only[Qa];refine Ac ?_;simp only[Sz,Sr,Nat.reduceAdd];refine Ad rfl rfl (by decide) rfl λd K hK=>?_;go_simp;refine hK _ ?_;clear hK K;refine Aa ?_;refine Ab ?_;refine ch73_pre s cb t.tb x f ⟨rfl,rfl,(alC rfl<|alC rfl<|alC rfl<|alC rfl<|alN)⟩ _ cs hF h0 hvw hn (λv4 w4 a' o ho hw hA hvw4 hn4 hg4=>?_);have hm4:=HM.out.grows hg4;have e12:a'.eval (.tmp 12)=Pt cb 0:=hA.at 12 _ (by simp);have e13:a'.eval (.tmp 13)=Pt t.tb 0:=hA.at 13 _ (by simp);have e14:a'.eval (.tmp 14)=I x:=hA.at 14 _ (by simp);have e20:a'.eval (.tmp 20)=I (hdI f (verI x+1)):=hA.at 20 _ (by simp);have hop:(J1[12]?).map (·.op)=some (.call { callee:=.value (.func 48),args:=#[.tmp 12,.tmp 13,.tmp 14,.tmp 20],argTypes:=#[89,52,3,3] }):=by kernel_rfl
 have hds:(J1[12]?).map (·.dst)=some (some 21):=by kernel_rfl
 rw[ho] at hop hds;have hop':=Qd hop;have hds':o.dst=some 21:=Qd hds;refine Ao (f:=48) (fn:=Tryd.f48) (args:=#[Pt cb 0,Pt t.tb 0,I x,I (hdI f (verI x+1))]) (Ag _ _) ho (hw _) (by simp[base]) hop' (by simp only[List.map_toArray,List.map_cons,List.map_nil,e12,e13,e14,e20]) Tryd.func48 (by decide) rfl ?_;refine cas_goes x (hdI f (verI x+1)) y _ Hm ho (λg hg=>hH g ⟨a',⟨hA.1,hA.2.1,λp hp=>by cases hp⟩,?_⟩) hvw4 hn4 hm4.mem ht hK hz hcont (λg w' hs=>hstop g w' (Hr (λhT=>by obtain ⟨v',r1,r2,r3⟩:=hT;exact ⟨v',r1,r2,hm4.trans r3⟩) hs)) _ rfl;rw[hds'] at hg;exact hg
theorem I9  (r:Bool) (hA:Fl 22 [] a) (cs:List Frame) {rest:List Nat}(hoc:ops[q]? = some oc) (hvw:Rel z v w) (hn:Ai Ch v)
 (hk:∀ w',Rel z v w'->GoT z main Ch Stop (G (bc.at (ac.put oc.dst (.bool r)) (.inRegion ops rest :: k0)) cs) w'):
 GoT z main Ch Stop (G (ch73T a (.bool r)) (bc.at ac (.inRegion ops (q :: rest) :: k0) :: cs)) w:=by
 obtain ⟨hsz,hd,hpp⟩:=hA;obtain ⟨u,rfl,hg⟩:=litN hsz hd;clear hg hpp hsz hd;unfold ch73T J1 J2 Tryd.f73 seq1 seq2 opsOf;simp only[Qa,lits,Nat.reduceAdd];walk_nrm
 refine Ad rfl rfl (by decide) rfl λd K hK=>?_;go_simp;refine hK _ ?_;clear hK K;refine Aa ?_;refine GoesI.ctl rfl (λ_=>stepG_ret') (Ag _ _) ?_;exact Ce (f:=73) (fn:=Tryd.f73) (x:=.bool r) hvw hn Tryd.func73 rfl hoc (by simp[results,go_sem,Tryd.f73]) (λw' r'=>hk w' r')
def tS:Code:=Bd (seq2 (Tryd.f25.body.getD .skip))
def tL:Code:=Be (Ar (seq2 tS))
def tK:Code:=Ar tL
def t2:Code:=seq2 tK
def t3:Code:=seq2 t2
def t5:Code:=seq2 t3
def t6:Code:=seq2 t5
def t7:Code:=seq2 t6
def t8:Code:=seq2 t7
def tO1:Array Oper:=opsOf (seq1 tK)
def tO6:Array Oper:=opsOf (seq1 (seq1 t6))
def tC6:Code:=seq2 (seq1 t6)
def tO7:Array Oper:=opsOf (seq1 t7)
def tE:List Item:=[.inBlock 1,.inLoop tL,.inBlock 0,.inScope tS]
def tE':List Item:=[.inBlock 0,.inScope tS]
def tHead (a:Act):Frame:=(base 25).at a (.code tL :: .inLoop tL :: tE')
def Kv (a:Act) (r:Value):Frame:=(base 25).at (a.put (some 14) r) (.inRegion tO1 [6] :: .code t2 :: tE)
def tNext (a:Act) (r:Value):Frame:=(base 25).at (a.put (some 34) r) (.inRegion tO6 [13,14] :: .code tC6 :: .code t7 :: tE)
def tTry (a:Act):Frame:=(base 25).at a (.inRegion tO6 [13,14] :: .code tC6 :: .code t7 :: tE)
def tTried (a:Act) (r:Value):Frame:=(base 25).at (a.put (some 35) r) (.inRegion tO6 [14] :: .code tC6 :: .code t7 :: tE)
def tUsed (a:Act) (r:Value):Frame:=(base 25).at (a.put (some 46) r) (.inRegion tO7 [] :: .code t8 :: tE)
theorem tO6_13:(tO6[13]?).map (·.dst)=some (some 35):=by kernel_rfl
theorem eTB:Tryd.f25.body.getD .skip=.seq (.region 0 (opsOf (seq1 (Tryd.f25.body.getD .skip))) false) (.scope tS):=by kernel_rfl
theorem eTS:tS=.seq (.label 0) (.block 0 (.loop tL)):=by kernel_rfl
theorem eTL:tL=.block 1 tK:=by kernel_rfl
theorem take_in (cs:List Frame)
 (hk:∀ a,Fl 48 [(0,Pt s 0),(1,Pt tb 0)] a->GoT z main Ch Stop (G (tHead a) cs) w) (code:Code) (hc:Tryd.f25.body=some code):
 GoT z main Ch Stop (G ((base 25).at { tmps:=#[Pt s 0,Pt tb 0]++Array.replicate 46 undef,defers:=[] } [.code code]) cs) w:=by
 have hw0:code=.seq (.region 0 (opsOf (seq1 (Tryd.f25.body.getD .skip))) false) (.scope tS):=by rw[show code=Tryd.f25.body.getD .skip by rw[hc];rfl];exact eTB
 subst hw0;clear hc;simp only[Sy];unfold tHead tE' at hk;refine Ab ?_;unfold Tryd.f25 seq1 opsOf;simp only[Qa];refine Ac ?_;simp only[Sz,Sr,Nat.reduceAdd];iterate 2
  (refine Ad rfl rfl (by decide) rfl λd K hK=>?_
   go_simp;refine hK _ ?_;clear hK K)
 refine Aa ?_;refine Ig (Ag _ _) ?_;generalize hq:Item.inScope tS=q at hk ⊢;rw[eTS];refine Ab ?_;refine Jx (Ag _ _) ?_;refine Bt ?_;refine Gg (Ag _ _) ?_;exact hk _ ⟨rfl,rfl,(alC rfl<|alC rfl<|alN)⟩
theorem take_look (c0:v.cell? ⟨s,0,none⟩=some (Pt cb 0)) (hA:Fl 48 [(0,Pt s 0),(1,Pt t.tb 0)] a) (cs:List Frame) (Hm:Goroutine->Prop)
 (hH:∀ g,(∃ a,Fl 48 [(0,Pt s 0),(1,Pt t.tb 0)] a∧Eg (h==0) i j cb t.tb 1 Bm (λr=>G (Kv a r) cs) g)->Hm g)
 (hvw:Rel z v w) (hn:Ai Ch v) (hm:Mem z S K v) (ht:S.thr[i]? = some t) (hK:K[j]? = some (cb,y)) (hz:z t.tb=some 2) (hcont:cont ⟨t.tb,2,none⟩=.chan (some t.gc))
 (hstop:∀ g w',Fq z cont h S.bk t.gc Hm (Then z Ch S K v (waiting S i t 1 1 j) K) g w'->Stop g w'):
 GoT z (h==0) Ch Stop (G (tHead a) cs) w:=by
 have HM:Hid (Mem z S K v):=⟨hm⟩
 clear hm;unfold Kv tO1 t2 tK tL tS Bd Tryd.f25 seq1 seq2 Ar Be opsOf at hH;simp only[Qa] at hH;obtain ⟨u,rfl,hu⟩:=litF hA;clear hA;simp only[Fls] at hu;unfold tHead;simp only[Qa,lits,Nat.reduceAdd,hu];clear hu;have c0w:w.cell? ⟨s,0,none⟩=some (Pt cb 0):=by rw[hvw.cell?];exact c0
 rw[show (Item.code tL :: Item.inLoop tL :: tE')=Item.code (.block 1 tK) :: Item.inLoop tL :: tE' by rw[<-eTL]];refine Bt ?_;rw[show (Item.inBlock 1 :: Item.inLoop tL :: tE')=tE from rfl];unfold tK tL tS Bd Tryd.f25 seq2 Ar Be;simp only[Qa];refine Ab ?_;refine Ac ?_;simp only[Sz,Sr,Nat.reduceAdd];iterate 5
  (refine Ad rfl rfl (by decide) rfl λd K hK=>?_
   go_simp;refine hK _ ?_;clear hK K)
 refine Ao (f:=44) (fn:=Tryd.f44) (args:=#[Pt cb 0,Pt t.tb 0]) (Ag _ _) rfl rfl (by decide) rfl (by simp[Act.eval]) Tryd.func44 (by decide) rfl ?_;exact Hn y _ Hm rfl (λg hg=>hH g ⟨_,⟨rfl,rfl,(alC rfl<|alC rfl<|alN)⟩,hg⟩) hvw hn HM.out ht hK hz hcont hstop _ rfl
theorem take_full (x:Int) (h0:fstI x=0) (hF:R1.Flds v) (hA:Fl 48 [(0,Pt s 0),(1,Pt tb 0)] a) (cs:List Frame) {rest:List Nat}(hoc:ops[q]? = some oc) (hvw:Rel z v w) (hn:Ai Ch v)
 (hk:∀ v' w',Rel z v' w'->Ai Ch v'->Grows v v'->GoT z main Ch Stop (G (bc.at (ac.put oc.dst (.tuple #[I 0,I 80])) (.inRegion ops rest :: k0)) cs) w'):
 GoT z main Ch Stop (G (Kv a (I x)) (bc.at ac (.inRegion ops (q :: rest) :: k0) :: cs)) w:=by
 obtain ⟨u,rfl,hu⟩:=litF hA;clear hA;simp only[Fls] at hu;unfold Kv tO1 t2 tK tL tS Bd Tryd.f25 seq1 seq2 Ar Be opsOf;simp only[Qa,lits,Nat.reduceAdd,hu];clear hu;have g0:w.cell? ⟨0,0,none⟩=some (I 0):=by rw[hvw.cell?];exact hF.a0
 have g1:w.cell? ⟨0,1,none⟩=some (I 32):=by rw[hvw.cell?];exact hF.a1
 walk_nrm
 refine Ad rfl rfl (by decide) rfl λd K hK=>?_;go_simp;refine hK _ ?_;clear hK K;refine Aa ?_;refine Ab ?_;refine Ac ?_;simp only[Sz,Sr,Nat.reduceAdd];iterate 2
  (refine Ad rfl rfl (by decide) rfl λd K hK=>?_
   go_simp;refine hK _ ?_;clear hK K)
 refine Ed (f:=45) (fn:=Tryd.f45) (args:=#[I x,R1.F 0 32]) hE Dn rfl rfl (by decide) rfl (by simp[Act.eval,R1.F]) Tryd.func45 (by kernel_rfl) rfl (Ci Dn (by simp[LT,Dh]) Tryd.func45 rfl) (λtmps=>⟨_,λw=>results_tmp rfl _ _ _,λw=>by simp[results,go_sem,Tryd.f45]⟩) hvw hn
  (R:=λr v4=>r=I (fstI x)∧Grows v v4) (λτ=>?_) (λr v4 w4 hR hvw4 hn4=>?_)
 exact wp_mono (R1.Ew x 0 32 (Ap v τ 0) (by decide) (by decide) (by decide) _ rfl) (Dm λr u hq=>⟨hq.1,gtape (Dv hq.2)⟩);obtain ⟨rfl,hg4⟩:=hR;walk_nrm
 refine Ad rfl rfl (by decide) rfl λd K hK=>?_;go_simp;refine hK _ ?_;clear hK K;refine Aa ?_;refine Ab ?_;refine Ab ?_;refine Ac ?_;simp only[Sz,Sr,Nat.reduceAdd];iterate 2
  (refine Ad rfl rfl (by decide) rfl λd K hK=>?_
   go_simp;refine hK _ ?_;clear hK K)
 refine Aa ?_;refine Ax (t:=true) (by simp[Act.eval,h0]) ?_;simp only[if_true,if_false,Qh];refine Ab ?_;refine Ac ?_;simp only[Sz,Sr,Nat.reduceAdd];iterate 2
  (refine Ad rfl rfl (by decide) rfl λd K hK=>?_
   go_simp;refine hK _ ?_;clear hK K)
 refine Aa ?_;refine GoesI.ctl rfl (λ_=>stepG_ret') (Ag _ _) ?_;exact Ce (f:=25) (fn:=Tryd.f25) (x:=.tuple #[I 0,I 80]) hvw4 hn4 Tryd.func25 rfl hoc (by simp[results,go_sem,Tryd.f25]) (λw' r'=>hk v4 w' r' hn4 hg4)
theorem take_next (k:Nat) (hk0:fstI x=(k:Int)+1) (hkn:k<n) (hF:R1.Flds v) (c1:v.cell? ⟨s,1,none⟩=some (.slice (some ⟨sb,0,none⟩) n n)) (c2:v.cell? ⟨sb,k*2,none⟩=some (Pt cb 0)) (hA:Fl 48 [(0,Pt s 0),(1,Pt t.tb 0)] a) (cs:List Frame) (Hm:Goroutine->Prop)
 (hH:∀ g,(∃ a,Fl 48 [(0,Pt s 0),(1,Pt t.tb 0),(6,I x),(8,I k),(22,Pt s 0),(23,Pt t.tb 0),(24,I x)] a∧Eg (h==0) i j cb t.tb 1 Bm (λr=>G (tNext a r) cs) g)->Hm g)
 (hvw:Rel z v w) (hn:Ai Ch v) (hm:Mem z S K v) (ht:S.thr[i]? = some t) (hK:K[j]? = some (cb,y)) (hz:z t.tb=some 2) (hcont:cont ⟨t.tb,2,none⟩=.chan (some t.gc))
 (hstop:∀ g w',Fq z cont h S.bk t.gc Hm (Then z Ch S K v (waiting S i t 1 1 j) K) g w'->Stop g w'):
 GoT z (h==0) Ch Stop (G (Kv a (I x)) cs) w:=by
 have HM:Hid (Mem z S K v):=⟨hm⟩
 clear hm;unfold tNext tO6 tC6 t7 t6 t5 t3 t2 tK tL tS Bd Tryd.f25 seq1 seq2 Ar Be opsOf at hH;simp only[Qa] at hH;obtain ⟨u,rfl,hu⟩:=litF hA;clear hA;simp only[Fls] at hu;unfold Kv tO1 t2 tK tL tS Bd Tryd.f25 seq1 seq2 Ar Be opsOf;simp only[Qa,lits,Nat.reduceAdd,hu];clear hu;have HK0:Hid (fstI x=(k:Int)+1):=⟨hk0⟩
 clear hk0;have g0:w.cell? ⟨0,0,none⟩=some (I 0):=by rw[hvw.cell?];exact hF.a0
 have g1:w.cell? ⟨0,1,none⟩=some (I 32):=by rw[hvw.cell?];exact hF.a1
 walk_nrm
 refine Ad rfl rfl (by decide) rfl λd K hK=>?_;go_simp;refine hK _ ?_;clear hK K;refine Aa ?_;refine Ab ?_;refine Ac ?_;simp only[Sz,Sr,Nat.reduceAdd];iterate 2
  (refine Ad rfl rfl (by decide) rfl λd K hK=>?_
   go_simp;refine hK _ ?_;clear hK K)
 refine Ed (f:=45) (fn:=Tryd.f45) (args:=#[I x,R1.F 0 32]) hE Dn rfl rfl (by decide) rfl (by simp[Act.eval,R1.F]) Tryd.func45 (by kernel_rfl) rfl (Ci Dn (by simp[LT,Dh]) Tryd.func45 rfl) (λtmps=>⟨_,λw=>results_tmp rfl _ _ _,λw=>by simp[results,go_sem,Tryd.f45]⟩) hvw hn
  (R:=λr v4=>r=I (fstI x)∧Grows v v4) (λτ=>?_) (λr v4 w4 hR hvw4 hn4=>?_)
 exact wp_mono (R1.Ew x 0 32 (Ap v τ 0) (by decide) (by decide) (by decide) _ rfl) (Dm λr u hq=>⟨hq.1,gtape (Dv hq.2)⟩);obtain ⟨rfl,hg4⟩:=hR;walk_nrm
 have hne:¬ (fstI x=0):=by have:=HK0.out;omega
 have hwr:IntKind.i64.wrap (fstI x - 1)=(k:Int):=by have:=HK0.out;have hx:=R1.J0 x;rw[IntKind.wrap_i64];omega
 have hkn':(k:Int)<(n:Int):=by omega
 have d1:w4.cell? ⟨s,1,none⟩=some (.slice (some ⟨sb,0,none⟩) n n):=by rw[hvw4.cell?];exact hg4.cell c1
 have d2:w4.cell? ⟨sb,k*2,none⟩=some (Pt cb 0):=by rw[hvw4.cell?];exact hg4.cell c2
 refine Ad rfl rfl (by decide) rfl λd K hK=>?_;go_simp;refine hK _ ?_;clear hK K;refine Aa ?_;refine Ab ?_;refine Ab ?_;refine Ac ?_;simp only[Sz,Sr,Nat.reduceAdd];iterate 2
  (refine Ad rfl rfl (by decide) rfl λd K hK=>?_
   go_simp;refine hK _ ?_;clear hK K)
 refine Aa ?_;refine Ax (t:=false) (by simp[Act.eval,hne]) ?_;simp only[if_true,if_false,Qh];refine Bo ?_;refine Ab ?_;refine Ac ?_;simp only[Sz,Sr,Nat.reduceAdd];iterate 3
  (refine Ad rfl rfl (by decide) rfl λd K hK=>?_
   go_simp;refine hK _ ?_;clear hK K)
 refine Aa ?_;refine Ab ?_;refine Ab ?_;refine Ac ?_;simp only[Sz,Sr,Nat.reduceAdd];iterate 12
  (refine Ad rfl rfl (by decide) rfl λd K hK=>?_
   go_simp;refine hK _ ?_;clear hK K)
 have hm4:=HM.out.grows hg4;refine Ao (f:=44) (fn:=Tryd.f44) (args:=#[Pt cb 0,Pt t.tb 0]) (Ag _ _) rfl rfl (by decide) rfl (by simp[Act.eval]) Tryd.func44 (by decide) rfl ?_;exact Hn y _ Hm rfl (λg hg=>hH g ⟨_,⟨rfl,rfl,(alC rfl<|alC rfl<|alC rfl<|alC rfl<|alC rfl<|alC rfl<|alC rfl<|alN)⟩,hg⟩) hvw4 hn4 hm4.mem ht hK hz hcont (λg w' hs=>hstop g w' (Hr (λhT=>by obtain ⟨v',r1,r2,r3⟩:=hT;exact ⟨v',r1,r2,hm4.trans r3⟩) hs)) _ rfl
theorem take_try (f:Int) (hA:Fl 48 [(0,Pt s 0),(1,Pt tb 0),(6,I x),(8,I k),(22,Pt s 0),(23,Pt tb 0),(24,I x)] a) (cs:List Frame)
 (hk:∀ a code,Tryd.f46.body=some code->Fl 48 [(0,Pt s 0),(1,Pt tb 0),(6,I x),(8,I k)] a->GoT z main Ch Stop (G ((base 46).at { tmps:=#[Pt s 0,Pt tb 0,I x,I f]++Array.replicate 18 undef,defers:=[] } [.code code]) (tTry a :: cs)) w):
 GoT z main Ch Stop (G (tNext a (I f)) cs) w:=by
 unfold tTry tO6 tC6 t7 t6 t5 t3 t2 tK tL tS Bd Tryd.f25 seq1 seq2 Ar Be opsOf at hk;simp only[Qa] at hk;obtain ⟨u,rfl,hu⟩:=litF hA;clear hA;simp only[Fls] at hu;unfold tNext tO6 tC6 t7 t6 t5 t3 t2 tK tL tS Bd Tryd.f25 seq1 seq2 Ar Be opsOf;simp only[Qa,lits,Nat.reduceAdd,hu];clear hu;walk_nrm
 refine Ao (f:=46) (fn:=Tryd.f46) (args:=#[Pt s 0,Pt tb 0,I x,I f]) (Ag _ _) rfl rfl (by decide) rfl (by simp[Act.eval]) Tryd.func46 (by decide) rfl ?_;exact hk _ _ rfl ⟨rfl,rfl,(alC rfl<|alC rfl<|alC rfl<|alC rfl<|alN)⟩
theorem take_again  (hA:Fl 48 [(0,Pt s 0),(1,Pt tb 0),(6,I x),(8,I k)] a) (cs:List Frame)
 (hk:∀ a,Fl 48 [(0,Pt s 0),(1,Pt tb 0)] a->GoT z main Ch Stop (G (tHead a) cs) w):
 GoT z main Ch Stop (G (tTried a (.bool false)) cs) w:=by
 unfold tHead tE' at hk
 try simp only[Qa] at hk
 obtain ⟨u,rfl,hu⟩:=litF hA;clear hA;simp only[Fls] at hu;unfold tTried tO6 tC6 t7 t6 t5 t3 t2 tK tL tS Bd Tryd.f25 seq1 seq2 Ar Be opsOf;simp only[Qa,lits,Nat.reduceAdd,hu];clear hu;walk_nrm
 refine Ad rfl rfl (by decide) rfl λd K hK=>?_;go_simp;refine hK _ ?_;clear hK K;refine Aa ?_;refine Ax (t:=true) (by simp[Act.eval]) ?_;simp only[if_true,if_false,Qh];rw[show tE=[Item.inBlock 1,.inLoop tL,.inBlock 0,.inScope tS] from rfl];refine E7 (Ag _ _) (k':=[.inLoop tL,.inBlock 0,.inScope tS]) rfl ?_;refine Ea (Ag _ _) ?_;exact hk _ ⟨rfl,rfl,(alC rfl<|alC rfl<|alN)⟩
theorem take_won (hkn:k<n) (c1:v.cell? ⟨s,1,none⟩=some (.slice (some ⟨sb,0,none⟩) n n)) (c2:v.cell? ⟨sb,k*2+1,none⟩=some (Pt cb 0)) (hA:Fl 48 [(0,Pt s 0),(1,Pt t.tb 0),(6,I x),(8,I k)] a) (cs:List Frame) (Hm:Goroutine->Prop)
 (hH:∀ g,(∃ a,Fl 48 [(0,Pt s 0),(1,Pt t.tb 0),(6,I x),(8,I k)] a∧Eg (h==0) i j cb t.tb 2 (Bz (1)) (λr=>G (tUsed a r) cs) g)->Hm g)
 (hvw:Rel z v w) (hn:Ai Ch v) (hm:Mem z S K v) (ht:S.thr[i]? = some t) (hK:K[j]? = some (cb,y)) (hz:z t.tb=some 2) (hcont:cont ⟨t.tb,2,none⟩=.chan (some t.gc))
 (hstop:∀ g w',Fq z cont h S.bk t.gc Hm (Then z Ch S K v (waiting S i t 1 2 j) K) g w'->Stop g w'):
 GoT z (h==0) Ch Stop (G (tTried a (.bool true)) cs) w:=by
 have HM:Hid (Mem z S K v):=⟨hm⟩
 clear hm;unfold tUsed tO7 t8 t7 t6 t5 t3 t2 tK tL tS Bd Tryd.f25 seq1 seq2 Ar Be opsOf at hH;simp only[Qa] at hH;obtain ⟨u,rfl,hu⟩:=litF hA;clear hA;simp only[Fls] at hu;unfold tTried tO6 tC6 t7 t6 t5 t3 t2 tK tL tS Bd Tryd.f25 seq1 seq2 Ar Be opsOf;simp only[Qa,lits,Nat.reduceAdd,hu];clear hu;have hkn':(k:Int)<(n:Int):=by omega
 have d1:w.cell? ⟨s,1,none⟩=some (.slice (some ⟨sb,0,none⟩) n n):=by rw[hvw.cell?];exact c1
 have d2:w.cell? ⟨sb,k*2+1,none⟩=some (Pt cb 0):=by rw[hvw.cell?];exact c2
 walk_nrm
 refine Ad rfl rfl (by decide) rfl λd K hK=>?_;go_simp;refine hK _ ?_;clear hK K;refine Aa ?_;refine Ax (t:=false) (by simp[Act.eval]) ?_;simp only[if_true,if_false,Qh];refine Bo ?_;refine Ab ?_;refine Ac ?_;simp only[Sz,Sr,Nat.reduceAdd];iterate 9
  (refine Ad rfl rfl (by decide) rfl λd K hK=>?_
   go_simp;refine hK _ ?_;clear hK K)
 refine Ao (f:=47) (fn:=Tryd.f47) (args:=#[Pt cb 0,Pt t.tb 0,I (1)]) (Ag _ _) rfl rfl (by decide) rfl (by simp[Act.eval]) Tryd.func47 (by decide) rfl ?_;exact store_goes (1) y _ Hm rfl (λg hg=>hH g ⟨_,⟨rfl,rfl,(alC rfl<|alC rfl<|alC rfl<|alC rfl<|alN)⟩,hg⟩) hvw hn HM.out ht hK hz hcont hstop _ rfl
theorem take_done (r:Value) (hA:Fl 48 [(0,Pt s 0),(1,Pt tb 0),(6,I x),(8,I k)] a) (cs:List Frame) {rest:List Nat}(hoc:ops[q]? = some oc) (hvw:Rel z v w) (hn:Ai Ch v)
 (hk:∀ w',Rel z v w'->GoT z main Ch Stop (G (bc.at (ac.put oc.dst (.tuple #[I k,I 0])) (.inRegion ops rest :: k0)) cs) w'):
 GoT z main Ch Stop (G (tUsed a r) (bc.at ac (.inRegion ops (q :: rest) :: k0) :: cs)) w:=by
 obtain ⟨u,rfl,hu⟩:=litF hA;clear hA;simp only[Fls] at hu;unfold tUsed tO7 t8 t7 t6 t5 t3 t2 tK tL tS Bd Tryd.f25 seq1 seq2 Ar Be opsOf;simp only[Qa,lits,Nat.reduceAdd,hu];clear hu;walk_nrm
 refine Aa ?_;refine Ab ?_;refine Ac ?_;simp only[Sz,Sr,Nat.reduceAdd];iterate 3
  (refine Ad rfl rfl (by decide) rfl λd K hK=>?_
   go_simp;refine hK _ ?_;clear hK K)
 refine Aa ?_;refine GoesI.ctl rfl (λ_=>stepG_ret') (Ag _ _) ?_;exact Ce (f:=25) (fn:=Tryd.f25) (x:=.tuple #[I k,I 0]) hvw hn Tryd.func25 rfl hoc (by simp[results,go_sem,Tryd.f25]) (λw' r'=>hk w' r')
def gS:Code:=Bd (seq2 (Tryd.f26.body.getD .skip))
def g3:Code:=seq2 gS
def g4:Code:=seq2 g3
def gL:Code:=Be (Ar (seq2 g4))
def gK:Code:=Ar gL
def g6:Code:=seq2 gK
def g7:Code:=seq2 g6
def g8:Code:=seq2 g7
def gO3:Array Oper:=opsOf (seq1 (seq1 g3))
def gC3:Code:=seq2 (seq1 g3)
def gO5:Array Oper:=opsOf (seq1 gK)
def gO6:Array Oper:=opsOf (seq1 g6)
def gO7:Array Oper:=opsOf (seq1 (seq1 g7))
def gC7:Code:=seq2 (seq1 g7)
def gE':List Item:=[.inBlock 0,.inScope gS]
def gE:List Item:=.inBlock 1 :: .inLoop gL :: gE'
def gUsed (a:Act) (r:Value):Frame:=(base 26).at (a.put (some 28) r) (.inRegion gO3 [10] :: .code gC3 :: .code g4 :: [.inScope gS])
def gHead (a:Act):Frame:=(base 26).at a (.code gL :: .inLoop gL :: gE')
def gSeen (a:Act) (r:Value):Frame:=(base 26).at (a.put (some 35) r) (.inRegion gO5 [6] :: .code g6 :: gE)
def gStored (a:Act) (r:Value):Frame:=(base 26).at (a.put (some 48) r) (.inRegion gO6 [] :: .code g7 :: gE)
def gTry (a:Act):Frame:=(base 26).at a (.inRegion gO7 [5,6] :: .code gC7 :: .code g8 :: gE)
def gTried (a:Act) (r:Value):Frame:=(base 26).at (a.put (some 54) r) (.inRegion gO7 [6] :: .code gC7 :: .code g8 :: gE)
theorem gO7_5:(gO7[5]?).map (·.dst)=some (some 54):=by kernel_rfl
theorem eGB:Tryd.f26.body.getD .skip=.seq (.region 0 (opsOf (seq1 (Tryd.f26.body.getD .skip))) false) (.scope gS):=by kernel_rfl
theorem eGS:gS=.seq (seq1 gS) g3:=by kernel_rfl
theorem eG3:g3=.seq (.seq (.region 3 gO3 false) gC3) g4:=by kernel_rfl
theorem eG4:g4=.seq (.label 0) (.block 0 (.loop gL)):=by kernel_rfl
theorem eGL:gL=.block 1 gK:=by kernel_rfl
theorem eG6:g6=.seq (.region 6 gO6 true) g7:=by kernel_rfl
theorem eG7:g7=.seq (.seq (.region 7 gO7 false) gC7) g8:=by kernel_rfl
theorem give_in (hkn:k<n) (c1:v.cell? ⟨s,1,none⟩=some (.slice (some ⟨sb,0,none⟩) n n)) (c2:v.cell? ⟨sb,k*2+1,none⟩=some (Pt cb 0)) (cs:List Frame) (Hm:Goroutine->Prop)
 (hH:∀ g,(∃ a,Fl 56 [(0,Pt s 0),(1,Pt t.tb 0),(2,I k)] a∧Eg (h==0) i j cb t.tb 4 (Bn 1 0) (λr=>G (gUsed a r) cs) g)->Hm g)
 (hvw:Rel z v w) (hn:Ai Ch v) (hm:Mem z S K v) (ht:S.thr[i]? = some t) (hK:K[j]? = some (cb,y)) (hz:z t.tb=some 2) (hcont:cont ⟨t.tb,2,none⟩=.chan (some t.gc))
 (hstop:∀ g w',Fq z cont h S.bk t.gc Hm (Then z Ch S K v (waiting S i t 1 4 j) K) g w'->Stop g w') (code:Code) (hc:Tryd.f26.body=some code):
 GoT z (h==0) Ch Stop (G ((base 26).at { tmps:=#[Pt s 0,Pt t.tb 0,I k]++Array.replicate 53 undef,defers:=[] } [.code code]) cs) w:=by
 have hw0:code=.seq (.region 0 (opsOf (seq1 (Tryd.f26.body.getD .skip))) false) (.scope gS):=by rw[show code=Tryd.f26.body.getD .skip by rw[hc];rfl];exact eGB
 subst hw0;clear hc;have HM:Hid (Mem z S K v):=⟨hm⟩
 clear hm;have hkn':(k:Int)<(n:Int):=by omega
 have hkn2:¬ ((k:Int)<0):=by omega
 have hkn3:¬ ((n:Int)<=(k:Int)):=by omega
 have d1:w.cell? ⟨s,1,none⟩=some (.slice (some ⟨sb,0,none⟩) n n):=by rw[hvw.cell?];exact c1
 have d2:w.cell? ⟨sb,k*2+1,none⟩=some (Pt cb 0):=by rw[hvw.cell?];exact c2
 unfold gUsed at hH;simp only[Sy];refine Ab ?_;unfold Tryd.f26 seq1 opsOf;simp only[Qa];refine Ac ?_;simp only[Sz,Sr,Nat.reduceAdd];refine Ad rfl rfl (by decide) rfl λd K hK=>?_;go_simp;refine hK _ ?_;clear hK K;refine Aa ?_;refine Ig (Ag _ _) ?_;generalize hq:Item.inScope gS=q at hH ⊢;rw[eGS];refine Ab ?_;unfold gS Bd Tryd.f26 seq1 seq2;simp only[Qa];refine Ab ?_;refine Ac ?_;simp only[Sz,Sr,Nat.reduceAdd];iterate 11
  (refine Ad rfl rfl (by decide) rfl λd K hK=>?_
   go_simp;refine hK _ ?_;clear hK K)
 refine Aa ?_;refine Ax (t:=false) (by simp[Act.eval,hkn2,hkn3]) ?_;simp only[if_true,if_false,Qh];refine Bo ?_;rw[eG3];refine Ab ?_;refine Ab ?_;unfold gO3 g3 gS Bd Tryd.f26 seq1 seq2 opsOf at hH ⊢;simp only[Qa] at hH ⊢;refine Ac ?_;simp only[Sz,Sr,Nat.reduceAdd];iterate 9
  (refine Ad rfl rfl (by decide) rfl λd K hK=>?_
   go_simp;refine hK _ ?_;clear hK K)
 refine Ao (f:=48) (fn:=Tryd.f48) (args:=#[Pt cb 0,Pt t.tb 0,I 1,I 0]) (Ag _ _) rfl rfl (by decide) rfl (by simp[Act.eval]) Tryd.func48 (by decide) rfl ?_;exact cas_goes 1 0 y _ Hm rfl (λg hg=>hH g ⟨_,⟨rfl,rfl,(alC rfl<|alC rfl<|alC rfl<|alN)⟩,hg⟩) hvw hn HM.out ht hK hz hcont hstop _ rfl
theorem give_not  (hA:Fl 56 [(0,Pt s 0),(1,Pt tb 0),(2,I k)] a) (cs:List Frame) {rest:List Nat}(hoc:ops[q]? = some oc) (hvw:Rel z v w) (hn:Ai Ch v)
 (hk:∀ w',Rel z v w'->GoT z main Ch Stop (G (bc.at (ac.put oc.dst (I 81)) (.inRegion ops rest :: k0)) cs) w'):
 GoT z main Ch Stop (G (gUsed a (.bool false)) (bc.at ac (.inRegion ops (q :: rest) :: k0) :: cs)) w:=by
 obtain ⟨u,rfl,hu⟩:=litF hA;clear hA;simp only[Fls] at hu;unfold gUsed gO3 gC3 g3 gS Bd Tryd.f26 seq1 seq2 opsOf;simp only[Qa,lits,Nat.reduceAdd,hu];clear hu;walk_nrm
 refine Ad rfl rfl (by decide) rfl λd K hK=>?_;go_simp;refine hK _ ?_;clear hK K;refine Aa ?_;refine Ax (t:=true) (by simp[Act.eval]) ?_;simp only[if_true,if_false,Qh];refine Ab ?_;refine Ac ?_;simp only[Sz,Sr,Nat.reduceAdd];refine Ad rfl rfl (by decide) rfl λd K hK=>?_;go_simp;refine hK _ ?_;clear hK K;refine Aa ?_;refine GoesI.ctl rfl (λ_=>stepG_ret') (Ag _ _) ?_;exact Ce (f:=26) (fn:=Tryd.f26) (x:=I 81) hvw hn Tryd.func26 rfl hoc (by simp[results,go_sem,Tryd.f26]) (λw' r'=>hk w' r')
theorem give_goes  (hA:Fl 56 [(0,Pt s 0),(1,Pt tb 0),(2,I k)] a) (cs:List Frame)
 (hk:∀ a,Fl 56 [(0,Pt s 0),(1,Pt tb 0),(2,I k)] a->GoT z main Ch Stop (G (gHead a) cs) w):
 GoT z main Ch Stop (G (gUsed a (.bool true)) cs) w:=by
 unfold gHead gE' at hk
 try simp only[Qa] at hk
 obtain ⟨u,rfl,hu⟩:=litF hA;clear hA;simp only[Fls] at hu;unfold gUsed gO3 gC3;simp only[Qa,lits,Nat.reduceAdd,hu];clear hu;unfold g3 gS Bd Tryd.f26 seq1 seq2 opsOf;simp only[Qa];walk_nrm
 refine Ad rfl rfl (by decide) rfl λd K hK=>?_;go_simp;refine hK _ ?_;clear hK K;refine Aa ?_;refine Ax (t:=false) (by simp[Act.eval]) ?_;simp only[if_true,if_false,Qh];refine Bo ?_;rw[show g4=.seq (.label 0) (.block 0 (.loop gL)) from eG4];refine Ab ?_;refine Jx (Ag _ _) ?_;refine Bt ?_;refine Gg (Ag _ _) ?_;exact hk _ ⟨rfl,rfl,(alC rfl<|alC rfl<|alC rfl<|alN)⟩
theorem give_look (c0:v.cell? ⟨s,0,none⟩=some (Pt cb 0)) (hA:Fl 56 [(0,Pt s 0),(1,Pt t.tb 0),(2,I k)] a) (cs:List Frame) (Hm:Goroutine->Prop)
 (hH:∀ g,(∃ a,Fl 56 [(0,Pt s 0),(1,Pt t.tb 0),(2,I k)] a∧Eg (h==0) i j cb t.tb 1 Bm (λr=>G (gSeen a r) cs) g)->Hm g)
 (hvw:Rel z v w) (hn:Ai Ch v) (hm:Mem z S K v) (ht:S.thr[i]? = some t) (hK:K[j]? = some (cb,y)) (hz:z t.tb=some 2) (hcont:cont ⟨t.tb,2,none⟩=.chan (some t.gc))
 (hstop:∀ g w',Fq z cont h S.bk t.gc Hm (Then z Ch S K v (waiting S i t 1 1 j) K) g w'->Stop g w'):
 GoT z (h==0) Ch Stop (G (gHead a) cs) w:=by
 have HM:Hid (Mem z S K v):=⟨hm⟩
 clear hm;unfold gSeen gO5 at hH;obtain ⟨u,rfl,hu⟩:=litF hA;clear hA;simp only[Fls] at hu;unfold gHead;simp only[Qa,lits,Nat.reduceAdd,hu];clear hu;have c0w:w.cell? ⟨s,0,none⟩=some (Pt cb 0):=by rw[hvw.cell?];exact c0
 rw[show (Item.code gL :: Item.inLoop gL :: gE')=Item.code (.block 1 gK) :: Item.inLoop gL :: gE' by rw[<-eGL]];refine Bt ?_;rw[show (Item.inBlock 1 :: Item.inLoop gL :: gE')=gE from rfl,show gK=.seq (seq1 gK) g6 from by kernel_rfl];refine Ab ?_;unfold gK gL g4 g3 gS Bd Tryd.f26 seq1 seq2 Ar Be opsOf at hH;unfold gK gL g4 g3 gS Bd Tryd.f26 seq1 seq2 Ar Be;simp only[Qa] at hH ⊢;refine Ac ?_;simp only[Sz,Sr,Nat.reduceAdd];iterate 5
  (refine Ad rfl rfl (by decide) rfl λd K hK=>?_
   go_simp;refine hK _ ?_;clear hK K)
 refine Ao (f:=44) (fn:=Tryd.f44) (args:=#[Pt cb 0,Pt t.tb 0]) (Ag _ _) rfl rfl (by decide) rfl (by simp[Act.eval]) Tryd.func44 (by decide) rfl ?_;exact Hn y _ Hm rfl (λg hg=>hH g ⟨_,⟨rfl,rfl,(alC rfl<|alC rfl<|alC rfl<|alN)⟩,hg⟩) hvw hn HM.out ht hK hz hcont hstop _ rfl
def val_g6 (s sb n m cb tb:Nat) (x:Int):Nat->Value
 |0=>Pt s 0
 |1=>Pt s 0
 |2=>Pt s 1
 |3=>.slice (some ⟨sb,0,none⟩) n n
 |4=>I m
 |5=>Pt sb (m*2)
 |6=>Pt sb (m*2)
 |7=>Pt cb 0
 |8=>Pt tb 0
 |9=>I x
 |10=>.agg #[I 0,I 32]
 |11=>I (fstI x)
 |_=>undef
theorem reg_g6:regOk gO6 12 36=true:=by kernel_rfl
theorem Jj:((gO6.extract 0 12).all λo=>E5 Tryd.prog true o.op||H8 Dh Jr o.op)=true:=by kernel_rfl
theorem g6_pre (s sb n m cb tb:Nat) (x:Int) (hkn:m<n) (hA:Fl 56 [(0,Pt s 0),(1,Pt tb 0),(2,I m),(7,I x)] a) (k:List Item) (cs:List Frame) (hF:R1.Flds v) (h1:v.cell? ⟨s,1,none⟩=some (.slice (some ⟨sb,0,none⟩) n n)) (h2:v.cell? ⟨sb,m*2,none⟩=some (Pt cb 0)) (hvw:Rel z v w) (hn:Ai Ch v)
 (hN:∀ v1 w1 a' o,gO6[12]? = some o->(∀ y,Region.wanted o y=true)->Fl 56 [(0,Pt s 0),(1,Pt tb 0),(2,I m),(7,I x),(43,Pt cb 0),(44,Pt tb 0),(47,I (fstI x))] a'->Rel z v1 w1->Ai Ch v1->Grows v v1->GoT z main Ch Stop (G ((base 26).at a' (.inRegion gO6 [12] :: k)) cs) w1):
 GoT z main Ch Stop (G ((base 26).at a (.code (.region 6 gO6 true) :: k)) cs) w:=by
 refine region_in (val:=val_g6 s sb n m cb tb x) reg_g6 (by rw[hA.1];decide) hvw hn ?_ ?_
 .intro i0 o rest a' v1 w1 hi ho hw ev ev0 r1 n1 g1 hk
  match i0,hi,ho,ev,hk with
  |0,_,ho,ev,hk=>have l0:a'.eval (.tmp 0)=Pt s 0:=(ev0 0 (by decide)).trans (hA.at 0 _ (by simp));exact Bf ho hw (by simp[base]) (p:=Op.move (Operand.tmp 0)) (by kernel_rfl) (Bg Jj (by decide) ho) r1 n1 (x:=Pt s 0) rfl (λo' h'=>by unfold execOp;rw[h'];simp only[l0];simp[go_sem]) hk
  |1,_,ho,ev,hk=>have l0:a'.eval (.tmp 36)=Pt s 0:=ev 0 (by decide) (by kernel_rfl);exact Bf ho hw (by simp[base]) (p:=Op.nilCheck (Operand.tmp 36)) (by kernel_rfl) (Bg Jj (by decide) ho) r1 n1 (x:=Pt s 0) rfl (λo' h'=>by unfold execOp;rw[h'];simp only[l0];simp[go_sem]) hk
  |2,_,ho,ev,hk=>have l0:a'.eval (.tmp 37)=Pt s 0:=ev 1 (by decide) (by kernel_rfl);exact Bf ho hw (by simp[base]) (p:=Op.fieldAddr 91 (Operand.tmp 37) 1) (by kernel_rfl) (Bg Jj (by decide) ho) r1 n1 (x:=Pt s 1) rfl (λo' h'=>by unfold execOp;rw[h'];simp only[l0];simp[go_sem]) hk
  |3,_,ho,ev,hk=>have l0:a'.eval (.tmp 38)=Pt s 1:=ev 2 (by decide) (by kernel_rfl);have c0:=g1.cell h1;exact Bf ho hw (by simp[base]) (p:=Op.load 88 (Operand.tmp 38)) (by kernel_rfl) (Bg Jj (by decide) ho) r1 n1 (x:=.slice (some ⟨sb,0,none⟩) n n) rfl (λo' h'=>by unfold execOp;rw[h'];simp only[l0];simp[go_sem,c0]) hk
  |4,_,ho,ev,hk=>have l0:a'.eval (.tmp 2)=I m:=(ev0 2 (by decide)).trans (hA.at 2 _ (by simp));exact Bf ho hw (by simp[base]) (p:=Op.move (Operand.tmp 2)) (by kernel_rfl) (Bg Jj (by decide) ho) r1 n1 (x:=I m) rfl (λo' h'=>by unfold execOp;rw[h'];simp only[l0];simp[go_sem]) hk
  |5,_,ho,ev,hk=>have l0:a'.eval (.tmp 39)=.slice (some ⟨sb,0,none⟩) n n:=ev 3 (by decide) (by kernel_rfl);have l1:a'.eval (.tmp 40)=I m:=ev 4 (by decide) (by kernel_rfl);have hk1:(m:Int)<(n:Int):=Int.ofNat_lt.2 hkn;exact Bf ho hw (by simp[base]) (p:=Op.indexAddr 88 (Operand.tmp 39) (Operand.tmp 40)) (by kernel_rfl) (Bg Jj (by decide) ho) r1 n1 (x:=Pt sb (m*2)) rfl (λo' h'=>by unfold execOp;rw[h'];simp only[l0,l1];simp[go_sem,hk1]) hk
  |6,_,ho,ev,hk=>have l0:a'.eval (.tmp 41)=Pt sb (m*2):=ev 5 (by decide) (by kernel_rfl);exact Bf ho hw (by simp[base]) (p:=Op.fieldAddr 94 (Operand.tmp 41) 0) (by kernel_rfl) (Bg Jj (by decide) ho) r1 n1 (x:=Pt sb (m*2)) rfl (λo' h'=>by unfold execOp;rw[h'];simp only[l0];simp[go_sem]) hk
  |7,_,ho,ev,hk=>have l0:a'.eval (.tmp 42)=Pt sb (m*2):=ev 6 (by decide) (by kernel_rfl);have c0:=g1.cell h2;exact Bf ho hw (by simp[base]) (p:=Op.load 89 (Operand.tmp 42)) (by kernel_rfl) (Bg Jj (by decide) ho) r1 n1 (x:=Pt cb 0) rfl (λo' h'=>by unfold execOp;rw[h'];simp only[l0];simp[go_sem,c0]) hk
  |8,_,ho,ev,hk=>have l0:a'.eval (.tmp 1)=Pt tb 0:=(ev0 1 (by decide)).trans (hA.at 1 _ (by simp));exact Bf ho hw (by simp[base]) (p:=Op.move (Operand.tmp 1)) (by kernel_rfl) (Bg Jj (by decide) ho) r1 n1 (x:=Pt tb 0) rfl (λo' h'=>by unfold execOp;rw[h'];simp only[l0];simp[go_sem]) hk
  |9,_,ho,ev,hk=>have l0:a'.eval (.tmp 7)=I x:=(ev0 7 (by decide)).trans (hA.at 7 _ (by simp));exact Bf ho hw (by simp[base]) (p:=Op.move (Operand.tmp 7)) (by kernel_rfl) (Bg Jj (by decide) ho) r1 n1 (x:=I x) rfl (λo' h'=>by unfold execOp;rw[h'];simp only[l0];simp[go_sem]) hk
  |10,_,ho,ev,hk=>have c0:=g1.cell hF.a0;have c1:=g1.cell hF.a1;exact Bf ho hw (by simp[base]) (p:=Op.load 98 (Operand.global 0)) (by kernel_rfl) (Bg Jj (by decide) ho) r1 n1 (x:=.agg #[I 0,I 32]) rfl (λo' h'=>by unfold execOp;rw[h'];simp only[Act.eval];simp[go_sem,c0,c1]) hk
  |11,_,ho,ev,hk =>have l0:a'.eval (.tmp 45)=I x:=ev 9 (by decide) (by kernel_rfl);have l1:a'.eval (.tmp 46)=.agg #[I 0,I 32]:=ev 10 (by decide) (by kernel_rfl);exact Kz (f:=45) (fn:=Tryd.f45) (xs:=#[.tmp 45,.tmp 46]) (ats:=#[3,98]) (args:=#[I x,.agg #[I 0,I 32]]) ho hw (by simp[base]) (by kernel_rfl) (by simp only[List.map_toArray,List.map_cons,List.map_nil,l0,l1]) Tryd.func45 (by kernel_rfl) rfl (Ci Dn (by simp[LT,Dh]) Tryd.func45 rfl) (λtmps=>⟨_,λw=>results_tmp rfl _ _ _,λw=>by simp[results,go_sem,Tryd.f45]⟩) r1 n1 (x:=I (fstI x)) rfl (λτ=>wp_mono (R1.Ew x 0 32 (Ap v1 τ 0) (by decide) (by decide) (by decide) _ rfl) (Dm λr u hq=>⟨hq.1,gtape (Dv hq.2)⟩)) hk
 .intro v1 w1 o ho hw r1 n1 g1
  refine hN v1 w1 _ o ho hw ⟨(Hk _ _ _ _).trans hA.1,(Gp _ _ _ _).trans hA.2.1,?_⟩ r1 n1 g1;have hsz:36+12<=a.tmps.size:=by rw[hA.1];decide
  intro p hp;simp only[Sm,or_false] at hp;rcases hp with rfl|rfl|rfl|rfl|rfl|rfl|rfl;rw[Qe,Br _ _ _ _ _ hsz,if_neg (by simp),<-Qe];exact hA.2.2 (0,Pt s 0) (by simp);rw[Qe,Br _ _ _ _ _ hsz,if_neg (by simp),<-Qe];exact hA.2.2 (1,Pt tb 0) (by simp);rw[Qe,Br _ _ _ _ _ hsz,if_neg (by simp),<-Qe];exact hA.2.2 (2,I m) (by simp);rw[Qe,Br _ _ _ _ _ hsz,if_neg (by simp),<-Qe];exact hA.2.2 (7,I x) (by simp);rw[Qe,Br _ _ _ _ _ hsz,if_pos (by simp)];rfl;rw[Qe,Br _ _ _ _ _ hsz,if_pos (by simp)];rfl;rw[Qe,Br _ _ _ _ _ hsz,if_pos (by simp)];rfl
theorem give_next (hkn:k<n) (hF:R1.Flds v) (h1:v.cell? ⟨s,1,none⟩=some (.slice (some ⟨sb,0,none⟩) n n)) (h2:v.cell? ⟨sb,k*2,none⟩=some (Pt cb 0)) (hA:Fl 56 [(0,Pt s 0),(1,Pt t.tb 0),(2,I k)] a) (cs:List Frame) (Hm:Goroutine->Prop)
 (hH:∀ g,(∃ a,Fl 56 [(0,Pt s 0),(1,Pt t.tb 0),(2,I k),(7,I x)] a∧Eg (h==0) i j cb t.tb 2 (Bz (fstI x)) (λr=>G (gStored a r) cs) g)->Hm g)
 (hvw:Rel z v w) (hn:Ai Ch v) (hm:Mem z S K v) (ht:S.thr[i]? = some t) (hK:K[j]? = some (cb,y)) (hz:z t.tb=some 2) (hcont:cont ⟨t.tb,2,none⟩=.chan (some t.gc))
 (hstop:∀ g w',Fq z cont h S.bk t.gc Hm (Then z Ch S K v (waiting S i t 1 2 j) K) g w'->Stop g w'):
 GoT z (h==0) Ch Stop (G (gSeen a (I x)) cs) w:=by
 have HM:Hid (Mem z S K v):=⟨hm⟩
 clear hm;obtain ⟨u,rfl,hu⟩:=litF hA;clear hA;simp only[Fls] at hu;unfold gSeen;simp only[Qa,lits,Nat.reduceAdd,hu];clear hu;unfold gO5 gK gL g4 g3 gS Bd Tryd.f26 seq1 seq2 Ar Be opsOf;simp only[Qa];walk_nrm
 refine Ad rfl rfl (by decide) rfl λd K hK=>?_;go_simp;refine hK _ ?_;clear hK K;refine Aa ?_;rw[eG6];refine Ab ?_;refine g6_pre s sb n k cb t.tb x hkn ⟨rfl,rfl,(alC rfl<|alC rfl<|alC rfl<|alC rfl<|alN)⟩ _ cs hF h1 h2 hvw hn (λv4 w4 a' o ho hw hA hvw4 hn4 hg4=>?_);have hm4:=HM.out.grows hg4;have e43:a'.eval (.tmp 43)=Pt cb 0:=hA.at 43 _ (by simp);have e44:a'.eval (.tmp 44)=Pt t.tb 0:=hA.at 44 _ (by simp);have e47:a'.eval (.tmp 47)=I (fstI x):=hA.at 47 _ (by simp);have hop:(gO6[12]?).map (·.op)=some (.call { callee:=.value (.func 47),args:=#[.tmp 43,.tmp 44,.tmp 47],argTypes:=#[89,52,3] }):=by kernel_rfl
 have hds:(gO6[12]?).map (·.dst)=some (some 48):=by kernel_rfl
 rw[ho] at hop hds;have hop':=Qd hop;have hds':o.dst=some 48:=Qd hds;refine Ao (f:=47) (fn:=Tryd.f47) (args:=#[Pt cb 0,Pt t.tb 0,I (fstI x)]) (Ag _ _) ho (hw _) (by simp[base]) hop' (by simp only[List.map_toArray,List.map_cons,List.map_nil,e43,e44,e47]) Tryd.func47 (by decide) rfl ?_;refine store_goes (fstI x) y _ Hm ho (λg hg=>hH g ⟨a',⟨hA.1,hA.2.1,λp hp=>hA.2.2 p (by simp only[Sm,or_false] at hp ⊢;rcases hp with rfl|rfl|rfl|rfl<;>simp)⟩,?_⟩) hvw4 hn4 hm4.mem ht hK hz hcont (λg w' hs=>hstop g w' (Hr (λhT=>by obtain ⟨v',r1,r2,r3⟩:=hT;exact ⟨v',r1,r2,hm4.trans r3⟩) hs)) _ rfl;rw[hds'] at hg;exact hg
theorem give_try (hk3:k<1000) (r:Value) (hA:Fl 56 [(0,Pt s 0),(1,Pt tb 0),(2,I k),(7,I x)] a) (cs:List Frame)
 (hk:∀ a code,Tryd.f46.body=some code->Fl 56 [(0,Pt s 0),(1,Pt tb 0),(2,I k),(7,I x)] a->GoT z main Ch Stop (G ((base 46).at { tmps:=#[Pt s 0,Pt tb 0,I x,I ((k:Int)+1)]++Array.replicate 18 undef,defers:=[] } [.code code]) (gTry a :: cs)) w):
 GoT z main Ch Stop (G (gStored a r) cs) w:=by
 have hwr:IntKind.i64.wrap ((k:Int)+1)=(k:Int)+1:=by rw[IntKind.wrap_i64];omega
 unfold gTry at hk;obtain ⟨u,rfl,hu⟩:=litF hA;clear hA;simp only[Fls] at hu;unfold gStored;simp only[Qa,lits,Nat.reduceAdd,hu];clear hu;refine Aa ?_;rw[eG7];refine Ab ?_;refine Ab ?_;unfold gO7 g7 g6 gK gL g4 g3 gS Bd Tryd.f26 seq1 seq2 Ar Be opsOf at hk ⊢;simp only[Qa] at hk ⊢;refine Ac ?_;simp only[Sz,Sr,Nat.reduceAdd];iterate 5
  (refine Ad rfl rfl (by decide) rfl λd K hK=>?_
   go_simp;refine hK _ ?_;clear hK K)
 refine Ao (f:=46) (fn:=Tryd.f46) (args:=#[Pt s 0,Pt tb 0,I x,I ((k:Int)+1)]) (Ag _ _) rfl rfl (by decide) rfl (by simp[Act.eval]) Tryd.func46 (by decide) rfl ?_;exact hk _ _ rfl ⟨rfl,rfl,(alC rfl<|alC rfl<|alC rfl<|alC rfl<|alN)⟩
theorem give_again  (hA:Fl 56 [(0,Pt s 0),(1,Pt tb 0),(2,I k),(7,I x)] a) (cs:List Frame)
 (hk:∀ a,Fl 56 [(0,Pt s 0),(1,Pt tb 0),(2,I k)] a->GoT z main Ch Stop (G (gHead a) cs) w):
 GoT z main Ch Stop (G (gTried a (.bool false)) cs) w:=by
 unfold gHead gE' at hk
 try simp only[Qa] at hk
 obtain ⟨u,rfl,hu⟩:=litF hA;clear hA;simp only[Fls] at hu;unfold gTried gO7 gC7 g7 g6 gK gL g4 g3 gS Bd Tryd.f26 seq1 seq2 Ar Be opsOf;simp only[Qa,lits,Nat.reduceAdd,hu];clear hu;walk_nrm
 refine Ad rfl rfl (by decide) rfl λd K hK=>?_;go_simp;refine hK _ ?_;clear hK K;refine Aa ?_;refine Ax (t:=true) (by simp[Act.eval]) ?_;simp only[if_true,if_false,Qh];rw[show gE=Item.inBlock 1 :: .inLoop gL :: [.inBlock 0,.inScope gS] from rfl];refine E7 (Ag _ _) (k':=[.inLoop gL,.inBlock 0,.inScope gS]) rfl ?_;refine Ea (Ag _ _) ?_;exact hk _ ⟨rfl,rfl,(alC rfl<|alC rfl<|alC rfl<|alN)⟩
theorem give_done  (hA:Fl 56 [(0,Pt s 0),(1,Pt tb 0),(2,I k),(7,I x)] a) (cs:List Frame) {rest:List Nat}(hoc:ops[q]? = some oc) (hvw:Rel z v w) (hn:Ai Ch v)
 (hk:∀ w',Rel z v w'->GoT z main Ch Stop (G (bc.at (ac.put oc.dst (I 0)) (.inRegion ops rest :: k0)) cs) w'):
 GoT z main Ch Stop (G (gTried a (.bool true)) (bc.at ac (.inRegion ops (q :: rest) :: k0) :: cs)) w:=by
 obtain ⟨u,rfl,hu⟩:=litF hA;clear hA;simp only[Fls] at hu;unfold gTried gO7 gC7 g8 g7 g6 gK gL g4 g3 gS Bd Tryd.f26 seq1 seq2 Ar Be opsOf;simp only[Qa,lits,Nat.reduceAdd,hu];clear hu;walk_nrm
 refine Ad rfl rfl (by decide) rfl λd K hK=>?_;go_simp;refine hK _ ?_;clear hK K;refine Aa ?_;refine Ax (t:=false) (by simp[Act.eval]) ?_;simp only[if_true,if_false,Qh];refine Bo ?_;refine Ab ?_;refine Ac ?_;simp only[Sz,Sr,Nat.reduceAdd];refine Ad rfl rfl (by decide) rfl λd K hK=>?_;go_simp;refine hK _ ?_;clear hK K;refine Aa ?_;refine GoesI.ctl rfl (λ_=>stepG_ret') (Ag _ _) ?_;exact Ce (f:=26) (fn:=Tryd.f26) (x:=I 0) hvw hn Tryd.func26 rfl hoc (by simp[results,go_sem,Tryd.f26]) (λw' r'=>hk w' r')
end Go.Proofs.YtbbhahigofeacaaDoor.Gen
