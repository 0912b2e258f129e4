/- Of the proof of StackKeeps. Part 17 of 33. (Joined, by program, and written short, of: GLit, Cas, GReg, StCh.) -/
import Derived.Test.YtbbhahigofeacaaDoorStackKeeps05
import Derived.Test.YtbbhahigofeacaaDoorStackKeeps06
import Derived.Test.YtbbhahigofeacaaDoorStackKeeps14
import Derived.Test.YtbbhahigofeacaaDoorStackKeeps16
import Derived.BigQuiet
set_option linter.unusedSimpArgs false
set_option linter.unusedVariables false
set_option maxHeartbeats 4000000
set_option maxRecDepth 100000
namespace Go.Proofs.YtbbhahigofeacaaDoor.Gen
open Go Go.Lift Go.Conc Go.RowKit
def lits (u:Nat->Value):Nat->Nat->List Value
 |_,0=>[]
 |s,n+1=>u s :: lits u (s+1) n
theorem lits_get (u:Nat->Value):∀ (n s i:Nat),(lits u s n)[i]? = if i<n then some (u (s+i)) else none
 |0,s,i=>by simp[lits]
 |n+1,s,0=>by simp[lits]
 |n+1,s,i+1=>by
  have:=lits_get u n (s+1) i
  simp only[lits,List.getElem?_cons_succ,this,Nat.add_lt_add_iff_right]
  rw[show s+1+i=s+(i+1) by omega]
theorem litN {n:Nat} {a:Act} (h:a.tmps.size=n) (hd:a.defers=[]):∃ u:Nat->Value,a={ tmps:=(lits u 0 n).toArray,defers:=[] }∧∀ i,a.tmps.getD i undef=u i:=by
 obtain ⟨⟨l⟩,ds⟩:=a
 simp only at hd h
 subst hd
 refine ⟨fun i=>(Array.mk l).getD i undef,?_,fun i=>rfl⟩
 have e:l=lits (fun i=>(Array.mk l).getD i undef) 0 n:=by
  apply List.ext_getElem?
  intro i
  rw[lits_get]
  have hl:l.length=n:=h
  by_cases hi:i<n
  ·rw[if_pos hi,List.getElem?_eq_getElem (by omega)]
   simp[Array.getD,hl,hi]
  ·rw[if_neg hi,List.getElem?_eq_none (by omega)]
 exact congrArg (fun x=>({ tmps:=x.toArray,defers:=[] }:Act)) e
def Fl (n:Nat) (l:List (Nat×Value)) (a:Act):Prop:=a.tmps.size=n∧a.defers=[]∧∀ p∈l,a.tmps.getD p.1 undef=p.2
theorem Fl.sub {n:Nat}{l l':List (Nat×Value)}{a:Act}(h:Fl n l a) (hs:∀ p∈l',p∈l):Fl n l' a:=⟨h.1,h.2.1,fun p hp=>h.2.2 p (hs p hp)⟩
theorem Fl.at {n:Nat}{l:List (Nat×Value)}{a:Act}(h:Fl n l a) (k:Nat) (v:Value) (hs:(k,v)∈l):a.eval (.tmp k)=v:=h.2.2 (k,v) hs
def Fls (u:Nat->Value):List (Nat×Value)->Prop
 | []=>True
 | [p]=>u p.1=p.2
 |p :: q :: l=>u p.1=p.2∧Fls u (q :: l)
theorem fls_of {u:Nat->Value}:∀ {l:List (Nat×Value)},(∀ p∈l,u p.1=p.2)->Fls u l
 | [],_=>trivial
 | [p],h=>h p (.head _)
 |p :: q :: l,h=>⟨h p (.head _),fls_of (l:=q :: l) fun r hr=>h r (.tail _ hr)⟩
theorem litF {n:Nat} {l:List (Nat×Value)} {a:Act} (h:Fl n l a):∃ u:Nat->Value,a={ tmps:=(lits u 0 n).toArray,defers:=[] }∧Fls u l:=by
 obtain ⟨u,e,hg⟩:=litN h.1 h.2.1
 exact ⟨u,e,fls_of fun p hp=>(hg p.1).symm.trans (h.2.2 p hp)⟩
end Go.Proofs.YtbbhahigofeacaaDoor.Gen
namespace Go.Proofs.YtbbhahigofeacaaDoor
open Go Go.Lift Go.Conc Go.RowKit
def Bj (a y x:Int):(Int×Int)×Int×Value:=if x=a then ((a,y),y,.bool true) else ((x,x),x,.bool false)
noncomputable def rest14:Code:=seq2 (seq2 (Tryd.f48.body.getD .skip))
theorem fine14:A7 Tryd.prog true LT rest14:=Dc Ci extT (by kernel_rfl)
theorem tail14 {z:Nat->Option Nat}{S:TS}{K:List (Nat×Int)}{v:World}{i j cb:Nat}{t:Thr}{x:Int}{a y:Int}(hm:Mem z S K v) (ht:S.thr[i]? = some t) (hK:K[j]? = some (cb,x)) (hn:(S.n+1)*40≤140737488355328) (a10 a11 a12 a13 a14 a15:Value) :
 rest14.wp Tryd.prog (bodyPost Tryd.prog Tryd.f48 (fun e w'=>∃ r,e=.returned r∧(r=(Bj a y x).2.2∧∃ tv,Evo z S K v (didS S tv i t (Bj a y x).1.1 (Bj a y x).1.2) (K.set j (cb,(Bj a y x).2.1)) w')))
  { tmps:=#[Pt cb 0,Pt t.tb 0,I a,I y,undef,undef,undef,undef,.bool false,undef,a10,a11,a12,a13,a14,a15,undef,undef,undef,undef,undef,undef,undef,undef,undef,undef,undef,undef,undef,undef,undef,undef,undef,undef],defers:=[] } v:=by
 obtain ⟨_,c1,f1⟩:=hm.cells hK
 have HM:Hid (Mem z S K v):=⟨hm⟩
 by_cases hx:x=a
 ·subst hx
  have HW:Hid (Evo z S K v S (K.set j (cb,y)) (v.setCell ⟨cb,1,none⟩ (I y))):=⟨Evo.write hm hK _⟩
  have HQ:Hid (Bj x y x=((x,y),y,.bool true)):=⟨by simp[Bj]⟩
  rw[HQ.out]
  clear hm hK
  simp only at c1 f1
  show Code.wp Tryd.prog (seq2 (seq2 (Tryd.f48.body.getD .skip))) _ _ _
  unfold Tryd.f48 seq2
  simp only[Option.getD_some]
  go_wp2_with (first
   |(go_at_call 72;refine ((body28 cb x y _ c1 f1).calls Tryd.func72 rfl).mono ?_;rintro e w1 ⟨_,rfl,rfl,rfl⟩)
   |(go_at_call 69;refine ((body27 HW.out.mem.rep ht x y hn).calls Tryd.func69 rfl).mono ?_;rintro e w2 ⟨_,rfl,rfl,tv,hev⟩))
  go_ret
  exact ⟨_,rfl,rfl,tv,HW.out.did hev⟩
 have HW:Hid (Evo z S K v S (K.set j (cb,x)) v):=⟨by rw[set_same hK];exact Evo.refl hm⟩
 have HQ:Hid (Bj a y x=((x,x),x,.bool false)):=⟨by simp[Bj,hx]⟩
 rw[HQ.out]
 clear hm hK
 simp only at c1 f1
 show Code.wp Tryd.prog (seq2 (seq2 (Tryd.f48.body.getD .skip))) _ _ _
 unfold Tryd.f48 seq2
 simp only[Option.getD_some]
 go_wp2_with (first
  |(go_at_call 72;refine ((body28n cb x a y _ c1 f1 hx).calls Tryd.func72 rfl).mono ?_;rintro e w1 ⟨_,rfl,rfl,rfl⟩)
  |(go_at_call 68;refine ((body29 cb x _ c1).calls Tryd.func68 rfl).mono ?_;rintro e w1 ⟨_,rfl,rfl,rfl⟩)
  |(go_at_call 69;refine ((body27 HW.out.mem.rep ht x x hn).calls Tryd.func69 rfl).mono ?_;rintro e w2 ⟨_,rfl,rfl,tv,hev⟩))
 go_ret
 exact ⟨_,rfl,rfl,tv,HW.out.did hev⟩
theorem res14 (tmps:Array Value):∃ v,(∀ w,(results Tryd.f48 tmps).run Tryd.prog w=.ok v w)∧∀ w,(results Tryd.f48 tmps).events Tryd.prog w #[]=#[] :=
 ⟨_,fun _=>results_tmp rfl _ _ _,fun _=>by simp[results,go_sem]⟩
theorem cas_goes {z:Nat->Option Nat}{Ch:Nat->Prop}{Stop:Goroutine->World->Prop}{h:Nat}{cont:Addr->Value}{S:TS}{K:List (Nat×Int)}{v w:World}{i j cb:Nat}{t:Thr}(a y:Int) (x:Int) (cs:List Frame) (Hm:Goroutine->Prop) {bc:Frame}{ac:Act}{ops:Array Oper}{q:Nat}{rest:List Nat}{oc:Oper}{k:List Item}(hoc:ops[q]? = some oc)
 (hH:∀ g,D5 (h==0) i j cb t.tb 4 (Bj a y) (fun r=>G (bc.at (ac.put oc.dst r) (.inRegion ops rest :: k)) cs) g->Hm g)
 (hvw:Rel z v w) (hn:Ah Ch v) (hm:Mem z S K v) (ht:S.thr[i]? = some t) (hK:K[j]? = some (cb,x)) (hz:z t.tb=some 2) (hcont:cont ⟨t.tb,2,none⟩=.chan (some t.gc))
 (hstop:∀ g w',E5 z cont h S.bk t.gc Hm (Then z Ch S K v (waiting S i t 1 4 j) K) g w'->Stop g w') (code:Code) (hc:Tryd.f48.body=some code) :
 GoesI Tryd.prog (h==0) (DT (ScZ z) Ch) Stop (G ((base 48).at { tmps:=#[Pt cb 0,Pt t.tb 0,I a,I y]++Array.replicate 30 undef,defers:=[] } [.code code]) (bc.at ac (.inRegion ops (q :: rest) :: k) :: cs)) w:=by
 obtain rfl:=Option.some.inj hc
 clear hc
 have e0:w.cell? ⟨cb,0,none⟩=some (I j):=by rw[hvw.cell?];exact (hm.cells hK).1
 simp only[Array.replicate_succ,Array.replicate_zero,List.push_toArray,List.append_toArray,List.nil_append,List.cons_append]
 have HM:Hid (Mem z S K v):=⟨hm⟩
 clear hm
 refine Ac (Aa _ _) ?_
 refine Ae (Aa _ _) ?_
 simp only[List.size_toArray,List.length_cons,List.length_nil,Nat.reduceAdd,Nat.zero_add,List.range,List.range.loop]
 (refine Ad rfl rfl (by decide) (fun d K hK=>?_)
  go_simp
  refine hK _ _ ⟨Af (fun e he=>?_),GoesI.at ?_ d⟩
  ·have hm:=mem_listed he
   simp[go_sem, *] at hm
  clear hK K)
 refine Ab (Aa _ _) ?_
 refine Ac (Aa _ _) ?_
 refine Ae (Aa _ _) ?_
 simp only[List.size_toArray,List.length_cons,List.length_nil,Nat.reduceAdd,Nat.zero_add,List.range,List.range.loop]
 iterate 5
  (refine Ad rfl rfl (by decide) (fun d K hK=>?_)
   go_simp
   refine hK _ _ ⟨Af (fun e he=>?_),GoesI.at ?_ d⟩
   ·have hm:=mem_listed he
    simp[go_sem, *] at hm
    try exact ⟨_,_,hm⟩
   clear hK K)
 refine Ao (f:=67) (fn:=Tryd.f67) (args:=#[Pt t.tb 0,I j,I 4]) (Aa _ _) rfl rfl (by decide) rfl (by simp[Act.eval]) Tryd.func67 (by decide) rfl ?_
 refine turn_mem 4 j _ Hm rfl (fun g hg=>hH g ?_) hvw hn HM.out ht hz hcont hstop _ rfl
 intro z1 Ch1 St yy w1 v1 S1 K1 t1 x1 r1 n1 m1 h1 htb hop hce hK1 hn1 hk
 refine hg _ St yy w1 (Aa _ _) ?_
 refine Ab (Aa _ _) ?_
 rw[←htb]
 refine Gz (f:=48) (fn:=Tryd.f48) (c:=rest14) hE Di r1 n1 Tryd.func48 fine14 rfl hoc res14 (fun τ=>?_) (fun r v' w' hR hr' hn'=>?_) (R:=fun r w'=>r=(Bj a y x1).2.2∧∃ tv,Evo z1 S1 K1 v1 (didS S1 tv i t1 (Bj a y x1).1.1 (Bj a y x1).1.2) (K1.set j (cb,(Bj a y x1).2.1)) w')
 ·refine wp_mono (tail14 (m1.same (v':=Ap v1 τ 0) rfl) h1 hK1 hn1 _ _ _ _ _ _) (Dh fun r u hq=>⟨hq.1,hq.2.choose,hq.2.choose_spec.base rfl rfl rfl⟩)
 ·obtain ⟨rfl,tv,he⟩:=hR
  exact hk v' w' tv hr' hn' he
end Go.Proofs.YtbbhahigofeacaaDoor
namespace Go.Proofs.YtbbhahigofeacaaDoor.Gen
open Go Go.Lift Go.Conc Go.RowKit
def putN (a:Act) (d:Nat) (val:Nat->Value):Nat->Act
 |0=>a
 |n+1=>(putN a d val n).put (some (d+n)) (val n)
theorem F4 (a:Act) (d:Nat) (val:Nat->Value):∀ n,(putN a d val n).defers=a.defers
 |0=>rfl
 |n+1=>F4 a d val n
theorem Gx (a:Act) (d:Nat) (val:Nat->Value):∀ n,(putN a d val n).tmps.size=a.tmps.size
 |0=>rfl
 |n+1=>by
  show ((putN a d val n).tmps.setIfInBounds (d+n) (val n)).size=_
  rw[Array.size_setIfInBounds,Gx a d val n]
theorem Bl (a:Act) (d:Nat) (val:Nat->Value) (t:Nat):∀ n,d+n≤a.tmps.size->(putN a d val n).tmps[t]? = if d≤t∧t<d+n then some (val (t - d)) else a.tmps[t]?
 |0,_=>by rw[if_neg (by omega)];rfl
 |n+1,h=>by
  show ((putN a d val n).tmps.setIfInBounds (d+n) (val n))[t]? = _
  have hs:d+n<(putN a d val n).tmps.size:=by rw[Gx];omega
  rw[Array.getElem?_setIfInBounds]
  by_cases e:d+n=t
  ·subst e
   rw[if_pos rfl,if_pos hs,if_pos (by omega)]
   rw[show d+n - d=n by omega]
  ·rw[if_neg e,Bl a d val t n (by omega)]
   by_cases h1:d≤t∧t<d+n
   ·rw[if_pos h1,if_pos (by omega)]
   ·rw[if_neg h1,if_neg (by omega)]
def oneWay (md:Region.Mode) (ops:Array Oper) (n:Nat):Bool:=(List.range ops.size).all fun m=>decide (m<n)||(Region.ready md ops (Cf ops.size m)==[m])
theorem listedN_set {s n:Nat}:(Cf s n).setIfInBounds n true=Cf s (n+1):=by
 apply Array.ext_getElem?
 intro j
 rw[Array.getElem?_setIfInBounds]
 have hsz:(Cf s n).size=s:=by simp[Cf]
 by_cases hj:j<s
 ·rw[Hk hj,Hk hj]
  by_cases e:n=j
  ·subst e
   rw[if_pos rfl,if_pos (by omega)]
   simp
  ·rw[if_neg e]
   congr 1
   simp only[decide_eq_decide]
   omega
 ·have h1:(Cf s (n+1))[j]? = none:=Array.getElem?_eq_none (by have:(Cf s (n+1)).size=s:=by simp[Cf]
                                                              omega)
  have h2:(Cf s n)[j]? = none:=Array.getElem?_eq_none (by omega)
  rw[h1,h2]
  split
  ·rename_i e
   rw[if_neg (by omega)]
  ·rfl
theorem one_way {md:Region.Mode}{ops:Array Oper}:∀ (k n t:Nat),oneWay md ops n=true->n+k=ops.size->Region.linearise.go md ops k t (Cf ops.size n) []=List.range' n k
 |0,n,t,_,_=>rfl
 |k+1,n,t,h,hk=>by
  have hr:Region.ready md ops (Cf ops.size n)=[n]:=by
   unfold oneWay at h
   rw[List.all_eq_true] at h
   have:=h n (List.mem_range.2 (by omega))
   simpa using this
  have h':oneWay md ops (n+1)=true:=by
   unfold oneWay at h ⊢
   rw[List.all_eq_true] at h ⊢
   intro m hm
   have:=h m hm
   simp only[Bool.or_eq_true,decide_eq_true_eq] at this ⊢
   rcases this with h1|h1
   ·left;omega
   ·exact .inr h1
  simp only[Region.linearise.go]
  change (match (Region.ready md ops (Cf ops.size n))[t % (Region.ready md ops (Cf ops.size n)).length]? with
   |some i=>Region.linearise.go md ops k (t / (Region.ready md ops (Cf ops.size n)).length) ((Cf ops.size n).setIfInBounds i true) [i]
   |none=>[].reverse)=_
  rw[hr]
  simp only[List.length_cons,List.length_nil,Nat.zero_add,Nat.mod_one,List.getElem?_cons_zero]
  rw[linearise_go_acc,List.reverse_singleton,List.singleton_append,listedN_set,one_way k (n+1) _ h' (by omega)]
  rfl
def depOn (ops:Array Oper) (i j:Nat):Bool:=((ops[i]?).map (fun o=>o.after.toList.any fun e=>e.on==j&&Region.binds .any e))==some true
def regOk (ops:Array Oper) (n d:Nat):Bool :=
 leadsOn .any ops n&&inText .any ops n&&oneWay .any ops n&&decide (n<ops.size)&&((List.range n).all fun i=>(ops[i]?).map (·.dst)==some (some (d+i)))&&((List.range (n+1)).all fun i=>(ops[i]?).map (·.guard.isNone)==some true)
section
variable {z:Nat->Option Nat}{Ch:Nat->Prop}{Stop:Goroutine->World->Prop}{main:Bool}{b:Frame}{k:List Item}{cs:List Frame}{ops:Array Oper}{n d id:Nat}{val:Nat->Value}{a0:Act}{v w:World}
theorem grefl (v:World):Grows v v:=⟨Nat.le_refl _,fun _ _=>rfl,rfl,rfl⟩
theorem gtrans {v v' v'':World}(h:Grows v v') (k:Grows v' v''):Grows v v'':=⟨Nat.le_trans h.size k.size,fun b hb=>(k.old b (Nat.lt_of_lt_of_le hb h.size)).trans (h.old b hb),k.os.trans h.os,k.output.trans h.output⟩
theorem region_in (hreg:regOk ops n d=true) (hsz:d+n≤a0.tmps.size) (hvw:Rel z v w) (hn:Ah Ch v)
 (hop:∀ (i:Nat) (o:Oper) (rest:List Nat) (a:Act) (v1 w1:World),i<n->ops[i]? = some o->Region.wanted o (yielded ops a.tmps)=true->(∀ j,j<n->depOn ops i j=true->a.eval (.tmp (d+j))=val j)->(∀ t,t<d->a.eval (.tmp t)=a0.eval (.tmp t))->Rel z v1 w1->Ah Ch v1->Grows v v1 ->
   (∀ v2 w2,Rel z v2 w2->Ah Ch v2->Grows v1 v2->GoesI Tryd.prog main (DT (ScZ z) Ch) Stop (G (b.at (a.put o.dst (val i)) (.inRegion ops rest :: k)) cs) w2) ->
   GoesI Tryd.prog main (DT (ScZ z) Ch) Stop (G (b.at a (.inRegion ops (i :: rest) :: k)) cs) w1)
 (hN:∀ v1 w1 o,ops[n]? = some o->(∀ y,Region.wanted o y=true)->Rel z v1 w1->Ah Ch v1->Grows v v1->GoesI Tryd.prog main (DT (ScZ z) Ch) Stop (G (b.at (putN a0 d val n) (.inRegion ops (List.range' n (ops.size - n)) :: k)) cs) w1) :
 GoesI Tryd.prog main (DT (ScZ z) Ch) Stop (G (b.at a0 (.code (.region id ops true) :: k)) cs) w:=by
 unfold regOk at hreg
 simp only[Bool.and_eq_true,decide_eq_true_eq] at hreg
 obtain ⟨⟨⟨⟨⟨h1,h2⟩,h3⟩,h4⟩,h5⟩,h6⟩:=hreg
 have hdst:∀ (i:Nat),i<n->∀ o,ops[i]? = some o->o.dst=some (d+i):=fun i hi o ho=>by
  have:=(List.all_eq_true.1 h5) i (List.mem_range.2 hi)
  rw[ho] at this
  simpa using this
 have hgd:∀ (i:Nat),i<n+1->∀ o,ops[i]? = some o->o.guard=none:=fun i hi o ho=>by
  have:=(List.all_eq_true.1 h6) i (List.mem_range.2 hi)
  rw[ho] at this
  simpa using this
 refine Iu (n:=n) (val:=val) (J:=fun w=>∃ v1,Rel z v1 w∧Ah Ch v1∧Grows v v1) mix21 (fun w d ⟨v1,hJ,hJ2⟩=>⟨v1,hJ.re rfl rfl rfl rfl rfl rfl,hJ2⟩) (fun w=>dt_draw _ _ w) h1 h2 (on:=ops[n]'h4) (Array.getElem?_eq_getElem h4) ?_ ?_ ?_ (putN a0 d val n) ?_ ?_ ⟨v,hvw,hn,grefl v⟩
 ·intro i j oi oj t hi hj hoi hoj hti htj
  rw[hdst i hi oi hoi] at hti
  rw[hdst j hj oj hoj] at htj
  have e:d+i=d+j:=(Option.some.inj hti).trans (Option.some.inj htj).symm
  omega
 ·intro i o t hi ho ht
  rw[hdst i hi o ho] at ht
  have e:d+i=t:=Option.some.inj ht
  subst e
  show d+i<a0.tmps.size
  omega
 ·intro i o rest listed a w1 hi ho hdep hagr ⟨v1,r1,n1,g1⟩ hgo
  refine hop i o rest a v1 w1 hi ho (by simp[Region.wanted,hgd i (by omega) o ho]) (fun j hj hd=>?_) (fun t ht=>?_) r1 n1 g1 (fun v2 w2 r2 n2 g2=>hgo w2 ⟨v2,r2,n2,gtrans g1 g2⟩)
  ·have hjs:j<ops.size:=by omega
   refine hagr.eval hj (o:=ops[j]) (Array.getElem?_eq_getElem hjs) ?_ (hdst j hj _ (Array.getElem?_eq_getElem hjs))
   unfold depOn at hd
   rw[ho] at hd
   simp only[Option.map_some,beq_iff_eq,Option.some.injEq,List.any_eq_true,Bool.and_eq_true] at hd
   obtain ⟨e,he,e1,e2⟩:=hd
   rw[←e1]
   exact hdep e he e2
  ·refine hagr.eval0 (fun j o hj ho e=>?_)
   rw[hdst j hj o ho] at e
   have:d+j=t:=Option.some.inj e
   subst this
   exact absurd ht (by show ¬ d+j<d;omega)
 ·refine ⟨F4 a0 d val n,Gx a0 d val n,fun j o t hj ho _ ht=>?_,fun t ht=>?_⟩
  ·rw[hdst j hj o ho] at ht
   have e:d+j=t:=Option.some.inj ht
   subst e
   rw[Bl a0 d val _ n hsz,if_pos (by omega),show d+j - d=j by omega]
  ·rw[Bl a0 d val _ n hsz,if_neg]
   rintro ⟨q1,q2⟩
   obtain ⟨t,rfl⟩:∃ t':Nat,t'=t:=⟨t,rfl⟩
   have hjs:t - d<ops.size:=by omega
   refine ht (t - d) (ops[t - d]) (by omega) (Array.getElem?_eq_getElem hjs) ?_ ?_
   ·rw[Array.getD_eq_getD_getElem?,Hk hjs]
    simp
    omega
   ·rw[hdst (t - d) (by omega) _ (Array.getElem?_eq_getElem hjs)]
    exact congrArg some (show d+(t - d)=t by omega)
 ·rintro t w1 ⟨v1,r1,n1,g1⟩
  rw[one_way (ops.size - n) n t h3 (by omega)]
  exact hN v1 w1 (ops[n]'h4) (Array.getElem?_eq_getElem h4) (fun y=>by simp[Region.wanted,hgd n (by omega) _ (Array.getElem?_eq_getElem h4)]) r1 n1 g1
theorem Bf {m:Nat}(h:((ops.extract 0 m).all fun o=>Et Tryd.prog true o.op||Hf Da I5 o.op)=true) {i:Nat}(hi:i<m) {o:Oper}(ho:ops[i]? = some o):D9 Tryd.prog true LT o:=by
 refine Bg Ci extT ((Array.all_eq_true_iff_forall_mem.1 h) o ?_)
 have:(ops.extract 0 m)[i]? = some o:=by
  have hs:=(Array.getElem?_eq_some_iff.1 ho).1
  rw[Array.getElem?_extract,if_pos (by omega)]
  simpa using ho
 exact Array.mem_of_getElem? this
theorem Be {i:Nat}{o:Oper}{rest:List Nat}{a:Act}{v1 w1:World}(ho:ops[i]? = some o) (hw:Region.wanted o (yielded ops a.tmps)=true) (hk:b.kind≠.early) {p:Op}(hp:(ops[i]?).map (·.op)=some p) (hf:D9 Tryd.prog true LT o) (hr:Rel z v1 w1) (hn:Ah Ch v1) {x:Value}(hx:val i=x)
 (hrun:∀ o':Oper,o'.op=p->(execOp a.eval o').run Tryd.prog v1=.ok (.value x) v1)
 (hk2:∀ v2 w2,Rel z v2 w2->Ah Ch v2->Grows v1 v2->GoesI Tryd.prog main (DT (ScZ z) Ch) Stop (G (b.at (a.put o.dst (val i)) (.inRegion ops rest :: k)) cs) w2) :
 GoesI Tryd.prog main (DT (ScZ z) Ch) Stop (G (b.at a (.inRegion ops (i :: rest) :: k)) cs) w1:=by
 have e:o.op=p:=by
  rw[ho] at hp
  exact Option.some.inj hp
 refine B9 ho hw hk hf hr hn (hrun o e) rfl (fun w2 hr2 hn2=>?_)
 rw[←hx]
 exact hk2 v1 w2 hr2 hn2 (grefl v1)
theorem Jt {i:Nat}{o:Oper}{rest:List Nat}{a:Act}{v1 w1:World}{f:FuncId}{fn:Func}{c:Code}{xs:Array Operand}{ats:Array TypeId}{args:Array Value}(ho:ops[i]? = some o) (hw:Region.wanted o (yielded ops a.tmps)=true) (hk:b.kind≠.early) (hp:(ops[i]?).map (·.op)=some (.call { callee:=.value (.func f),args:=xs,argTypes:=ats })) (ha:xs.map a.eval=args)
 (hf : Tryd.prog.funcs[f]? = some fn) (hname : (fn.name == "runtime.NumGoroutine") = false) (hb : fn.body = some c) (hc : A7 Tryd.prog true LT c)
 (hres:∀ tmps,∃ v,(∀ w,(results fn tmps).run Tryd.prog w=.ok v w)∧∀ w,(results fn tmps).events Tryd.prog w #[]=#[])
 (hr:Rel z v1 w1) (hn:Ah Ch v1) {x:Value} (hx:val i=x)
 (hwp:∀ τ,c.wp Tryd.prog (bodyPost Tryd.prog fn (fun e w'=>∃ v,e=.returned v∧v=x∧Grows v1 w')) { tmps:=args++Array.replicate (fn.ntmps - args.size) undef,defers:=[] } (Ap v1 τ 0))
 (hk2:∀ v2 w2,Rel z v2 w2->Ah Ch v2->Grows v1 v2->GoesI Tryd.prog main (DT (ScZ z) Ch) Stop (G (b.at (a.put o.dst (val i)) (.inRegion ops rest :: k)) cs) w2) :
 GoesI Tryd.prog main (DT (ScZ z) Ch) Stop (G (b.at a (.inRegion ops (i :: rest) :: k)) cs) w1:=by
 have e:o.op=.call { callee:=.value (.func f),args:=xs,argTypes:=ats }:=by
  rw[ho] at hp
  exact Option.some.inj hp
 refine D2 (f:=f) (fn:=fn) (args:=args) hE Di ho hw hk e ha hf hname hb hc hres hr hn (R:=fun r u=>r=x∧Grows v1 u) hwp (fun r u w2 hR hr2 hn2=>?_)
 rw[hR.1,←hx]
 exact hk2 u w2 hr2 hn2 hR.2
end
end Go.Proofs.YtbbhahigofeacaaDoor.Gen
namespace Go.Proofs.YtbbhahigofeacaaDoor.Gen
open Go Go.Lift Go.Conc Go.RowKit
open R1 (fstI verI hdI)
theorem stepG_scope {P:Program}{main:Bool}{b:Frame}{a:Act}{c:Code}{k:List Item}{cs:List Frame}{w:World}:stepG P main (G (b.at a (.code (.scope c) :: k)) cs) w=.go (G (b.at a (.code c :: .inScope c :: k)) cs) w:=by simp[G,stepG,stepG.exec,Frame.at]
theorem Hn {P:Program}{main:Bool}{D:World->World->Array Event->Prop}{Stop:Goroutine->World->Prop}{b:Frame}{a:Act}{k:List Item}{cs:List Frame}{w:World}(hD:∀ w,D w w #[]) {c:Code}(h:GoesI P main D Stop (G (b.at a (.code c :: .inScope c :: k)) cs) w):GoesI P main D Stop (G (b.at a (.code (.scope c) :: k)) cs) w:=.ctl rfl (fun _=>stepG_scope) hD h
theorem Ja {P:Program}{main:Bool}{D:World->World->Array Event->Prop}{Stop:Goroutine->World->Prop}{b:Frame}{a:Act}{k:List Item}{cs:List Frame}{w:World}(hD:∀ w,D w w #[]) {l:Nat}(h:GoesI P main D Stop (G (b.at a k) cs) w):GoesI P main D Stop (G (b.at a (.code (.label l) :: k)) cs) w:=.ctl rfl (fun _=>stepG_label) hD h
def Bd:Code->Code
 |.scope c=>c
 |_=>.skip
theorem Dl {v v':World}(h:Below v.heap.size v v'):Grows v v':=⟨h.size,fun b hb=>h.block b hb,h.os,h.output⟩
theorem gtape {v u:World}{τ:Tape}(h:Grows (Ap v τ 0) u):Grows v u:=⟨h.size,h.old,h.os,h.output⟩
theorem flds_grows {v v':World}(h:R1.Flds v) (g:Grows v v'):R1.Flds v':=h.of fun a x ha=>g.cell ha
structure Slt (v:World) (s sb n:Nat) (kb:List Nat):Prop where
 head:∃ cb,kb[0]? = some cb∧v.cell? ⟨s,0,none⟩=some (Pt cb 0)
 row:v.cell? ⟨s,1,none⟩=some (.slice (some ⟨sb,0,none⟩) n n)
 next:∀ k,k<n->∃ cb,kb[nxJ k]? = some cb∧v.cell? ⟨sb,k*2,none⟩=some (Pt cb 0)
 used:∀ k,k<n->∃ cb,kb[usJ k]? = some cb∧v.cell? ⟨sb,k*2+1,none⟩=some (Pt cb 0)
structure Stk (v:World) (c s sb pb n:Nat) (kb:List Nat):Prop where
 slt:Slt v s sb n kb
 slots:v.cell? ⟨c,0,none⟩=some (Pt s 0)
 head:∃ cb,kb[hdJ n]? = some cb∧v.cell? ⟨c,1,none⟩=some (Pt cb 0)
 row:v.cell? ⟨c,2,none⟩=some (.slice (some ⟨pb,0,none⟩) n n)
 value:∀ k,k<n->∃ cb,kb[vlJ n k]? = some cb∧v.cell? ⟨pb,k*2,none⟩=some (Pt cb 0)
 link:∀ k,k<n->∃ cb,kb[lkJ n k]? = some cb∧v.cell? ⟨pb,k*2+1,none⟩=some (Pt cb 0)
 n1:n≤1000
noncomputable def Jh:Code:=Tryd.f46.body.getD .skip
noncomputable def Jg:Array Oper:=opsOf (seq1 (seq2 Jh))
noncomputable def ch46T (a:Act) (r:Value):Frame:=(base 46).at (a.put (some 21) r) [.inRegion Jg [13],.code .ret]
theorem ch46E:Jh=.seq (seq1 Jh) (.seq (.region 1 Jg true) .ret):=by kernel_rfl
theorem ch46E0:seq1 Jh=.region 0 (opsOf (seq1 Jh)) false:=by kernel_rfl
def val_ch46 (s cb tb:Nat) (x f:Int):Nat->Value
 |0=>Pt s 0
 |1=>Pt s 0
 |2=>Pt s 0
 |3=>Pt cb 0
 |4=>Pt tb 0
 |5=>I x
 |6=>I f
 |7=>I x
 |8=>.agg #[I 32,I 30]
 |9=>I (verI x)
 |10=>I (verI x+1)
 |11=>I (hdI f (verI x+1))
 |_=>undef
theorem reg_ch46:regOk Jg 12 9=true:=by kernel_rfl
theorem Fa:((Jg.extract 0 12).all fun o=>Et Tryd.prog true o.op||Hf Da I5 o.op)=true:=by kernel_rfl
theorem ch46_pre {z:Nat->Option Nat}{Ch:Nat->Prop}{Stop:Goroutine->World->Prop}{main:Bool}{v w:World}(s cb tb:Nat) (x f:Int)  {a:Act}(hA:Fl 22 [(0,Pt s 0),(1,Pt tb 0),(2,I x),(3,I f)] a) (k:List Item) (cs:List Frame) (hF:R1.Flds v) (h0:v.cell? ⟨s,0,none⟩=some (Pt cb 0)) (hvw:Rel z v w) (hn:Ah Ch v)
 (hN:∀ v1 w1 a' o,Jg[12]? = some o->(∀ y,Region.wanted o y=true)->Fl 22 [(0,Pt s 0),(1,Pt tb 0),(2,I x),(3,I f),(12,Pt cb 0),(13,Pt tb 0),(14,I x),(20,I (hdI f (verI x+1)))] a'->Rel z v1 w1->Ah Ch v1->Grows v v1->GoesI Tryd.prog main (DT (ScZ z) Ch) Stop (G ((base 46).at a' (.inRegion Jg [12,13] :: k)) cs) w1) :
 GoesI Tryd.prog main (DT (ScZ z) Ch) Stop (G ((base 46).at a (.code (.region 1 Jg true) :: k)) cs) w:=by
 refine region_in (val:=val_ch46 s cb tb x f) reg_ch46 (by rw[hA.1];decide) hvw hn ?_ ?_
 ·intro i0 o rest a' v1 w1 hi ho hw ev ev0 r1 n1 g1 hk
  match i0,hi,ho,ev,hk with
  |0,_,ho,ev,hk=>have l0:a'.eval (.tmp 0)=Pt s 0:=(ev0 0 (by decide)).trans (hA.at 0 _ (by simp));exact Be ho hw (by simp[base]) (p:=Op.move (Operand.tmp 0)) (by kernel_rfl) (Bf Fa (by decide) ho) r1 n1 (x:=Pt s 0) rfl (fun o' h'=>by unfold execOp;rw[h'];simp only[l0];simp[go_sem]) hk
  |1,_,ho,ev,hk=>have l0:a'.eval (.tmp 9)=Pt s 0:=ev 0 (by decide) (by kernel_rfl);exact Be ho hw (by simp[base]) (p:=Op.nilCheck (Operand.tmp 9)) (by kernel_rfl) (Bf Fa (by decide) ho) r1 n1 (x:=Pt s 0) rfl (fun o' h'=>by unfold execOp;rw[h'];simp only[l0];simp[go_sem]) hk
  |2,_,ho,ev,hk=>have l0:a'.eval (.tmp 10)=Pt s 0:=ev 1 (by decide) (by kernel_rfl);exact Be ho hw (by simp[base]) (p:=Op.fieldAddr 91 (Operand.tmp 10) 0) (by kernel_rfl) (Bf Fa (by decide) ho) r1 n1 (x:=Pt s 0) rfl (fun o' h'=>by unfold execOp;rw[h'];simp only[l0];simp[go_sem]) hk
  |3,_,ho,ev,hk=>have l0:a'.eval (.tmp 11)=Pt s 0:=ev 2 (by decide) (by kernel_rfl);have c0:=g1.cell h0;exact Be ho hw (by simp[base]) (p:=Op.load 89 (Operand.tmp 11)) (by kernel_rfl) (Bf Fa (by decide) ho) r1 n1 (x:=Pt cb 0) rfl (fun o' h'=>by unfold execOp;rw[h'];simp only[l0];simp[go_sem,c0]) hk
  |4,_,ho,ev,hk=>have l0:a'.eval (.tmp 1)=Pt tb 0:=(ev0 1 (by decide)).trans (hA.at 1 _ (by simp));exact Be ho hw (by simp[base]) (p:=Op.move (Operand.tmp 1)) (by kernel_rfl) (Bf Fa (by decide) ho) r1 n1 (x:=Pt tb 0) rfl (fun o' h'=>by unfold execOp;rw[h'];simp only[l0];simp[go_sem]) hk
  |5,_,ho,ev,hk=>have l0:a'.eval (.tmp 2)=I x:=(ev0 2 (by decide)).trans (hA.at 2 _ (by simp));exact Be ho hw (by simp[base]) (p:=Op.move (Operand.tmp 2)) (by kernel_rfl) (Bf Fa (by decide) ho) r1 n1 (x:=I x) rfl (fun o' h'=>by unfold execOp;rw[h'];simp only[l0];simp[go_sem]) hk
  |6,_,ho,ev,hk=>have l0:a'.eval (.tmp 3)=I f:=(ev0 3 (by decide)).trans (hA.at 3 _ (by simp));exact Be ho hw (by simp[base]) (p:=Op.move (Operand.tmp 3)) (by kernel_rfl) (Bf Fa (by decide) ho) r1 n1 (x:=I f) rfl (fun o' h'=>by unfold execOp;rw[h'];simp only[l0];simp[go_sem]) hk
  |7,_,ho,ev,hk=>have l0:a'.eval (.tmp 2)=I x:=(ev0 2 (by decide)).trans (hA.at 2 _ (by simp));exact Be ho hw (by simp[base]) (p:=Op.move (Operand.tmp 2)) (by kernel_rfl) (Bf Fa (by decide) ho) r1 n1 (x:=I x) rfl (fun o' h'=>by unfold execOp;rw[h'];simp only[l0];simp[go_sem]) hk
  |8,_,ho,ev,hk=>have c0:=g1.cell hF.b0;have c1:=g1.cell hF.b1;exact Be ho hw (by simp[base]) (p:=Op.load 98 (Operand.global 1)) (by kernel_rfl) (Bf Fa (by decide) ho) r1 n1 (x:=.agg #[I 32,I 30]) rfl (fun o' h'=>by unfold execOp;rw[h'];simp only[Act.eval];simp[go_sem,c0,c1]) hk
  |9,_,ho,ev,hk =>
   have l0:a'.eval (.tmp 16)=I x:=ev 7 (by decide) (by kernel_rfl);have l1:a'.eval (.tmp 17)=.agg #[I 32,I 30]:=ev 8 (by decide) (by kernel_rfl)
   exact Jt (f:=45) (fn:=Tryd.f45) (xs:=#[.tmp 16,.tmp 17]) (ats:=#[3,98]) (args:=#[I x,.agg #[I 32,I 30]]) ho hw (by simp[base]) (by kernel_rfl) (by simp only[List.map_toArray,List.map_cons,List.map_nil,l0,l1]) Tryd.func45 (by kernel_rfl) rfl (Cc Di (by simp[LT,Da]) Tryd.func45 rfl) (fun tmps=>⟨_,fun w=>results_tmp rfl _ _ _,fun w=>by simp[results,go_sem,Tryd.f45]⟩) r1 n1 (x:=I (verI x)) rfl (fun τ=>wp_mono (R1.Eg x 32 30 (Ap v1 τ 0) (by decide) (by decide) (by decide) _ rfl) (Dh fun r u hq=>⟨hq.1,gtape (Dl hq.2)⟩)) hk
  |10,_,ho,ev,hk =>
   have l0:a'.eval (.tmp 18)=I (verI x):=ev 9 (by decide) (by kernel_rfl)
   have hw1:IntKind.i64.wrap (verI x+1)=verI x+1:=by have:=R1.verI_in x;rw[IntKind.wrap_i64];omega
   exact Be ho hw (by simp[base]) (p:=Op.binOp BinOp.add 3 (Operand.tmp 18) (Operand.const (Value.int IntKind.i64 1)) 3) (by kernel_rfl) (Bf Fa (by decide) ho) r1 n1 (x:=I (verI x+1)) rfl (fun o' h'=>by unfold execOp;rw[h'];simp only[l0];simp[go_sem,hw1]) hk
  |11,_,ho,ev,hk =>
   have l0:a'.eval (.tmp 15)=I f:=ev 6 (by decide) (by kernel_rfl);have l1:a'.eval (.tmp 19)=I (verI x+1):=ev 10 (by decide) (by kernel_rfl)
   exact Jt (f:=42) (fn:=Tryd.f42) (xs:=#[.tmp 15,.tmp 19]) (ats:=#[3,3]) (args:=#[I f,I (verI x+1)]) ho hw (by simp[base]) (by kernel_rfl) (by simp only[List.map_toArray,List.map_cons,List.map_nil,l0,l1]) Tryd.func42 (by kernel_rfl) rfl (Cc Di (by simp[LT,Da]) Tryd.func42 rfl) (fun tmps=>⟨_,fun w=>results_tmp rfl _ _ _,fun w=>by simp[results,go_sem,Tryd.f42]⟩) r1 n1 (x:=I (hdI f (verI x+1))) rfl (fun τ=>wp_mono (R1.shead_any f (verI x+1) (Ap v1 τ 0) ((flds_grows hF g1).of (fun a x h=>h)) _ rfl) (Dh fun r u hq=>⟨hq.1,gtape (Dl hq.2)⟩)) hk
 ·intro v1 w1 o ho hw r1 n1 g1
  refine hN v1 w1 _ o ho hw ⟨(Gx _ _ _ _).trans hA.1,(F4 _ _ _ _).trans hA.2.1,?_⟩ r1 n1 g1
  have hsz:9+12≤a.tmps.size:=by rw[hA.1];decide
  intro p hp
  simp only[List.mem_cons,List.not_mem_nil,or_false] at hp
  rcases hp with rfl|rfl|rfl|rfl|rfl|rfl|rfl|rfl
  ·rw[Array.getD_eq_getD_getElem?,Bl _ _ _ _ _ hsz,if_neg (by simp),←Array.getD_eq_getD_getElem?];exact hA.2.2 (0,Pt s 0) (by simp)
  ·rw[Array.getD_eq_getD_getElem?,Bl _ _ _ _ _ hsz,if_neg (by simp),←Array.getD_eq_getD_getElem?];exact hA.2.2 (1,Pt tb 0) (by simp)
  ·rw[Array.getD_eq_getD_getElem?,Bl _ _ _ _ _ hsz,if_neg (by simp),←Array.getD_eq_getD_getElem?];exact hA.2.2 (2,I x) (by simp)
  ·rw[Array.getD_eq_getD_getElem?,Bl _ _ _ _ _ hsz,if_neg (by simp),←Array.getD_eq_getD_getElem?];exact hA.2.2 (3,I f) (by simp)
  ·rw[Array.getD_eq_getD_getElem?,Bl _ _ _ _ _ hsz,if_pos (by simp)];rfl
  ·rw[Array.getD_eq_getD_getElem?,Bl _ _ _ _ _ hsz,if_pos (by simp)];rfl
  ·rw[Array.getD_eq_getD_getElem?,Bl _ _ _ _ _ hsz,if_pos (by simp)];rfl
  ·rw[Array.getD_eq_getD_getElem?,Bl _ _ _ _ _ hsz,if_pos (by simp)];rfl
theorem ch46_go {z:Nat->Option Nat}{Ch:Nat->Prop}{Stop:Goroutine->World->Prop}{h:Nat}{cont:Addr->Value}{S:TS}{K:List (Nat×Int)}{v w:World}{i j cb s:Nat}{t:Thr}{y:Int}(x f:Int) (hF:R1.Flds v) (h0:v.cell? ⟨s,0,none⟩=some (Pt cb 0)) (cs:List Frame) (Hm:Goroutine->Prop)
 (hH:∀ g,(∃ a,Fl 22 [] a∧D5 (h==0) i j cb t.tb 4 (Bj x (hdI f (verI x+1))) (fun r=>G (ch46T a r) cs) g)->Hm g)
 (hvw:Rel z v w) (hn:Ah Ch v) (hm:Mem z S K v) (ht:S.thr[i]? = some t) (hK:K[j]? = some (cb,y)) (hz:z t.tb=some 2) (hcont:cont ⟨t.tb,2,none⟩=.chan (some t.gc))
 (hstop:∀ g w',E5 z cont h S.bk t.gc Hm (Then z Ch S K v (waiting S i t 1 4 j) K) g w'->Stop g w') (code:Code) (hc:Tryd.f46.body=some code) :
 GoesI Tryd.prog (h==0) (DT (ScZ z) Ch) Stop (G ((base 46).at { tmps:=#[Pt s 0,Pt t.tb 0,I x,I f]++Array.replicate 18 undef,defers:=[] } [.code code]) cs) w:=by
 have hw0:code=.seq (.region 0 (opsOf (seq1 Jh)) false) (.seq (.region 1 Jg true) .ret):=by
  rw[show code=Jh by unfold Jh;rw[hc];rfl,←ch46E0];exact ch46E
 subst hw0
 clear hc
 have HM:Hid (Mem z S K v):=⟨hm⟩
 clear hm
 simp only[Array.replicate_succ,Array.replicate_zero,List.push_toArray,List.append_toArray,List.nil_append,List.cons_append]
 refine Ac (Aa _ _) ?_
 unfold Jh Tryd.f46 seq1 opsOf
 simp only[Option.getD_some]
 refine Ae (Aa _ _) ?_
 simp only[List.size_toArray,List.length_cons,List.length_nil,Nat.reduceAdd,Nat.zero_add,List.range,List.range.loop]
 iterate 1
  (refine Ad rfl rfl (by decide) (fun d K hK=>?_)
   go_simp
   refine hK _ _ ⟨Af (fun e he=>?_),GoesI.at ?_ d⟩
   ·have hm:=mem_listed he
    simp[go_sem, *] at hm
    try exact ⟨_,_,hm⟩
    try (rcases hm with rfl|rfl<;>exact ⟨_,_,rfl⟩)
   clear hK K)
 refine Ab (Aa _ _) ?_
 refine Ac (Aa _ _) ?_
 refine ch46_pre s cb t.tb x f ⟨rfl,rfl,by
  intro p hp
  simp only[List.mem_cons,List.not_mem_nil,or_false] at hp
  rcases hp with rfl|rfl|rfl|rfl<;>rfl⟩ _ cs hF h0 hvw hn (fun v4 w4 a' o ho hw hA hvw4 hn4 hg4=>?_)
 have hm4:=HM.out.grows hg4
 have e12:a'.eval (.tmp 12)=Pt cb 0:=hA.at 12 _ (by simp)
 have e13:a'.eval (.tmp 13)=Pt t.tb 0:=hA.at 13 _ (by simp)
 have e14:a'.eval (.tmp 14)=I x:=hA.at 14 _ (by simp)
 have e20:a'.eval (.tmp 20)=I (hdI f (verI x+1)):=hA.at 20 _ (by simp)
 have hop:(Jg[12]?).map (·.op)=some (.call { callee:=.value (.func 48),args:=#[.tmp 12,.tmp 13,.tmp 14,.tmp 20],argTypes:=#[89,52,3,3] }):=by kernel_rfl
 have hds:(Jg[12]?).map (·.dst)=some (some 21):=by kernel_rfl
 rw[ho] at hop hds
 have hop':=Option.some.inj hop
 have hds':o.dst=some 21:=Option.some.inj hds
 refine Ao (f:=48) (fn:=Tryd.f48) (args:=#[Pt cb 0,Pt t.tb 0,I x,I (hdI f (verI x+1))]) (Aa _ _) ho (hw _) (by simp[base]) hop' (by simp only[List.map_toArray,List.map_cons,List.map_nil,e12,e13,e14,e20]) Tryd.func48 (by decide) rfl ?_
 refine cas_goes x (hdI f (verI x+1)) y _ Hm ho (fun g hg=>hH g ⟨a',⟨hA.1,hA.2.1,fun p hp=>by cases hp⟩,?_⟩) hvw4 hn4 hm4.mem ht hK hz hcont (fun g w' hs=>hstop g w' (G1 (fun hT=>by obtain ⟨v',r1,r2,r3⟩:=hT;exact ⟨v',r1,r2,hm4.trans r3⟩) hs)) _ rfl
 rw[hds'] at hg
 exact hg
theorem Il {z:Nat->Option Nat}{Ch:Nat->Prop}{Stop:Goroutine->World->Prop}{main:Bool}{v w:World}  (r:Bool) {a:Act}(hA:Fl 22 [] a) (cs:List Frame) {bc:Frame}{ac:Act}{ops:Array Oper}{q:Nat}{rest:List Nat}{oc:Oper}{k0:List Item}(hoc:ops[q]? = some oc) (hvw:Rel z v w) (hn:Ah Ch v)
 (hk:∀ w',Rel z v w'->GoesI Tryd.prog main (DT (ScZ z) Ch) Stop (G (bc.at (ac.put oc.dst (.bool r)) (.inRegion ops rest :: k0)) cs) w') :
 GoesI Tryd.prog main (DT (ScZ z) Ch) Stop (G (ch46T a (.bool r)) (bc.at ac (.inRegion ops (q :: rest) :: k0) :: cs)) w:=by
 obtain ⟨hsz,hd,hpp⟩:=hA
 obtain ⟨u,rfl,hg⟩:=litN hsz hd
 clear hg hpp hsz hd
 unfold ch46T Jg Jh Tryd.f46 seq1 seq2 opsOf
 simp only[Option.getD_some,lits,Nat.reduceAdd]
 walk_nrm
 iterate 1
  (refine Ad rfl rfl (by decide) (fun d K hK=>?_)
   go_simp
   refine hK _ _ ⟨Af (fun e he=>?_),GoesI.at ?_ d⟩
   ·have hm:=mem_listed he
    simp[go_sem, *] at hm
    try exact ⟨_,_,hm⟩
    try (rcases hm with rfl|rfl<;>exact ⟨_,_,rfl⟩)
   clear hK K)
 refine Ab (Aa _ _) ?_
 refine GoesI.ctl rfl (fun _=>stepG_ret') (Aa _ _) ?_
 exact B7 (f:=46) (fn:=Tryd.f46) (x:=.bool r) hvw hn Tryd.func46 rfl hoc (by simp[results,go_sem,Tryd.f46]) (fun w' r'=>hk w' r')
noncomputable def Jf:Code:=Tryd.f73.body.getD .skip
noncomputable def Je:Array Oper:=opsOf (seq1 (seq2 Jf))
noncomputable def ch73T (a:Act) (r:Value):Frame:=(base 73).at (a.put (some 21) r) [.inRegion Je [13],.code .ret]
theorem ch73E:Jf=.seq (seq1 Jf) (.seq (.region 1 Je true) .ret):=by kernel_rfl
theorem ch73E0:seq1 Jf=.region 0 (opsOf (seq1 Jf)) false:=by kernel_rfl
def val_ch73 (s cb tb:Nat) (x f:Int):Nat->Value
 |0=>Pt s 0
 |1=>Pt s 0
 |2=>Pt s 1
 |3=>Pt cb 0
 |4=>Pt tb 0
 |5=>I x
 |6=>I f
 |7=>I x
 |8=>.agg #[I 32,I 30]
 |9=>I (verI x)
 |10=>I (verI x+1)
 |11=>I (hdI f (verI x+1))
 |_=>undef
theorem reg_ch73:regOk Je 12 9=true:=by kernel_rfl
theorem E9:((Je.extract 0 12).all fun o=>Et Tryd.prog true o.op||Hf Da I5 o.op)=true:=by kernel_rfl
theorem ch73_pre {z:Nat->Option Nat}{Ch:Nat->Prop}{Stop:Goroutine->World->Prop}{main:Bool}{v w:World}(s cb tb:Nat) (x f:Int)  {a:Act}(hA:Fl 22 [(0,Pt s 0),(1,Pt tb 0),(2,I x),(3,I f)] a) (k:List Item) (cs:List Frame) (hF:R1.Flds v) (h0:v.cell? ⟨s,1,none⟩=some (Pt cb 0)) (hvw:Rel z v w) (hn:Ah Ch v)
 (hN:∀ v1 w1 a' o,Je[12]? = some o->(∀ y,Region.wanted o y=true)->Fl 22 [(0,Pt s 0),(1,Pt tb 0),(2,I x),(3,I f),(12,Pt cb 0),(13,Pt tb 0),(14,I x),(20,I (hdI f (verI x+1)))] a'->Rel z v1 w1->Ah Ch v1->Grows v v1->GoesI Tryd.prog main (DT (ScZ z) Ch) Stop (G ((base 73).at a' (.inRegion Je [12,13] :: k)) cs) w1) :
 GoesI Tryd.prog main (DT (ScZ z) Ch) Stop (G ((base 73).at a (.code (.region 1 Je true) :: k)) cs) w:=by
 refine region_in (val:=val_ch73 s cb tb x f) reg_ch73 (by rw[hA.1];decide) hvw hn ?_ ?_
 ·intro i0 o rest a' v1 w1 hi ho hw ev ev0 r1 n1 g1 hk
  match i0,hi,ho,ev,hk with
  |0,_,ho,ev,hk=>have l0:a'.eval (.tmp 0)=Pt s 0:=(ev0 0 (by decide)).trans (hA.at 0 _ (by simp));exact Be ho hw (by simp[base]) (p:=Op.move (Operand.tmp 0)) (by kernel_rfl) (Bf E9 (by decide) ho) r1 n1 (x:=Pt s 0) rfl (fun o' h'=>by unfold execOp;rw[h'];simp only[l0];simp[go_sem]) hk
  |1,_,ho,ev,hk=>have l0:a'.eval (.tmp 9)=Pt s 0:=ev 0 (by decide) (by kernel_rfl);exact Be ho hw (by simp[base]) (p:=Op.nilCheck (Operand.tmp 9)) (by kernel_rfl) (Bf E9 (by decide) ho) r1 n1 (x:=Pt s 0) rfl (fun o' h'=>by unfold execOp;rw[h'];simp only[l0];simp[go_sem]) hk
  |2,_,ho,ev,hk=>have l0:a'.eval (.tmp 10)=Pt s 0:=ev 1 (by decide) (by kernel_rfl);exact Be ho hw (by simp[base]) (p:=Op.fieldAddr 132 (Operand.tmp 10) 1) (by kernel_rfl) (Bf E9 (by decide) ho) r1 n1 (x:=Pt s 1) rfl (fun o' h'=>by unfold execOp;rw[h'];simp only[l0];simp[go_sem]) hk
  |3,_,ho,ev,hk=>have l0:a'.eval (.tmp 11)=Pt s 1:=ev 2 (by decide) (by kernel_rfl);have c0:=g1.cell h0;exact Be ho hw (by simp[base]) (p:=Op.load 89 (Operand.tmp 11)) (by kernel_rfl) (Bf E9 (by decide) ho) r1 n1 (x:=Pt cb 0) rfl (fun o' h'=>by unfold execOp;rw[h'];simp only[l0];simp[go_sem,c0]) hk
  |4,_,ho,ev,hk=>have l0:a'.eval (.tmp 1)=Pt tb 0:=(ev0 1 (by decide)).trans (hA.at 1 _ (by simp));exact Be ho hw (by simp[base]) (p:=Op.move (Operand.tmp 1)) (by kernel_rfl) (Bf E9 (by decide) ho) r1 n1 (x:=Pt tb 0) rfl (fun o' h'=>by unfold execOp;rw[h'];simp only[l0];simp[go_sem]) hk
  |5,_,ho,ev,hk=>have l0:a'.eval (.tmp 2)=I x:=(ev0 2 (by decide)).trans (hA.at 2 _ (by simp));exact Be ho hw (by simp[base]) (p:=Op.move (Operand.tmp 2)) (by kernel_rfl) (Bf E9 (by decide) ho) r1 n1 (x:=I x) rfl (fun o' h'=>by unfold execOp;rw[h'];simp only[l0];simp[go_sem]) hk
  |6,_,ho,ev,hk=>have l0:a'.eval (.tmp 3)=I f:=(ev0 3 (by decide)).trans (hA.at 3 _ (by simp));exact Be ho hw (by simp[base]) (p:=Op.move (Operand.tmp 3)) (by kernel_rfl) (Bf E9 (by decide) ho) r1 n1 (x:=I f) rfl (fun o' h'=>by unfold execOp;rw[h'];simp only[l0];simp[go_sem]) hk
  |7,_,ho,ev,hk=>have l0:a'.eval (.tmp 2)=I x:=(ev0 2 (by decide)).trans (hA.at 2 _ (by simp));exact Be ho hw (by simp[base]) (p:=Op.move (Operand.tmp 2)) (by kernel_rfl) (Bf E9 (by decide) ho) r1 n1 (x:=I x) rfl (fun o' h'=>by unfold execOp;rw[h'];simp only[l0];simp[go_sem]) hk
  |8,_,ho,ev,hk=>have c0:=g1.cell hF.d0;have c1:=g1.cell hF.d1;exact Be ho hw (by simp[base]) (p:=Op.load 98 (Operand.global 3)) (by kernel_rfl) (Bf E9 (by decide) ho) r1 n1 (x:=.agg #[I 32,I 30]) rfl (fun o' h'=>by unfold execOp;rw[h'];simp only[Act.eval];simp[go_sem,c0,c1]) hk
  |9,_,ho,ev,hk =>
   have l0:a'.eval (.tmp 16)=I x:=ev 7 (by decide) (by kernel_rfl);have l1:a'.eval (.tmp 17)=.agg #[I 32,I 30]:=ev 8 (by decide) (by kernel_rfl)
   exact Jt (f:=45) (fn:=Tryd.f45) (xs:=#[.tmp 16,.tmp 17]) (ats:=#[3,98]) (args:=#[I x,.agg #[I 32,I 30]]) ho hw (by simp[base]) (by kernel_rfl) (by simp only[List.map_toArray,List.map_cons,List.map_nil,l0,l1]) Tryd.func45 (by kernel_rfl) rfl (Cc Di (by simp[LT,Da]) Tryd.func45 rfl) (fun tmps=>⟨_,fun w=>results_tmp rfl _ _ _,fun w=>by simp[results,go_sem,Tryd.f45]⟩) r1 n1 (x:=I (verI x)) rfl (fun τ=>wp_mono (R1.Eg x 32 30 (Ap v1 τ 0) (by decide) (by decide) (by decide) _ rfl) (Dh fun r u hq=>⟨hq.1,gtape (Dl hq.2)⟩)) hk
  |10,_,ho,ev,hk =>
   have l0:a'.eval (.tmp 18)=I (verI x):=ev 9 (by decide) (by kernel_rfl)
   have hw1:IntKind.i64.wrap (verI x+1)=verI x+1:=by have:=R1.verI_in x;rw[IntKind.wrap_i64];omega
   exact Be ho hw (by simp[base]) (p:=Op.binOp BinOp.add 3 (Operand.tmp 18) (Operand.const (Value.int IntKind.i64 1)) 3) (by kernel_rfl) (Bf E9 (by decide) ho) r1 n1 (x:=I (verI x+1)) rfl (fun o' h'=>by unfold execOp;rw[h'];simp only[l0];simp[go_sem,hw1]) hk
  |11,_,ho,ev,hk =>
   have l0:a'.eval (.tmp 15)=I f:=ev 6 (by decide) (by kernel_rfl);have l1:a'.eval (.tmp 19)=I (verI x+1):=ev 10 (by decide) (by kernel_rfl)
   exact Jt (f:=92) (fn:=Tryd.f92) (xs:=#[.tmp 15,.tmp 19]) (ats:=#[3,3]) (args:=#[I f,I (verI x+1)]) ho hw (by simp[base]) (by kernel_rfl) (by simp only[List.map_toArray,List.map_cons,List.map_nil,l0,l1]) Tryd.func92 (by kernel_rfl) rfl (Cc Di (by simp[LT,Da]) Tryd.func92 rfl) (fun tmps=>⟨_,fun w=>results_tmp rfl _ _ _,fun w=>by simp[results,go_sem,Tryd.f92]⟩) r1 n1 (x:=I (hdI f (verI x+1))) rfl (fun τ=>wp_mono (R1.thead_any f (verI x+1) (Ap v1 τ 0) ((flds_grows hF g1).of (fun a x h=>h)) _ rfl) (Dh fun r u hq=>⟨hq.1,gtape (Dl hq.2)⟩)) hk
 ·intro v1 w1 o ho hw r1 n1 g1
  refine hN v1 w1 _ o ho hw ⟨(Gx _ _ _ _).trans hA.1,(F4 _ _ _ _).trans hA.2.1,?_⟩ r1 n1 g1
  have hsz:9+12≤a.tmps.size:=by rw[hA.1];decide
  intro p hp
  simp only[List.mem_cons,List.not_mem_nil,or_false] at hp
  rcases hp with rfl|rfl|rfl|rfl|rfl|rfl|rfl|rfl
  ·rw[Array.getD_eq_getD_getElem?,Bl _ _ _ _ _ hsz,if_neg (by simp),←Array.getD_eq_getD_getElem?];exact hA.2.2 (0,Pt s 0) (by simp)
  ·rw[Array.getD_eq_getD_getElem?,Bl _ _ _ _ _ hsz,if_neg (by simp),←Array.getD_eq_getD_getElem?];exact hA.2.2 (1,Pt tb 0) (by simp)
  ·rw[Array.getD_eq_getD_getElem?,Bl _ _ _ _ _ hsz,if_neg (by simp),←Array.getD_eq_getD_getElem?];exact hA.2.2 (2,I x) (by simp)
  ·rw[Array.getD_eq_getD_getElem?,Bl _ _ _ _ _ hsz,if_neg (by simp),←Array.getD_eq_getD_getElem?];exact hA.2.2 (3,I f) (by simp)
  ·rw[Array.getD_eq_getD_getElem?,Bl _ _ _ _ _ hsz,if_pos (by simp)];rfl
  ·rw[Array.getD_eq_getD_getElem?,Bl _ _ _ _ _ hsz,if_pos (by simp)];rfl
  ·rw[Array.getD_eq_getD_getElem?,Bl _ _ _ _ _ hsz,if_pos (by simp)];rfl
  ·rw[Array.getD_eq_getD_getElem?,Bl _ _ _ _ _ hsz,if_pos (by simp)];rfl
theorem ch73_go {z:Nat->Option Nat}{Ch:Nat->Prop}{Stop:Goroutine->World->Prop}{h:Nat}{cont:Addr->Value}{S:TS}{K:List (Nat×Int)}{v w:World}{i j cb s:Nat}{t:Thr}{y:Int}(x f:Int) (hF:R1.Flds v) (h0:v.cell? ⟨s,1,none⟩=some (Pt cb 0)) (cs:List Frame) (Hm:Goroutine->Prop)
 (hH:∀ g,(∃ a,Fl 22 [] a∧D5 (h==0) i j cb t.tb 4 (Bj x (hdI f (verI x+1))) (fun r=>G (ch73T a r) cs) g)->Hm g)
 (hvw:Rel z v w) (hn:Ah Ch v) (hm:Mem z S K v) (ht:S.thr[i]? = some t) (hK:K[j]? = some (cb,y)) (hz:z t.tb=some 2) (hcont:cont ⟨t.tb,2,none⟩=.chan (some t.gc))
 (hstop:∀ g w',E5 z cont h S.bk t.gc Hm (Then z Ch S K v (waiting S i t 1 4 j) K) g w'->Stop g w') (code:Code) (hc:Tryd.f73.body=some code) :
 GoesI Tryd.prog (h==0) (DT (ScZ z) Ch) Stop (G ((base 73).at { tmps:=#[Pt s 0,Pt t.tb 0,I x,I f]++Array.replicate 18 undef,defers:=[] } [.code code]) cs) w:=by
 have hw0:code=.seq (.region 0 (opsOf (seq1 Jf)) false) (.seq (.region 1 Je true) .ret):=by
  rw[show code=Jf by unfold Jf;rw[hc];rfl,←ch73E0];exact ch73E
 subst hw0
 clear hc
 have HM:Hid (Mem z S K v):=⟨hm⟩
 clear hm
 simp only[Array.replicate_succ,Array.replicate_zero,List.push_toArray,List.append_toArray,List.nil_append,List.cons_append]
 refine Ac (Aa _ _) ?_
 unfold Jf Tryd.f73 seq1 opsOf
 simp only[Option.getD_some]
 refine Ae (Aa _ _) ?_
 simp only[List.size_toArray,List.length_cons,List.length_nil,Nat.reduceAdd,Nat.zero_add,List.range,List.range.loop]
 iterate 1
  (refine Ad rfl rfl (by decide) (fun d K hK=>?_)
   go_simp
   refine hK _ _ ⟨Af (fun e he=>?_),GoesI.at ?_ d⟩
   ·have hm:=mem_listed he
    simp[go_sem, *] at hm
    try exact ⟨_,_,hm⟩
    try (rcases hm with rfl|rfl<;>exact ⟨_,_,rfl⟩)
   clear hK K)
 refine Ab (Aa _ _) ?_
 refine Ac (Aa _ _) ?_
 refine ch73_pre s cb t.tb x f ⟨rfl,rfl,by
  intro p hp
  simp only[List.mem_cons,List.not_mem_nil,or_false] at hp
  rcases hp with rfl|rfl|rfl|rfl<;>rfl⟩ _ cs hF h0 hvw hn (fun v4 w4 a' o ho hw hA hvw4 hn4 hg4=>?_)
 have hm4:=HM.out.grows hg4
 have e12:a'.eval (.tmp 12)=Pt cb 0:=hA.at 12 _ (by simp)
 have e13:a'.eval (.tmp 13)=Pt t.tb 0:=hA.at 13 _ (by simp)
 have e14:a'.eval (.tmp 14)=I x:=hA.at 14 _ (by simp)
 have e20:a'.eval (.tmp 20)=I (hdI f (verI x+1)):=hA.at 20 _ (by simp)
 have hop:(Je[12]?).map (·.op)=some (.call { callee:=.value (.func 48),args:=#[.tmp 12,.tmp 13,.tmp 14,.tmp 20],argTypes:=#[89,52,3,3] }):=by kernel_rfl
 have hds:(Je[12]?).map (·.dst)=some (some 21):=by kernel_rfl
 rw[ho] at hop hds
 have hop':=Option.some.inj hop
 have hds':o.dst=some 21:=Option.some.inj hds
 refine Ao (f:=48) (fn:=Tryd.f48) (args:=#[Pt cb 0,Pt t.tb 0,I x,I (hdI f (verI x+1))]) (Aa _ _) ho (hw _) (by simp[base]) hop' (by simp only[List.map_toArray,List.map_cons,List.map_nil,e12,e13,e14,e20]) Tryd.func48 (by decide) rfl ?_
 refine cas_goes x (hdI f (verI x+1)) y _ Hm ho (fun g hg=>hH g ⟨a',⟨hA.1,hA.2.1,fun p hp=>by cases hp⟩,?_⟩) hvw4 hn4 hm4.mem ht hK hz hcont (fun g w' hs=>hstop g w' (G1 (fun hT=>by obtain ⟨v',r1,r2,r3⟩:=hT;exact ⟨v',r1,r2,hm4.trans r3⟩) hs)) _ rfl
 rw[hds'] at hg
 exact hg
theorem Ik {z:Nat->Option Nat}{Ch:Nat->Prop}{Stop:Goroutine->World->Prop}{main:Bool}{v w:World}  (r:Bool) {a:Act}(hA:Fl 22 [] a) (cs:List Frame) {bc:Frame}{ac:Act}{ops:Array Oper}{q:Nat}{rest:List Nat}{oc:Oper}{k0:List Item}(hoc:ops[q]? = some oc) (hvw:Rel z v w) (hn:Ah Ch v)
 (hk:∀ w',Rel z v w'->GoesI Tryd.prog main (DT (ScZ z) Ch) Stop (G (bc.at (ac.put oc.dst (.bool r)) (.inRegion ops rest :: k0)) cs) w') :
 GoesI Tryd.prog main (DT (ScZ z) Ch) Stop (G (ch73T a (.bool r)) (bc.at ac (.inRegion ops (q :: rest) :: k0) :: cs)) w:=by
 obtain ⟨hsz,hd,hpp⟩:=hA
 obtain ⟨u,rfl,hg⟩:=litN hsz hd
 clear hg hpp hsz hd
 unfold ch73T Je Jf Tryd.f73 seq1 seq2 opsOf
 simp only[Option.getD_some,lits,Nat.reduceAdd]
 walk_nrm
 iterate 1
  (refine Ad rfl rfl (by decide) (fun d K hK=>?_)
   go_simp
   refine hK _ _ ⟨Af (fun e he=>?_),GoesI.at ?_ d⟩
   ·have hm:=mem_listed he
    simp[go_sem, *] at hm
    try exact ⟨_,_,hm⟩
    try (rcases hm with rfl|rfl<;>exact ⟨_,_,rfl⟩)
   clear hK K)
 refine Ab (Aa _ _) ?_
 refine GoesI.ctl rfl (fun _=>stepG_ret') (Aa _ _) ?_
 exact B7 (f:=73) (fn:=Tryd.f73) (x:=.bool r) hvw hn Tryd.func73 rfl hoc (by simp[results,go_sem,Tryd.f73]) (fun w' r'=>hk w' r')
end Go.Proofs.YtbbhahigofeacaaDoor.Gen
