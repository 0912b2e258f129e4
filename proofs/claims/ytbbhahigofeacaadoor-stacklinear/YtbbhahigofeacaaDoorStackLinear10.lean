/- StackLinear, part 10 of 32: GView, GRK, GL12, GEnd, GIns, GWb, GFin. -/
import Derived.Test.YtbbhahigofeacaaDoorStackLinear01
import Derived.Test.YtbbhahigofeacaaDoorStackLinear09
import Derived.Deep.OwnRows
import Derived.Deep.RegionWith
import Derived.Deep.RegionHeld3
import Derived.BigQuiet
set_option linter.unusedSimpArgs false
set_option linter.unusedVariables false
set_option maxHeartbeats 4000000
set_option maxRecDepth 100000
noncomputable section
namespace Go.Proofs.YtbbhahigofeacaaDoor.Gen
open Go Go.Lift Go.Conc Go.RowKit
open Go.ConcN (upd upd_same upd_ne)
structure Stp where
 th:Int
 ce:Int
 op:Int
 ol:Int
 ne:Int
def flat (L:List Stp):List Value:=L.flatMap λs=>[I s.th,I s.ce,I s.op,I s.ol,I s.ne]
theorem flat_app (a b:List Stp):flat (a++b)=flat a++flat b:=List.flatMap_append
theorem flat_get:∀ (L:List Stp) (k:Nat) (s:Stp),L[k]? = some s->(flat L)[k*5]? = some (I s.th)∧(flat L)[k*5+1]? = some (I s.ce)∧(flat L)[k*5+2]? = some (I s.op)∧(flat L)[k*5+3]? = some (I s.ol)∧(flat L)[k*5+4]? = some (I s.ne)
 |b :: l,0,a,h=>by obtain rfl:b=a:=by simpa using h
                   exact ⟨rfl,rfl,rfl,rfl,rfl⟩
 |b :: l,k+1,a,h=>by have:=flat_get l k a (by simpa using h);have e:flat (b :: l)=I b.th :: I b.ce :: I b.op :: I b.ol :: I b.ne :: flat l:=rfl;rw[e];have e0:∀ j,(I b.th :: I b.ce :: I b.op :: I b.ol :: I b.ne :: flat l)[j+5]? = (flat l)[j]?:=λj=>rfl;rw[show (k+1)*5=k*5+5 by omega,show k*5+5+1=(k*5+1)+5 by omega,show k*5+5+2=(k*5+2)+5 by omega,show k*5+5+3=(k*5+3)+5 by omega,show k*5+5+4=(k*5+4)+5 by omega];simp only[e0];exact this
theorem flat_one (L:List Stp):∀ u∈flat L,u.oneCell'=true:=λu hu=>by simp only[flat,List.mem_flatMap] at hu;obtain ⟨s,_,hu⟩:=hu;simp only[Sm,or_false] at hu;rcases hu with rfl|rfl|rfl|rfl|rfl<;>rfl
structure Adds (S S':TS) (X:List Stp):Prop where
 tr:S'.tr=S.tr++flat X
 n:S'.n=S.n+X.length
theorem Adds.refl (S:TS):Adds S S []:=⟨by simp[flat],rfl⟩
theorem Adds.trans {S S1 S2:TS}{L L':List Stp}(h:Adds S S1 L) (k:Adds S1 S2 L'):Adds S S2 (L++L'):=⟨by rw[k.tr,h.tr,flat_app,List.append_assoc],by rw[k.n,h.n,Qj,Nat.add_assoc]⟩
theorem Jp (S:TS) (tv:Value) (i:Nat) (op ce ol ne:Int):Adds S (Bv S tv i op ce ol ne) [⟨i,ce,op,ol,ne⟩]:=⟨rfl,rfl⟩
theorem adds_did (S:TS) (tv:Value) (i:Nat) (t:Thr) (b a:Int):Adds S (didS S tv i t b a) [⟨i,t.ce,t.op,b,a⟩]:=by unfold didS;split<;>exact ⟨rfl,rfl⟩
section
variable {mc:Mc}
inductive Fw (mc:Mc) (i:Nat) (stk:Bool):List Cl->Nat->Bool->List (Int×Int)->List Stp->Ph->Prop
 |nil {ii:Nat} {sk:Bool} {ans:List (Int×Int)}:Fw mc i stk [] ii sk ans [] (.done ans)
 |skip {c:Cl} {rest:List Cl} {ii:Nat} {ans:List (Int×Int)} {X:List Stp} {l:Ph}:Fw mc i stk rest (ii+1) true (ans.set ii (4,0)) X l->Fw mc i stk (c :: rest) ii true ans X l
 |ans {c:Cl} {rest:List Cl} {ii:Nat} {ans:List (Int×Int)} {X:List Stp} {l:Ph} {e x:Int}:mc.set stk (mc.start i c)=.ans e x->Fw mc i stk rest (ii+1) (e==4) (ans.set ii (e,x)) X l->Fw mc i stk (c :: rest) ii false ans (⟨i,-1,9,ii,0⟩ :: ⟨i,-1,10,ii,e⟩ :: X) l
 |turn {c:Cl} {rest:List Cl} {ii:Nat} {ans:List (Int×Int)} {op:Int} {j:Nat} {q:Q}:mc.set stk (mc.start i c)=.turn op j q->Fw mc i stk (c :: rest) ii false ans [⟨i,-1,9,ii,0⟩] (.turn op j q rest ii ans)
 |wait {c:Cl} {rest:List Cl} {ii:Nat} {ans:List (Int×Int)} {j:Nat} {q:Q}:mc.set stk (mc.start i c)=.wait j q->Fw mc i stk (c :: rest) ii false ans [⟨i,-1,9,ii,0⟩] (.wait j q rest ii ans)
inductive On (mc:Mc) (i:Nat) (stk:Bool) (rest:List Cl) (ii:Nat) (ans:List (Int×Int)):Nx->List Stp->Ph->Prop
 |ans {e x:Int} {X:List Stp} {l:Ph}:Fw mc i stk rest (ii+1) (e==4) (ans.set ii (e,x)) X l->On mc i stk rest ii ans (.ans e x) (⟨i,-1,10,ii,e⟩ :: X) l
 |turn {op:Int} {j:Nat} {q:Q}:On mc i stk rest ii ans (.turn op j q) [] (.turn op j q rest ii ans)
 |wait {j:Nat} {q:Q}:On mc i stk rest ii ans (.wait j q) [] (.wait j q rest ii ans)
def ntsL (i:Nat) (l:List (Int×Int×Int)):List Stp:=l.map λn=>⟨i,-1,n.1,n.2.1,n.2.2⟩
theorem adds_notes (i:Nat):∀ (l:List (Int×Int×Int)) (S:TS),Adds S (Iy i l S) (ntsL i l)
 | [],S=>Adds.refl S
 |n :: l,S=>(Jp S undef i n.1 (-1) n.2.1 n.2.2).trans (adds_notes i l _)
def Aw (chg:List Int) (l:Ph) (t:Thr):Prop:=∀ (j:Nat) (q:Q) (r:List Cl) (k:Nat) (a:List (Int×Int)),l=.wait j q r k a->t.ce=(j:Int)∧t.se=D4 chg j
theorem flow_fw (i:Nat):∀ (rest:List Cl) (ii:Nat) (sk:Bool) (ans:List (Int×Int)) (S:TS) (t:Thr),S.thr[i]? = some t->∃ X,Fw mc i S.stk rest ii sk ans X (flow i mc rest ii sk ans S).2∧Adds S (flow i mc rest ii sk ans S).1 X∧(flow i mc rest ii sk ans S).1.chg=S.chg∧Aw S.chg (flow i mc rest ii sk ans S).2 (thrI (flow i mc rest ii sk ans S).1 i)
 | [],ii,sk,ans,S,t,ht=>by cases sk<;>exact ⟨[],.nil,⟨by simp[flat];rfl,rfl⟩,rfl,λj q r k a h=>by cases h⟩
 |c :: rest,ii,true,ans,S,t,ht=>by obtain ⟨X,h1,h2⟩:=flow_fw i rest (ii+1) true (ans.set ii (4,0)) S t ht;exact ⟨X,.skip h1,h2⟩
 |c :: rest,ii,false,ans,S,t,ht=>by
  unfold flow;cases h:mc.set S.stk (mc.start i c) with
  |ans e x =>obtain ⟨X,h1,h2,h3,h4⟩:=flow_fw i rest (ii+1) (e==4) (ans.set ii (e,x)) (Bv (Bv S undef i 9 (-1) ii 0) undef i 10 (-1) ii e) t ht;exact ⟨_,.ans h h1,((Jp S undef i 9 (-1) ii 0).trans (Jp _ undef i 10 (-1) ii e)).trans h2,h3,h4⟩
  |turn op j q =>exact ⟨_,.turn h,⟨rfl,rfl⟩,rfl,λj q r k a h=>by cases h⟩
  |wait j q =>refine ⟨_,.wait h,⟨rfl,rfl⟩,rfl,λj' q' r k a h=>?_⟩;cases h;have e:thrI (waiting (Bv S undef i 9 (-1) ii 0) i (thrI S i) 2 6 j) i={ thrI S i with st:=2,ce:=j,op:=6,se:=D4 S.chg j }:=E0 (Hu (S:=Bv S undef i 9 (-1) ii 0) ht);rw[e];exact ⟨rfl,rfl⟩
theorem back_fw (i:Nat) (rest:List Cl) (ii:Nat) (ans:List (Int×Int)) (a:Int×Int) (S:TS) (K:List (Nat×Int)) (t:Thr) (ht:S.thr[i]? = some t):∃ X,Fw mc i S.stk rest (ii+1) (a.1==4) (ans.set ii a) X (back i mc rest ii ans a S K).2.2∧Adds S (back i mc rest ii ans a S K).1 (⟨i,-1,10,ii,a.1⟩ :: X)∧(back i mc rest ii ans a S K).1.chg=S.chg∧Aw S.chg (back i mc rest ii ans a S K).2.2 (thrI (back i mc rest ii ans a S K).1 i)∧(back i mc rest ii ans a S K).2.1=K:=by obtain ⟨X,h1,h2,h3,h4⟩:=flow_fw (mc:=mc) i rest (ii+1) (a.1==4) (ans.set ii a) (Bv S undef i 10 (-1) ii a.1) t ht;exact ⟨X,h1,(Jp S undef i 10 (-1) ii a.1).trans h2,h3,h4,rfl⟩
theorem on_fw (i:Nat) (rest:List Cl) (ii:Nat) (ans:List (Int×Int)) (S:TS) (K:List (Nat×Int)) (x:Nx) (t:Thr) (ht:S.thr[i]? = some t):∃ X,On mc i S.stk rest ii ans x X (on i mc rest ii ans S K x).2.2∧Adds S (on i mc rest ii ans S K x).1 X∧(on i mc rest ii ans S K x).1.chg=S.chg∧Aw S.chg (on i mc rest ii ans S K x).2.2 (thrI (on i mc rest ii ans S K x).1 i)∧(on i mc rest ii ans S K x).2.1=K:=by
 cases x with
 |ans e y =>obtain ⟨X,h1,h2,h3,h4,h5⟩:=back_fw (mc:=mc) i rest ii ans (e,y) S K t ht;exact ⟨_,.ans h1,h2,h3,h4,h5⟩
 |turn op j q=>exact ⟨[],.turn,⟨by simp[flat];rfl,rfl⟩,rfl,λj q r k a h=>(by cases h),rfl⟩
 |wait j q =>refine ⟨[],.wait,⟨by simp[flat];rfl,rfl⟩,rfl,λj' q' r k a h=>?_,rfl⟩;cases h;have e:thrI (waiting S i (thrI S i) 2 6 j) i={ thrI S i with st:=2,ce:=j,op:=6,se:=D4 S.chg j }:=E0 (Hu ht);show (thrI (waiting S i (thrI S i) 2 6 j) i).ce=_∧(thrI (waiting S i (thrI S i) 2 6 j) i).se=_;rw[e];exact ⟨rfl,rfl⟩
structure Vw where
 K:List Int
 stk:Bool
 chg:List Int
 se:Nat->Int
 l:Nat->Ph
 L:List Stp
def bump (chg:List Int) (j:Nat) (o n:Int):List Int:=if o≠n∧j<chg.length then chg.modify j (λx=>wrap64 (x+1)) else chg
structure Els (i:Nat) (l':Ph) (v v1:Vw):Prop where
 l:v1.l=upd v.l i l'
 oth:∀ k,k≠i->v1.se k=v.se k
 own:∀ j q r k a,l'=.wait j q r k a->v1.se i=D4 v1.chg j
inductive Mv (mc:Mc) (N:Nat) (v v1:Vw):Prop
 |stuck:v.stk=false->(∀ i,i<N->(∃ a,v.l i=.done a)∨∃ j q r k a,v.l i=.wait j q r k a∧D4 v.chg j=v.se i)->(∃ i,i<N∧∃ j q r k a,v.l i=.wait j q r k a) ->
   v1={ v with stk:=true,L:=v.L++[⟨-1,-1,7,0,0⟩] }->Mv mc N v v1
 |turn (i:Nat) (op:Int) (j:Nat) (q:Q) (rest:List Cl) (ii:Nat) (ans:List (Int×Int)) (X:List Stp) (l':Ph):i<N->v.l i=.turn op j q rest ii ans->On mc i v.stk rest ii ans (mc.set v.stk (mc.turn q (v.K.getD j 0)).2.2) X l'->Els i l' v v1 ->
   v1.K=v.K.set j (mc.turn q (v.K.getD j 0)).2.1->v1.stk=v.stk->v1.chg=bump v.chg j (mc.turn q (v.K.getD j 0)).1.1 (mc.turn q (v.K.getD j 0)).1.2->v1.L=v.L++⟨i,j,op,(mc.turn q (v.K.getD j 0)).1.1,(mc.turn q (v.K.getD j 0)).1.2⟩ :: (ntsL i (mc.nts q (v.K.getD j 0))++X)->Mv mc N v v1
 |wake (i j:Nat) (q:Q) (rest:List Cl) (ii:Nat) (ans:List (Int×Int)) (X:List Stp) (l':Ph):i<N->v.l i=.wait j q rest ii ans->v.stk=false->D4 v.chg j≠v.se i->On mc i false rest ii ans (mc.woke q) X l'->Els i l' v v1 ->
   v1.K=v.K->v1.stk=false->v1.chg=v.chg->v1.L=v.L++⟨i,j,6,0,0⟩ :: X->Mv mc N v v1
 |free (i j:Nat) (q:Q) (rest:List Cl) (ii:Nat) (ans:List (Int×Int)) (X:List Stp) (l':Ph):i<N->v.l i=.wait j q rest ii ans->v.stk=true->On mc i true rest ii ans (mc.stuck q) X l'->Els i l' v v1 ->
   v1.K=v.K->v1.stk=true->v1.chg=v.chg->v1.L=v.L++X->Mv mc N v v1
structure Seen (p:PSt) (v:Vw):Prop where
 K:v.K=p.K.map (·.2)
 stk:v.stk=p.S.stk
 chg:v.chg=p.S.chg
 se:∀ i,v.se i=(thrI p.S i).se
 l:v.l=p.l
 tr:p.S.tr=flat v.L
 n:p.S.n=v.L.length
 ce:∀ i t,p.S.thr[i]? = some t->∀ (j:Nat) (q:Q) (r:List Cl) (k:Nat) (a:List (Int×Int)),p.l i=.wait j q r k a->t.ce=(j:Int)
theorem getD_cell (K:List (Nat×Int)) (j:Nat):(K.map (·.2)).getD j 0=(cellAt K j).2:=by unfold cellAt;rw[Ql,List.getElem?_map];cases K[j]?<;>rfl
inductive Hi (mc:Mc):Nat->List (List Cl)->Vw->Vw->Prop
 |nil {k:Nat} {v:Vw}:Hi mc k [] v v
 |cons {k:Nat} {c:List Cl} {cs:List (List Cl)} {v v1 v2:Vw} {X:List Stp} {l':Ph}:Fw mc k v.stk c 0 false (List.replicate c.length (0,0)) X l'->v1.K=v.K->v1.stk=v.stk->v1.chg=v.chg->v1.L=v.L++X->Els k l' v v1->Hi mc (k+1) cs v1 v2->Hi mc k (c :: cs) v v2
theorem hires_hi {k:Nat}{ss:List (Scr mc)}{S S':TS}{l l':Nat->Ph}{K:List (Nat×Int)}(h:Hires mc k ss S l S' l'):∀ v,S.thr.length=k->(∀ s∈ss,s.ans=List.replicate s.calls.length (0,0))->Seen ⟨S,K,l⟩ v->∃ v',Hi mc k (ss.map (·.calls)) v v'∧Seen ⟨S',K,l'⟩ v':=by
 induction h with
 |nil=>exact λv _ _ s=>⟨v,.nil,s⟩
 |@cons k s ss S S' l l' tv tb gc h ih =>
  intro v hk ha sn;have hlen:(A6 S tv tb gc).thr.length=k+1:=by simp[A6,hk]
  have ht0:(A6 S tv tb gc).thr[k]? = some ⟨tb,gc,0,0,0,0⟩:=by simp[A6,hk]
  have sta:=G4 k mc s.calls 0 false s.ans (A6 S tv tb gc);obtain ⟨X,f1,f2,f3,f4⟩:=flow_fw (mc:=mc) k s.calls 0 false s.ans (A6 S tv tb gc) _ ht0;have hold:∀ i,i≠k->(flow k mc s.calls 0 false s.ans (A6 S tv tb gc)).1.thr[i]? = (A6 S tv tb gc).thr[i]?:=λi hi=>sta.oth i hi;have hth:∀ i,i≠k->thrI (flow k mc s.calls 0 false s.ans (A6 S tv tb gc)).1 i=thrI S i:=λi hi=>by
   unfold thrI;rw[hold i hi];by_cases hik:i<k;simp[A6,List.getElem?_append,hk,hik]
   .have h1:(A6 S tv tb gc).thr[i]? = none:=List.getElem?_eq_none (by rw[hlen];omega)
    have h2:S.thr[i]? = none:=List.getElem?_eq_none (by omega);rw[h1,h2]
  have e1:s.ans=List.replicate s.calls.length (0,0):=ha s (List.mem_cons_self ..);have hsn:Seen ⟨(flow k mc s.calls 0 false s.ans (A6 S tv tb gc)).1,K,upd l k (flow k mc s.calls 0 false s.ans (A6 S tv tb gc)).2⟩ ⟨v.K,v.stk,v.chg,λi=>(thrI (flow k mc s.calls 0 false s.ans (A6 S tv tb gc)).1 i).se,upd l k (flow k mc s.calls 0 false s.ans (A6 S tv tb gc)).2,v.L++X⟩:=by
   refine ⟨sn.K,?_,?_,λ_=>rfl,rfl,?_,?_,λi t ht j q r kk a hl=>?_⟩
   .show v.stk=(flow k mc s.calls 0 false s.ans (A6 S tv tb gc)).1.stk
    rw[sta.stk];exact sn.stk
   .show v.chg=(flow k mc s.calls 0 false s.ans (A6 S tv tb gc)).1.chg
    rw[f3];exact sn.chg
   .show (flow k mc s.calls 0 false s.ans (A6 S tv tb gc)).1.tr=_
    rw[f2.tr,flat_app];have:(A6 S tv tb gc).tr=flat v.L:=sn.tr;rw[this]
   .show (flow k mc s.calls 0 false s.ans (A6 S tv tb gc)).1.n=_
    rw[f2.n,Qj];have:(A6 S tv tb gc).n=v.L.length:=sn.n;rw[this]
   .have ht:(flow k mc s.calls 0 false s.ans (A6 S tv tb gc)).1.thr[i]? = some t:=ht
    have hl:upd l k (flow k mc s.calls 0 false s.ans (A6 S tv tb gc)).2 i=.wait j q r kk a:=hl;by_cases hik:i=k
    .subst hik
     rw[upd_same] at hl;have:=(f4 j q r kk a hl).1;rw[E0 ht] at this;exact this
    .rw[upd_ne _ _ hik] at hl
     rw[hold i hik] at ht;refine sn.ce i t ?_ j q r kk a hl;have:i<k:=by have:=(Qc ht).1;omega
     simpa [A6,List.getElem?_append,hk,this] using ht
  obtain ⟨v',h1,h2⟩:=ih _ (by rw[sta.len,hlen]) (λs' hs'=>ha s' (List.mem_cons_of_mem _ hs')) hsn;refine ⟨v',.cons (v1:=⟨v.K,v.stk,v.chg,λi=>(thrI (flow k mc s.calls 0 false s.ans (A6 S tv tb gc)).1 i).se,upd l k (flow k mc s.calls 0 false s.ans (A6 S tv tb gc)).2,v.L++X⟩) (X:=X) ?_ rfl rfl rfl rfl ⟨by rw[sn.l],λi hi=>?_,λj q r kk a hl=>?_⟩ h1,h2⟩
  .rw[<-e1]
   have:v.stk=S.stk:=sn.stk;rw[this];exact f1
  .show (thrI (flow k mc s.calls 0 false s.ans (A6 S tv tb gc)).1 i).se=_
   rw[hth i hi];exact (sn.se i).symm
  .have:=(f4 j q r kk a hl).2
   show (thrI (flow k mc s.calls 0 false s.ans (A6 S tv tb gc)).1 k).se=D4 v.chg j;rw[this];have:v.chg=S.chg:=sn.chg;rw[this];rfl
end
end Go.Proofs.YtbbhahigofeacaaDoor.Gen
namespace Go.Proofs.YtbbhahigofeacaaDoor.Gen
open Go Go.Lift Go.Conc Go.RowKit
variable {W v v':World} {b k o:Nat} {l:List (Nat×Value)} {a:Act} {p:Option Addr}
theorem Lc (e:v'.heap=v.heap) (e1:v'.os=v.os) (e2:v'.output=v.output):Grows v v':=⟨by rw[e];exact Qi _,λb _=>by rw[e],e1,e2⟩
theorem grow_push {x:Obj}(e:v'.heap=v.heap.push x) (e1:v'.os=v.os) (e2:v'.output=v.output):Grows v v':=⟨by rw[e];simp,λb hb=>by rw[e,Qg,if_neg (by omega)],e1,e2⟩
theorem Jg {v2:World}(a:Grows v v') (b:Grows v' v2):Grows v v2:=⟨Qk a.size b.size,λq hq=>by rw[b.old q (Qp hq a.size),a.old q hq],b.os.trans a.os,b.output.trans a.output⟩
theorem Fl.hd {n:Nat}{c:Bool}(h:Fl n ((k,.bool c) :: l) a) (hc:c=true):a.eval (.tmp k)=.bool true:=by subst hc;exact h.2.2 (k,.bool true) (.head _)
theorem Fl.hf {n:Nat}{c:Bool}(h:Fl n ((k,.bool c) :: l) a) (hc:c=false):a.eval (.tmp k)=.bool false:=by subst hc;exact h.2.2 (k,.bool false) (.head _)
theorem Fl.tl {n:Nat}{x:Nat×Value}(h:Fl n (x :: l) a):Fl n l a:=⟨h.1,h.2.1,λp hp=>h.2.2 p (.tail _ hp)⟩
structure Kq (B:Nat) (w w':World):Prop where
 os:w'.os=w.os
 out:w'.output=w.output
 size:w.heap.size<=w'.heap.size
 old:∀ k,k<B->w'.heap[k]? = w.heap[k]?
section
variable {B:Nat}{u v w:World}
theorem Kq.refl (B:Nat) (w:World):Kq B w w:=⟨rfl,rfl,Qi _,λ_ _=>rfl⟩
theorem Kq.cell (k:Kq B u v) {a:Addr}{x:Value}(h:u.cell? a=some x) (hb:a.block<B):v.cell? a=some x:=by rw[World.cell?_of_block (w:=u) (w':=v) (k.old _ hb)];exact h
theorem Kq.grows (k:Kq B u v) (h:u.heap.size<=B):Grows u v:=⟨k.size,λb hb=>k.old b (by omega),k.os,k.out⟩
end
theorem _root_.Go.Proofs.YtbbhahigofeacaaDoor.Grows.toAt {W v w:World}(h:Grows W v) (hr:Rel zn v w) (d:Nat):Grows W (w.at d):=by have e:(w.at d).heap=v.heap:=hr.eq;exact ⟨by rw[e];exact h.size,λb hb=>by rw[e];exact h.old b hb,hr.os.trans h.os,hr.output.trans h.output⟩
def PostT (W:World) (r:Value) (w':World):Prop:=r=.bool true∧Grows W w'
def InR (x:Int):Prop:=-9223372036854775808<=x∧x<9223372036854775808
def Cl.ok (c:Cl):Prop:=InR c.cb∧InR c.cc
structure InI (W:World) (p:Option Addr) (b o:Nat) (xs:List Int):Prop where
 at_:0<xs.length->p=some ⟨b,o,none⟩
 cell:∀ k x,xs[k]? = some x->W.cell? ⟨b,o+k,none⟩=some (I x)
 inr:∀ x∈xs,InR x
 len:xs.length<=17592186043904
theorem InI.grows {W':World}{xs:List Int}(h:InI W p b o xs) (g:Grows W W'):InI W' p b o xs :=
 ⟨h.at_,λk x hk=>g.cell (h.cell k x hk),h.inr,h.len⟩
structure InS (W:World) (p:Option Addr) (b o n:Nat) (pc:Nat->Option Addr) (ln cp rb:Nat->Nat) (cl:Nat->List Cl):Prop where
 at_:0<n->p=some ⟨b,o,none⟩
 row:∀ k,k<n->W.cell? ⟨b,o+k,none⟩=some (.slice (pc k) (ln k) (cp k))
 len:∀ j,j<n->(cl j).length=ln j
 pq:∀ j,j<n->0<ln j->pc j=some ⟨rb j,roOf (pc j),none⟩
 call:∀ j,j<n->∀ (k:Nat) (c:Cl),(cl j)[k]? = some c->W.cell? ⟨rb j,roOf (pc j)+k*4,none⟩=some (I c.po)∧W.cell? ⟨rb j,roOf (pc j)+k*4+1,none⟩=some (I c.ca)∧W.cell? ⟨rb j,roOf (pc j)+k*4+2,none⟩=some (I c.cb)∧W.cell? ⟨rb j,roOf (pc j)+k*4+3,none⟩=some (I c.cc)
 ok:∀ j,j<n->∀ c∈cl j,InR c.ca∧c.ok
 n:n<=17592186043904
theorem InS.grows {W':World}{n:Nat}{pc:Nat->Option Addr}{ln cp rb:Nat->Nat}{cl:Nat->List Cl}(h:InS W p b o n pc ln cp rb cl) (g:Grows W W'):InS W' p b o n pc ln cp rb cl :=
 ⟨h.at_,λk hk=>g.cell (h.row k hk),h.len,h.pq,λj hj k c hc=>by have:=h.call j hj k c hc;exact ⟨g.cell this.1,g.cell this.2.1,g.cell this.2.2.1,g.cell this.2.2.2⟩,h.ok,h.n⟩
theorem lens_scrs (mc:Mc) (fid:FuncId) (caps:Array Value) (pk:Nat->Option Obj) (N n:Nat) (K:List (Nat×Int)) (pc:Nat->Option Addr) (ln cp rb:Nat->Nat) (cl:Nat->List Cl) (hl:∀ j,j<n->(cl j).length<=64):lens (scrs mc fid caps pk N n K pc ln cp rb cl)<=64*n:=by
 unfold lens scrs;rw[List.map_map];have:∀ (m j:Nat),j+m<=n->((List.range' j m).map ((λs:Scr mc=>s.calls.length) ∘ scrOf mc fid caps pk N n (K.map (·.1)) pc ln cp rb cl)).sum<=64*m:=by
  intro m;induction m with
  |zero=>intro j _;simp
  |succ m ih =>intro j hj;rw[List.range'_succ,List.map_cons,List.sum_cons];have h1:=ih (j+1) (by omega);have h2:((λs:Scr mc=>s.calls.length) ∘ scrOf mc fid caps pk N n (K.map (·.1)) pc ln cp rb cl) j<=64:=hl j (by omega);omega
 exact this n 0 (by omega)
theorem scrs_len (mc:Mc) (fid:FuncId) (caps:Array Value) (pk:Nat->Option Obj) (N n:Nat) (K:List (Nat×Int)) (pc:Nat->Option Addr) (ln cp rb:Nat->Nat) (cl:Nat->List Cl):(scrs mc fid caps pk N n K pc ln cp rb cl).length=n:=by simp[scrs]
theorem asked_of {n:Nat}{pc:Nat->Option Addr}{ln cp rb:Nat->Nat}{cl:Nat->List Cl}(h:InS W p b o n pc ln cp rb cl) {xs:List Int}{wb bk:Nat}{sc:Value}(hn:IsNew W xs wb bk sc v) (h64:∀ j,j<n->ln j<=64) (h0:0<n):Asked v (newS wb bk W.heap.size sc xs) n b o pc ln cp rb cl:=by
 have g:=h.grows hn.old;have far:∀ (a:Addr) (x:Value),W.cell? a=some x->¬ Own (newS wb bk W.heap.size sc xs) [] a.block:=λa x ha ho=>by have:=hn.new _ (.inl ho);have:=World.block_lt_of_cell? _ _ ha;omega
 refine ⟨λj hj=>⟨h.len j hj,h64 j hj⟩,g.row,far _ _ (h.row 0 h0),λj hj hl=>⟨h.pq j hj hl,?_⟩,g.call,λj hj c hc=>(h.ok j hj c hc).1⟩;obtain ⟨c,hc⟩:∃ c,(cl j)[0]? = some c:=⟨_,Qf (by rw[h.len j hj];exact hl)⟩
 exact far _ _ (h.call j hj 0 c hc).1
theorem going_wb (S:TS) (i:Nat) (t:Thr):(going S i t).wb=S.wb:=by
 unfold going;first
  |rfl
  |(unfold picked;split<;>rfl)
  |(split<;>rfl)
theorem pturn_wb {mc:Mc}{p p':PSt}(h:Fv mc p=some p'):p'.S.wb=p.S.wb:=by
 unfold Fv at h;split at h
 .split at h
  cases h;rfl;cases h
 .cases h
  exact (F9 _ _ _ _ _).wb.trans (going_wb _ _ _)
theorem turns_wb {mc:Mc}{m:Nat}{p p':PSt}(h:Turns mc m p p'):p'.S.wb=p.S.wb:=by
 induction h with
 |stop _=>rfl
 |step h1 _ ih=>exact ih.trans (pturn_wb h1)
theorem hires_wb {mc:Mc}{ss:List (Scr mc)}{S S':TS}{l l':Nat->Ph}(h:Hires mc k ss S l S' l'):S'.wb=S.wb:=by
 induction h with
 |nil=>rfl
 |cons tv tb gc _ ih=>exact ih.trans (G4 _ _ _ _ _ _ _).wb
section
variable (mc:Mc) (fid:FuncId) (caps:Array Value) (pk:Nat->Option Obj) (N n:Nat) (K:List (Nat×Int)) (pc:Nat->Option Addr) (ln cp rb:Nat->Nat) (cl:Nat->List Cl)
theorem scrs_calls:(scrs mc fid caps pk N n K pc ln cp rb cl).map (·.calls)=(List.range' 0 n).map cl:=by unfold scrs;rw[List.map_map];rfl
theorem scrs_ans (hlen:∀ j,j<n->(cl j).length=ln j):∀ x∈scrs mc fid caps pk N n K pc ln cp rb cl,x.ans=List.replicate x.calls.length (0,0):=λs hs=>by simp only[scrs,List.mem_map,List.mem_range'] at hs;obtain ⟨j,⟨i,hi,rfl⟩,rfl⟩:=hs;show List.replicate (ln (0+1*i)) (0,0)=List.replicate (cl (0+1*i)).length (0,0);rw[hlen _ (by omega)]
end
end Go.Proofs.YtbbhahigofeacaaDoor.Gen
