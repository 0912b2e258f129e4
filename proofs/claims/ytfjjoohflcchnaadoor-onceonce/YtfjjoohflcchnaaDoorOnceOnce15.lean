/- OnceOnce, part 15 of 26: OnR, OnR2, OnRun, GWp, GObj, GRK, GL12, GFree, GFree2, OnT, OnT2, OnT3. -/
import Derived.Test.YtfjjoohflcchnaaDoorOnceOnce01
import Derived.Test.YtfjjoohflcchnaaDoorOnceOnce04
import Derived.Test.YtfjjoohflcchnaaDoorOnceOnce09
import Derived.Test.YtfjjoohflcchnaaDoorOnceOnce13
import Derived.Test.YtfjjoohflcchnaaDoorOnceOnce14
import Derived.Deep.LoopGhost
import Derived.Deep.OwnRows
import Derived.Deep.RegionWith
import Derived.Deep.RegionHeld3
import Derived.BigQuiet
set_option linter.unusedSimpArgs false
set_option linter.unusedVariables false
set_option maxHeartbeats 4000000
set_option maxRecDepth 100000
noncomputable section
namespace Go.Proofs.YtfjjoohflcchnaaDoor.Gen
open Go Go.Lift Go.Conc Go.RowKit
open Go.ConcN (upd upd_same upd_ne)
variable {i ii:Nat} {c:Cl} {a b ce:Int} {K:List Int} {X:List Stp} {l:Ph} {v v1:Vw}
structure Ro where
 st:Nat->Nat
 en:Nat->Bool
 la:Nat->Bool
 co:Nat->Nat
 wr:Nat->Nat
def ro0:Ro:=⟨λ_=>0,λ_=>false,λ_=>false,λ_=>0,λ_=>0⟩
def rsO (m:Nat) (cl:Nat->List Cl) (r:Ro) (s:Stp):Ro :=
 if s.op=9 then
  match (cl s.th.toNat)[s.ol.toNat]? with
  |some c=>if 1<=c.po∧c.po<=4 then { r with la:=upd r.la s.th.toNat (r.en (which c.ca m)),co:=upd r.co s.th.toNat 0,wr:=upd r.wr s.th.toNat 0 } else r
  |none=>r
 else if s.op=10 then
  match (cl s.th.toNat)[s.ol.toNat]? with
  |some c=>if 1<=c.po∧c.po<=4 then { r with en:=upd r.en (which c.ca m) true } else r
  |none=>r
 else { r with co:=upd r.co s.th.toNat (r.co s.th.toNat+1),wr:=if s.op=1 then r.wr else upd r.wr s.th.toNat (r.wr s.th.toNat+1),st:=if s.op=2∧s.ce % 2=1∧s.ce / 2<m then upd r.st (s.ce / 2).toNat (r.st (s.ce / 2).toNat+1) else r.st }
def repO (m:Nat) (cl:Nat->List Cl) (L:List Stp):Ro:=L.foldl (rsO m cl) ro0
def StO (N m:Nat) (cl:Nat->List Cl) (r:Ro) (s:Stp):Prop :=
 ∃ t:Nat,s.th=(t:Int)∧t<N∧(s.op=9∨s.op=10->∃ k:Nat,s.ol=(k:Int)∧k<(cl t).length)∧(s.op=10->∀ (k:Nat) (c:Cl),s.ol=(k:Int)->(cl t)[k]? = some c->isO c->r.la t=true->r.co t=2∧r.wr t=0)∧(s.op=2->(∃ k:Nat,s.ce=(k:Int)∧k<2*m)∧∀ o,o<m->s.ce=((2*o+1:Nat):Int)->r.st o=0)
def StsO (N m:Nat) (cl:Nat->List Cl) (r:Ro):List Stp->Prop
 | []=>True
 |s :: L=>StO N m cl r s∧StsO N m cl (rsO m cl r s) L
theorem StsO.app {N m:Nat}{cl:Nat->List Cl}:∀ {L L':List Stp}{r:Ro},StsO N m cl r L->StsO N m cl (L.foldl (rsO m cl) r) L'->StsO N m cl r (L++L')
 | [],L',r,_,h=>h
 |s :: L,L',r,h,h'=>⟨h.1,StsO.app h.2 h'⟩
section
variable {m N:Nat}{cl:Nat->List Cl}{r:Ro}{i:Nat}
theorem rsO_beg (hc:(cl i)[ii]? = some c) (ho:isO c):rsO m cl r ⟨i,-1,9,ii,0⟩={ r with la:=upd r.la i (r.en (which c.ca m)),co:=upd r.co i 0,wr:=upd r.wr i 0 }:=by unfold rsO;simp only[Int.toNat_natCast,hc,if_true];rw[if_pos (show 1<=c.po∧c.po<=4 from ho)]
theorem rsO_begN (hc:(cl i)[ii]? = some c) (ho:¬ isO c):rsO m cl r ⟨i,-1,9,ii,0⟩=r:=by unfold rsO;simp only[Int.toNat_natCast,hc,if_true];rw[if_neg (show ¬ (1<=c.po∧c.po<=4) from ho)]
theorem rsO_end {e:Int} (hc:(cl i)[ii]? = some c) (ho:isO c):rsO m cl r ⟨i,-1,10,ii,e⟩={ r with en:=upd r.en (which c.ca m) true }:=by unfold rsO;simp only[Int.toNat_natCast,hc];rw[if_neg (by decide),if_pos trivial,if_pos (show 1<=c.po∧c.po<=4 from ho)]
theorem rsO_endN {e:Int}(hc:(cl i)[ii]? = some c) (ho:¬ isO c):rsO m cl r ⟨i,-1,10,ii,e⟩=r:=by unfold rsO;simp only[Int.toNat_natCast,hc];rw[if_neg (by decide),if_pos trivial,if_neg (show ¬ (1<=c.po∧c.po<=4) from ho)]
theorem A6 {op:Int} (h9:op≠9) (h10:op≠10):rsO m cl r ⟨i,ce,op,a,b⟩={ r with co:=upd r.co i (r.co i+1),wr:=if op=1 then r.wr else upd r.wr i (r.wr i+1),st:=if op=2∧ce % 2=1∧ce / 2<m then upd r.st (ce / 2).toNat (r.st (ce / 2).toNat+1) else r.st }:=by unfold rsO;simp only[Int.toNat_natCast];rw[if_neg h9,if_neg h10]
def LaO (r:Ro) (K:List Int) (i:Nat):Ph->Prop
 |.turn _ _ q _ _ _=>r.la i=true->(q.1=1∧dA q=0∧r.co i=0∧r.wr i=0∧R1.stI (wdO K (oA q))=2)∨(q.1=2∧r.co i=1∧r.wr i=0)
 |.wait _ _ _ _ _=>r.la i=false
 |.done _=>True
theorem fw_T {rest:List Cl}{sk:Bool}{ans:List (Int×Int)}(hi:i<N) (h:Fw (mcO m) i false rest ii sk ans X l):
 sk=false->rest=(cl i).drop ii->∀ r:Ro,(∀ o,r.en o=true->R1.stI (wdO K o)=2) ->
 StsO N m cl r X∧(X.foldl (rsO m cl) r).en=r.en∧(X.foldl (rsO m cl) r).st=r.st∧(∀ t,t≠i->(X.foldl (rsO m cl) r).la t=r.la t∧(X.foldl (rsO m cl) r).co t=r.co t∧(X.foldl (rsO m cl) r).wr t=r.wr t)∧LaO (X.foldl (rsO m cl) r) K i l:=by
 induction h with
 |nil=>exact λ_ _ r _=>⟨trivial,rfl,rfl,λ_ _=>⟨rfl,rfl,rfl⟩,trivial⟩
 |skip=>intro hsk;cases hsk
 |@ans c rest ii ans X l e x hst _ ih =>
  intro _ hr r hen;rw[Mc.set_false] at hst;have hcs:(cl i)[ii]? = some c:=by have:=congrArg (·[0]?) hr;simpa using this.symm
  have hlt:=(Qc hcs).1;have hst':(if 1<=c.po∧c.po<=4 then Nx.turn 1 (2*which c.ca m) (1,lO (which c.ca m) (c.po - 1) c.cb 0 i) else .ans 1 0)=.ans e x:=hst;have hno:¬ isO c:=λhc=>by rw[if_pos (show 1<=c.po∧c.po<=4 from hc)] at hst';cases hst'
  rw[if_neg (show ¬ (1<=c.po∧c.po<=4) from hno)] at hst';cases hst';obtain ⟨q1,q2⟩:=ih rfl (by rw[<-List.tail_drop,<-hr];rfl) r hen;have hr9:rsO m cl r ⟨i,-1,9,ii,0⟩=r:=rsO_begN hcs hno;have hr10:rsO m cl r ⟨i,-1,10,ii,1⟩=r:=rsO_endN hcs hno;refine ⟨⟨⟨i,rfl,hi,λ_=>⟨ii,rfl,hlt⟩,λh=>absurd (show (9:Int)=10 from h) (by decide),λh=>absurd (show (9:Int)=2 from h) (by decide)⟩,?_⟩,?_⟩
  .rw[hr9]
   refine ⟨⟨i,rfl,hi,λ_=>⟨ii,rfl,hlt⟩,λ_ k c' hk hc' ho=>?_,λh=>absurd (show (10:Int)=2 from h) (by decide)⟩,by rw[hr10];exact q1⟩;have hk:(ii:Int)=(k:Int):=hk;obtain rfl:ii=k:=by omega
   rw[hcs] at hc';cases hc';exact absurd ho hno
  .rw[List.foldl_cons,List.foldl_cons,hr9,hr10]
   exact q2
 |@turn c rest ii ans op j q hst =>
  intro _ hr r hen;rw[Mc.set_false] at hst;have hcs:(cl i)[ii]? = some c:=by have:=congrArg (·[0]?) hr;simpa using this.symm
  have hlt:=(Qc hcs).1;have hst':(if 1<=c.po∧c.po<=4 then Nx.turn 1 (2*which c.ca m) (1,lO (which c.ca m) (c.po - 1) c.cb 0 i) else .ans 1 0)=.turn op j q:=hst;by_cases hc:1<=c.po∧c.po<=4
  .rw[if_pos hc] at hst'
   cases hst';refine ⟨⟨⟨i,rfl,hi,λ_=>⟨ii,rfl,hlt⟩,λh=>absurd (show (9:Int)=10 from h) (by decide),λh=>absurd (show (9:Int)=2 from h) (by decide)⟩,trivial⟩,?_⟩;rw[List.foldl_cons,List.foldl_nil,rsO_beg hcs hc];refine ⟨rfl,rfl,λt ht=>⟨upd_ne _ _ ht,upd_ne _ _ ht,upd_ne _ _ ht⟩,λhla=>.inl ⟨rfl,dA_0 _ _ _ _ _ _,upd_same _ _ _,upd_same _ _ _,?_⟩⟩;rw[oA_0];have hla:upd r.la i (r.en (which c.ca m)) i=true:=hla;rw[upd_same] at hla;exact hen _ hla
  .rw[if_neg hc] at hst'
   cases hst'
 |@wait c rest ii ans j q hst =>intro _ hr r hen;rw[Mc.set_false] at hst;have hst':(if 1<=c.po∧c.po<=4 then Nx.turn 1 (2*which c.ca m) (1,lO (which c.ca m) (c.po - 1) c.cb 0 i) else .ans 1 0)=.wait j q:=hst;split at hst'<;>cases hst'
def FsP (o:Nat) (l:Ph):Prop:=∃ op j q r k a,l=.turn op j q r k a∧oA q=o∧q.1=6
structure OT (N m:Nat) (cl:Nat->List Cl) (v:Vw):Prop where
 sts:StsO N m cl ro0 v.L
 en:∀ o,(repO m cl v.L).en o=true->R1.stI (wdO v.K o)=2
 stz:∀ o,o<m->(repO m cl v.L).st o≠0->R1.stI (wdO v.K o)=2∨∃ t,t<N∧FsP o (v.l t)
 late:∀ t,t<N->LaO (repO m cl v.L) v.K t (v.l t)
theorem LaO.oth {r r':Ro}{K':List Int}{t:Nat}(h:LaO r K t l) (e1:r'.la t=r.la t) (e2:r'.co t=r.co t) (e3:r'.wr t=r.wr t) (hd:∀ o,R1.stI (wdO K o)=2->R1.stI (wdO K' o)=2):LaO r' K' t l:=by
 cases l with
 |done a=>trivial
 |wait j q r ii a=>exact e1.trans h
 |turn op j q r ii a =>
  intro hla;rw[e1] at hla;rcases h hla with ⟨h1,h2,h3,h4,h5⟩|⟨h1,h2,h3⟩
  exact .inl ⟨h1,h2,e2.trans h3,e3.trans h4,hd _ h5⟩;exact .inr ⟨h1,e2.trans h2,e3.trans h3⟩
theorem OT.move {l':Ph}{op:Int}(h:OT N m cl v) (hi:i<N) (e:Els i l' v v1) (h9:op≠9) (h10:op≠10) (hL:v1.L=v.L++⟨i,ce,op,a,b⟩ :: X) (hd:∀ o,R1.stI (wdO v.K o)=2->R1.stI (wdO v1.K o)=2)
 (h2:op=2->(∃ k:Nat,ce=(k:Int)∧k<2*m)∧∀ o,o<m->ce=((2*o+1:Nat):Int)->(repO m cl v.L).st o=0)
 (hX:∀ r1,r1=rsO m cl (repO m cl v.L) ⟨i,ce,op,a,b⟩->StsO N m cl r1 X∧(∀ o,(X.foldl (rsO m cl) r1).en o=true->R1.stI (wdO v1.K o)=2)∧(X.foldl (rsO m cl) r1).st=r1.st∧(∀ t,t≠i->(X.foldl (rsO m cl) r1).la t=r1.la t∧(X.foldl (rsO m cl) r1).co t=r1.co t∧(X.foldl (rsO m cl) r1).wr t=r1.wr t)∧LaO (X.foldl (rsO m cl) r1) v1.K i l')
 (hz:∀ o,o<m->(rsO m cl (repO m cl v.L) ⟨i,ce,op,a,b⟩).st o≠0->R1.stI (wdO v1.K o)=2∨∃ t,t<N∧FsP o (v1.l t)):OT N m cl v1:=by
 obtain ⟨q1,q2,q3,q4,q5⟩:=hX _ rfl;have hrep:repO m cl v1.L=X.foldl (rsO m cl) (rsO m cl (repO m cl v.L) ⟨i,ce,op,a,b⟩):=by rw[hL];unfold repO;rw[List.foldl_append,List.foldl_cons]
 refine ⟨?_,by rw[hrep];exact q2,λo ho hne=>?_,λt ht=>?_⟩
 .rw[hL]
  exact h.sts.app ⟨⟨i,rfl,hi,λh=>(h.elim h9 h10).elim,λh=>absurd h h10,h2⟩,q1⟩
 .rw[hrep,q3] at hne
  exact hz o ho hne
 .rw[hrep,e.l]
  by_cases hti:t=i;subst hti;rw[upd_same];exact q5
  .rw[upd_ne _ _ hti]
   obtain ⟨k1,k2,k3⟩:=q4 t hti;rw[A6 h9 h10] at k1 k2 k3;refine (h.late t ht).oth ?_ ?_ ?_ hd;rw[A6 h9 h10];exact k1;rw[A6 h9 h10];exact k2.trans (upd_ne _ _ hti)
   .rw[A6 h9 h10]
    refine k3.trans ?_;show (if op=1 then (repO m cl v.L).wr else upd (repO m cl v.L).wr i ((repO m cl v.L).wr i+1)) t=_;split;rfl;exact upd_ne _ _ hti
end
section
variable {m N:Nat}{cl:Nat->List Cl}
theorem st_same {r:Ro}{op:Int}(h9:op≠9) (h10:op≠10) (h:op≠2∨ce % 2=0):(rsO m cl r ⟨i,ce,op,a,b⟩).st=r.st:=by rw[A6 h9 h10];show (if _ then _ else _)=_;rw[if_neg (by omega)]
theorem Ar {r:Ro}{op:Int}(h9:op≠9) (h10:op≠10):(rsO m cl r ⟨i,ce,op,a,b⟩).la=r.la∧(rsO m cl r ⟨i,ce,op,a,b⟩).en=r.en∧(rsO m cl r ⟨i,ce,op,a,b⟩).co i=r.co i+1:=by rw[A6 h9 h10];exact ⟨rfl,rfl,upd_same _ _ _⟩
theorem wr_load {r:Ro}:(rsO m cl r ⟨i,ce,1,a,b⟩).wr=r.wr:=by rw[A6 (by decide) (by decide)];rfl
theorem LaO.no {r:Ro}(h:r.la i=false):LaO r K i l:=by
 cases l with
 |done a=>trivial
 |wait j q r ii a=>exact h
 |turn op j q r ii a=>intro hla;rw[h] at hla;cases hla
theorem OT.step {v v1:Vw}{i:Nat}{l':Ph}{ce op a b:Int}(h:OT N m cl v) (hi:i<N) (e:Els i l' v v1) (h9:op≠9) (h10:op≠10) (hL:v1.L=v.L++[⟨i,ce,op,a,b⟩]) (hd:∀ o,R1.stI (wdO v.K o)=2->R1.stI (wdO v1.K o)=2)
 (h2:op=2->(∃ k:Nat,ce=(k:Int)∧k<2*m)∧∀ o,o<m->ce=((2*o+1:Nat):Int)->(repO m cl v.L).st o=0) (hla:LaO (rsO m cl (repO m cl v.L) ⟨i,ce,op,a,b⟩) v1.K i l')
 (hz:∀ o,o<m->(rsO m cl (repO m cl v.L) ⟨i,ce,op,a,b⟩).st o≠0->R1.stI (wdO v1.K o)=2∨∃ t,t<N∧FsP o (v1.l t)):OT N m cl v1 :=
 h.move hi e h9 h10 hL hd h2 (λr1 e1=>⟨trivial,λo ho=>by have ho:r1.en o=true:=ho;rw[e1,(Ar h9 h10).2.1] at ho;exact hd o (h.en o ho),rfl,λt _=>⟨rfl,rfl,rfl⟩,by rw[e1];exact hla⟩) hz
theorem OT.ends {l':Ph}{op:Int}{rest:List Cl}{ans:List (Int×Int)}{x:Int×Int}(h:OT N m cl v) (hi:i<N) (e:Els i l' v v1) (h9:op≠9) (h10:op≠10) (hL:v1.L=v.L++⟨i,ce,op,a,b⟩ :: ⟨i,-1,10,ii,x.1⟩ :: X) (hd:∀ o,R1.stI (wdO v.K o)=2->R1.stI (wdO v1.K o)=2)
 (h2:op=2->(∃ k:Nat,ce=(k:Int)∧k<2*m)∧∀ o,o<m->ce=((2*o+1:Nat):Int)->(repO m cl v.L).st o=0)
 (hfw:Fw (mcO m) i false rest (ii+1) (x.1==4) (ans.set ii x) X l') (h4:x.1≠4) (hr:rest=(cl i).drop (ii+1)) (hc:(cl i)[ii]? = some c) (hco:isO c) (hdn:R1.stI (wdO v1.K (which c.ca m))=2)
 (hchk:(repO m cl v.L).la i=true->(rsO m cl (repO m cl v.L) ⟨i,ce,op,a,b⟩).co i=2∧(rsO m cl (repO m cl v.L) ⟨i,ce,op,a,b⟩).wr i=0)
 (hz:∀ o,o<m->(rsO m cl (repO m cl v.L) ⟨i,ce,op,a,b⟩).st o≠0->R1.stI (wdO v1.K o)=2∨∃ t,t<N∧FsP o (v1.l t)):OT N m cl v1:=by
 refine h.move hi e h9 h10 hL hd h2 (λr1 e1=>?_) hz;have hlt:=(Qc hc).1;have he:rsO m cl r1 ⟨i,-1,10,ii,x.1⟩={ r1 with en:=upd r1.en (which c.ca m) true }:=rsO_end hc hco;have hen:∀ o,(rsO m cl r1 ⟨i,-1,10,ii,x.1⟩).en o=true->R1.stI (wdO v1.K o)=2:=λo ho=>by
  rw[he] at ho;have ho:upd r1.en (which c.ca m) true o=true:=ho;by_cases q:o=which c.ca m;rw[q];exact hdn
  .rw[upd_ne _ _ q,e1,(Ar h9 h10).2.1] at ho
   exact hd o (h.en o ho)
 obtain ⟨q1,q2,q3,q4,q5⟩:=fw_T (K:=v1.K) hi hfw (by simpa using h4) hr (rsO m cl r1 ⟨i,-1,10,ii,x.1⟩) hen;refine ⟨⟨⟨i,rfl,hi,λ_=>⟨ii,rfl,hlt⟩,λ_ k c' hk hc' ho hla=>?_,λh=>absurd (show (10:Int)=2 from h) (by decide)⟩,q1⟩,?_,?_,?_,?_⟩
 .rw[e1,(Ar h9 h10).1] at hla
  rw[e1];exact hchk hla
 rw[List.foldl_cons,q2];exact hen;rw[List.foldl_cons,q3,he]
 .intro t ht
  rw[List.foldl_cons];obtain ⟨k1,k2,k3⟩:=q4 t ht;rw[k1,k2,k3,he];exact ⟨rfl,rfl,rfl⟩
 rw[List.foldl_cons];exact q5
theorem ot_mv (h0:0<m) (hN:N<=256) (h:OV N m cl v) (ht:OT N m cl v) (hm:Mv (mcO m) N v v1):OT N m cl v1:=by
 have h1:=oi_mv h0 hN h hm;cases hm with
 |stuck hs hall hex e1 =>exfalso;have:=h1.stk;rw[e1] at this;cases this
 |turn i op j q rest ii ans X l' hi hl ho e hK hst hg hL =>
  rw[h.stk,Mc.set_false] at ho;have hL:v1.L=v.L++⟨i,j,op,((mcO m).turn q (v.K.getD j 0)).1.1,((mcO m).turn q (v.K.getD j 0)).1.2⟩ :: X:=hL;have hs:=h.seat i hi;rw[hl] at hs;obtain ⟨hal,hr,c,hc,hco,hse⟩:=hs;have hlt:=ht.late i hi;rw[hl] at hlt;have hom:=which_lt c.ca h0;have hw:=h.word _ hom;have hlw:2*which c.ca m<v.K.length:=by rw[h.kl];omega
  have hlv:2*which c.ca m+1<v.K.length:=by rw[h.kl];omega
  have same:v1.K=v.K->∀ o,R1.stI (wdO v.K o)=2->R1.stI (wdO v1.K o)=2:=λhK o q=>by rw[hK];exact q
  have zsame:∀ ce op' a b,op'≠9->op'≠10->(op'≠2∨ce % 2=0)->(∀ o,R1.stI (wdO v.K o)=2->R1.stI (wdO v1.K o)=2)->(∀ o,FsP o (v.l i)->R1.stI (wdO v1.K o)=2)->∀ o,o<m->(rsO m cl (repO m cl v.L) ⟨i,ce,op',a,b⟩).st o≠0->R1.stI (wdO v1.K o)=2∨∃ t,t<N∧FsP o (v1.l t):=λce op' a b h9 h10 h2 hd hf o ho' hne=>by
   rw[st_same h9 h10 h2] at hne;rcases ht.stz o ho' hne with q|⟨t,q1,q2⟩
   exact .inl (hd o q)
   .by_cases hti:t=i
    subst hti;exact .inl (hf o q2);exact .inr ⟨t,q1,by rw[e.l,upd_ne _ _ hti];exact q2⟩
  have nof:∀ {o:Nat} {op:Int} {j:Nat} {q:Q} {r:List Cl} {k:Nat} {a:List (Int×Int)},q.1≠6->¬ FsP o (.turn op j q r k a):=λhq hf=>by obtain ⟨op',j',q',r',k',a',e',_,e2⟩:=hf;cases e';exact hq e2
  rcases hse with ⟨rfl,rfl,rfl⟩|⟨rfl,rfl,rfl⟩|⟨rfl,rfl,rfl,hs2⟩|⟨rfl,rfl,rfl,hp4,hwi⟩|⟨rfl,rfl,rfl,hwi⟩|⟨rfl,rfl,rfl,hwi,hvi⟩
  . -- it looks
   rw[turn1] at ho hK hL;have hK:v1.K=v.K:=hK.trans Aq;have ho:On (mcO m) i false rest ii ans (Az (which c.ca m) (c.po - 1) c.cb 0 i (wdO v.K (which c.ca m))) X l':=ho;have hf:∀ o,FsP o (v.l i)->R1.stI (wdO v1.K o)=2:=λo hf=>by rw[hl] at hf;exact absurd hf (nof (by simp))
   have hla:(repO m cl v.L).la i=true->(repO m cl v.L).co i=0∧(repO m cl v.L).wr i=0∧R1.stI (wdO v.K (which c.ca m))=2:=λq=>by
    rcases hlt q with ⟨_,_,k3,k4,k5⟩|⟨k1,_⟩
    rw[oA_0] at k5;exact ⟨k3,k4,k5⟩;cases k1
   unfold Az at ho;by_cases hx:R1.stI (wdO v.K (which c.ca m))=2
   .rw[if_pos hx] at ho
    cases ho;refine ht.step hi e (by decide) (by decide) hL (same hK) (λq=>absurd q (by decide)) (λq=>?_) (zsame _ 1 _ _ (by decide) (by decide) (.inl (by decide)) (same hK) hf);rw[(Ar (by decide) (by decide)).1] at q;obtain ⟨k1,k2,_⟩:=hla q;exact .inr ⟨rfl,by rw[(Ar (by decide) (by decide)).2.2,k1],by rw[wr_load];exact k2⟩
   .have hno:(repO m cl v.L).la i=false:=by
     cases q:(repO m cl v.L).la i with
     |false=>rfl
     |true=>exact absurd (hla q).2.2 hx
    have key:X=[]∧LaO (rsO m cl (repO m cl v.L) ⟨i,(2*which c.ca m:Nat),1,v.K.getD (2*which c.ca m) 0,v.K.getD (2*which c.ca m) 0⟩) v1.K i l':=by
     refine ⟨?_,LaO.no (by rw[(Ar (by decide) (by decide)).1];exact hno)⟩;rw[if_neg hx] at ho;split at ho;cases ho;rfl
     .split at ho
      .rename_i h3 h4
       exfalso;rcases hw with ⟨w,_⟩|⟨t,w1,w2,w3,w4⟩|⟨e2,w1,_⟩
       rw[w] at h3;exact h3 st0
       .rw[w2,who1 (by omega)] at h4
        obtain rfl:t=i:=by omega
        rw[hl] at w4;exact absurd w4 (bld_not (by simp) (by simp) (λ_=>dA_0 _ _ _ _ _ _))
       rw[w1] at hx;exact hx (st2 _)
      cases ho;rfl
    obtain ⟨rfl,k2⟩:=key;exact ht.step hi e (by decide) (by decide) hL (same hK) (λq=>absurd q (by decide)) k2 (zsame _ 1 _ _ (by decide) (by decide) (.inl (by decide)) (same hK) hf)
  . -- it tries
   have hno:(repO m cl v.L).la i=false:=by
    cases q:(repO m cl v.L).la i with
    |false=>rfl
    |true=>rcases hlt q with ⟨k,_⟩|⟨k,_⟩<;>cases k
   have hX:X=[]:=by
    rw[turn3] at ho;split at ho
    .unfold Au at ho
     simp only at ho;split at ho<;>cases ho<;>rfl
    cases ho;rfl
   subst hX;have hd:∀ o,R1.stI (wdO v.K o)=2->R1.stI (wdO v1.K o)=2:=λo q=>by
    rw[turn3] at hK;by_cases hx:v.K.getD (2*which c.ca m) 0=0
    .rw[if_pos hx] at hK
     have hK:v1.K=v.K.set (2*which c.ca m) (R1.Ae 1 i 0):=hK;by_cases qo:o=which c.ca m
     .subst qo
      rw[show wdO v.K (which c.ca m)=0 from hx,st0] at q;cases q
     .rw[hK]
      unfold wdO;rw[getD_set hlw,if_neg (by omega)];exact q
    .rw[if_neg hx] at hK
     rw[show v1.K=v.K from hK.trans Aq];exact q
   exact ht.step hi e (by decide) (by decide) hL hd (λq=>absurd q (by decide)) (LaO.no (by rw[(Ar (by decide) (by decide)).1];exact hno)) (zsame _ 4 _ _ (by decide) (by decide) (.inl (by decide)) hd (λo hf=>by rw[hl] at hf;exact absurd hf (nof (by simp))))
  . -- it reads the value
   rw[turn2] at ho hK hL;have hK:v1.K=v.K:=hK.trans Aq;have ho:On (mcO m) i false rest ii ans (.ans (R1.codI (wdO v.K (which c.ca m))) (vlO v.K (which c.ca m))) X l':=ho;have h4:R1.codI (wdO v.K (which c.ca m))≠4:=by
    rcases hw with ⟨w,_⟩|⟨t,_,w,_⟩|⟨e2,w1,_,w3,w4,_⟩
    rw[w,st0] at hs2;cases hs2;rw[w,st1] at hs2;cases hs2;rw[w1,cod2 w3];exact w4
   cases ho with
   |ans hfw =>
    refine ht.ends (x:=(R1.codI (wdO v.K (which c.ca m)),vlO v.K (which c.ca m))) hi e (by decide) (by decide) hL (same hK) (λq=>absurd q (by decide)) hfw h4 hr hc hco (by rw[hK];exact hs2) (λq=>?_) (zsame _ 1 _ _ (by decide) (by decide) (.inl (by decide)) (same hK) (λo hf=>by rw[hl] at hf;exact absurd hf (nof (by simp))));rcases hlt q with ⟨k1,_⟩|⟨_,k2,k3⟩
    cases k1;exact ⟨by rw[(Ar (by decide) (by decide)).2.2,k2],by rw[wr_load];exact k3⟩
  . -- the act asks again
   have hno:(repO m cl v.L).la i=false:=by
    cases q:(repO m cl v.L).la i with
    |false=>rfl
    |true =>
     rcases hlt q with ⟨_,k,_⟩|⟨k,_⟩
     rw[dA_0] at k;cases k;cases k
   rw[turn1] at ho hK hL;have hK:v1.K=v.K:=hK.trans Aq;have ho:On (mcO m) i false rest ii ans (Az (which c.ca m) (c.po - 1) c.cb 1 i (wdO v.K (which c.ca m))) X l':=ho;unfold Az at ho;rw[hwi,if_neg (by rw[st1];decide),if_neg (by rw[st1];decide),if_pos (who1 (by omega))] at ho;have ho:On (mcO m) i false rest ii ans (.turn 2 (2*which c.ca m+1) (5,lO (which c.ca m) (c.po - 1) c.cb 0 i++[70,72])) X l':=ho;cases ho;exact ht.step hi e (by decide) (by decide) hL (same hK) (λq=>absurd q (by decide)) (LaO.no (by rw[(Ar (by decide) (by decide)).1];exact hno)) (zsame _ 1 _ _ (by decide) (by decide) (.inl (by decide)) (same hK) (λo hf=>by rw[hl] at hf;exact absurd hf (nof (by simp))))
  . -- the value is stored
   have hno:(repO m cl v.L).la i=false:=by
    cases q:(repO m cl v.L).la i with
    |false=>rfl
    |true=>rcases hlt q with ⟨k,_⟩|⟨k,_⟩<;>cases k
   rw[turn5] at ho hK hL;have hK:v1.K=v.K.set (2*which c.ca m+1) (actR c).2:=hK;have ho:On (mcO m) i false rest ii ans (.turn 2 (2*which c.ca m) (6,lO (which c.ca m) (c.po - 1) c.cb 0 i++[(actR c).1,(actR c).2])) X l':=ho;cases ho;have hd:∀ o,R1.stI (wdO v.K o)=2->R1.stI (wdO v1.K o)=2:=λo q=>by rw[hK];unfold wdO;rw[getD_set hlv,if_neg (by omega)];exact q
   have hst0:(repO m cl v.L).st (which c.ca m)=0:=by
    by_cases q:(repO m cl v.L).st (which c.ca m)=0;exact q
    .exfalso
     rcases ht.stz _ hom q with k|⟨t,k1,op',j',q',r',k',a',k2,k3,k4⟩
     rw[hwi,st1] at k;cases k
     .have hst:=h.seat t k1
      rw[k2] at hst;obtain ⟨_,_,c',_,_,hse'⟩:=hst;rcases hse' with ⟨_,_,rfl⟩|⟨_,_,rfl⟩|⟨_,_,rfl,_⟩|⟨_,_,rfl,_⟩|⟨_,_,rfl,_⟩|⟨_,_,rfl,hw',_⟩
      cases k4;cases k4;cases k4;cases k4;cases k4
      .rw[oA_l] at k3
       rw[k3,hwi] at hw';obtain rfl:=word1_inj (by omega) (by omega) hw';rw[hl] at k2;cases k2
   refine ht.step hi e (by decide) (by decide) hL hd (λ_=>⟨⟨_,rfl,by omega⟩,λo ho' hce=>?_⟩) (LaO.no (by rw[(Ar (by decide) (by decide)).1];exact hno)) (λo ho' hne=>?_)
   .obtain rfl:o=which c.ca m:=by omega
    exact hst0
   .by_cases q:o=which c.ca m
    .refine .inr ⟨i,hi,?_⟩
     rw[e.l,upd_same,q];exact ⟨_,_,_,_,_,_,rfl,oA_l _ _ _ _ _ _ _,rfl⟩
    .rw[A6 (by decide) (by decide)] at hne
     have hne:(if (2:Int)=2∧((2*which c.ca m+1:Nat):Int) % 2=1∧((2*which c.ca m+1:Nat):Int) / 2<m then upd (repO m cl v.L).st (((2*which c.ca m+1:Nat):Int) / 2).toNat ((repO m cl v.L).st (((2*which c.ca m+1:Nat):Int) / 2).toNat+1) else (repO m cl v.L).st) o≠0:=hne;rw[if_pos ⟨rfl,by omega,by omega⟩,upd_ne _ _ (by omega)] at hne;rcases ht.stz o ho' hne with k|⟨t,k1,k2⟩
     exact .inl (hd o k)
     .by_cases hti:t=i
      subst hti;rw[hl] at k2;exact absurd k2 (nof (by simp));exact .inr ⟨t,k1,by rw[e.l,upd_ne _ _ hti];exact k2⟩
  . -- the word is stored
   have hno:(repO m cl v.L).la i=false:=by
    cases q:(repO m cl v.L).la i with
    |false=>rfl
    |true=>rcases hlt q with ⟨k,_⟩|⟨k,_⟩<;>cases k
   rw[turn6] at ho hK hL;have hK:v1.K=v.K.set (2*which c.ca m) (R1.Ae 2 0 (actR c).1):=hK;have ho:On (mcO m) i false rest ii ans (.ans (actR c).1 (actR c).2) X l':=ho;obtain ⟨hcd,hc4⟩:=actR_code c;have hw1:wdO v1.K (which c.ca m)=R1.Ae 2 0 (actR c).1:=by rw[hK];unfold wdO;rw[getD_set hlw,if_pos rfl]
   have hd:∀ o,R1.stI (wdO v.K o)=2->R1.stI (wdO v1.K o)=2:=λo q=>by
    by_cases qo:o=which c.ca m;rw[qo,hw1];exact st2 _
    .rw[hK]
     unfold wdO;rw[getD_set hlw,if_neg (by omega)];exact q
   cases ho with
   |ans hfw =>refine ht.ends (x:=actR c) hi e (by decide) (by decide) hL hd (λ_=>⟨⟨_,rfl,by omega⟩,λo _ hce=>by omega⟩) hfw hc4 hr hc hco (by rw[hw1];exact st2 _) (λq=>by rw[hno] at q;cases q) (zsame _ 2 _ _ (by decide) (by decide) (.inr (by omega)) hd (λo hf=>?_));rw[hl] at hf;obtain ⟨op',j',q',r',k',a',e',k3,_⟩:=hf;cases e';rw[oA_l] at k3;rw[<-k3,hw1];exact st2 _
 |wake i j q rest ii ans X l' hi hl hs hch ho e hK hst hg hL =>
  have hse:=h.seat i hi;have hlt:=ht.late i hi;rw[hl] at hse hlt;obtain ⟨hal,hr,c,hc,hco,rfl,rfl,hs1⟩:=hse;rw[woke4] at ho;cases ho;refine ht.step hi e (by decide) (by decide) hL (λo q=>by rw[hK];exact q) (λq=>absurd q (by decide)) (LaO.no (by rw[(Ar (by decide) (by decide)).1];exact hlt)) (λo ho' hne=>?_);rw[st_same (by decide) (by decide) (.inl (by decide))] at hne;rcases ht.stz o ho' hne with k|⟨t,k1,k2⟩
  exact .inl (by rw[hK];exact k)
  .by_cases hti:t=i
   .subst hti
    rw[hl] at k2;obtain ⟨op',j',q',r',k',a',e',_⟩:=k2;cases e'
   exact .inr ⟨t,k1,by rw[e.l,upd_ne _ _ hti];exact k2⟩
 |free i j q rest ii ans X l' hi hl hs=>rw[h.stk] at hs;cases hs
end
section
variable {m:Nat}{cl:Nat->List Cl}
theorem hi_ot {k:Nat}{cs:List (List Cl)}{v':Vw}(N:Nat) (h:Hi (mcO m) k cs v v'):cs=(List.range' k cs.length).map cl->k+cs.length<=N->v.stk=false->(∀ o,wdO v.K o=0) ->
 (StsO N m cl ro0 v.L∧(∀ o,(repO m cl v.L).en o=false)∧(∀ o,(repO m cl v.L).st o=0)∧∀ t,t<k->LaO (repO m cl v.L) v.K t (v.l t)) ->
 StsO N m cl ro0 v'.L∧(∀ o,(repO m cl v'.L).en o=false)∧(∀ o,(repO m cl v'.L).st o=0)∧∀ t,t<k+cs.length->LaO (repO m cl v'.L) v'.K t (v'.l t):=by
 induction h with
 |nil=>exact λ_ _ _ _ hv=>hv
 |@cons k c cs v v1 v2 X l' hF e1 e2 e3 e4 e5 _ ih =>
  intro hc hN hsk hz hv;rw[List.length_cons,List.range'_succ,List.map_cons] at hc;rw[List.length_cons] at hN;obtain ⟨hc1,hc2⟩:=List.cons.inj hc;rw[hsk] at hF;obtain ⟨q1,q2,q3,q4,q5⟩:=fw_T (N:=N) (K:=v.K) (cl:=cl) (i:=k) (by omega) hF rfl (by rw[hc1];rfl) (repO m cl v.L) (λo ho=>by rw[hv.2.1 o] at ho;cases ho);have hrep:repO m cl v1.L=X.foldl (rsO m cl) (repO m cl v.L):=by rw[e4];unfold repO;rw[List.foldl_append]
  have:=ih hc2 (by omega) (e2.trans hsk) (by rw[e1];exact hz) ⟨by rw[e4];exact hv.1.app q1,by rw[hrep,q2];exact hv.2.1,by rw[hrep,q3];exact hv.2.2.1,λt ht=>?_⟩
  .rw[show k+(c :: cs).length=k+1+cs.length by simp only[List.length_cons];omega]
   exact this
  .rw[hrep,e5.l,e1]
   by_cases hne:t=k;subst hne;rw[upd_same];exact q5
   .rw[upd_ne _ _ hne]
    obtain ⟨k1,k2,k3⟩:=q4 t hne;exact (hv.2.2.2 t (by omega)).oth k1 k2 k3 (λo h=>h)
theorem turns_stop {mc:Mc}{n:Nat}{p p':PSt}(h:Turns mc n p p'):pturn mc p'=none:=by
 induction h with
 |stop hs=>exact hs
 |step _ _ ih=>exact ih
theorem stop_done {mc:Mc}(M:Met mc) {p:PSt}(hs:pturn mc p=none) (g:Gd M p) (s:Seen p v):∀ i,i<p.S.thr.length->∃ a,v.l i=.done a:=by
 intro i hi;obtain ⟨t,ht⟩:∃ t,p.S.thr[i]? = some t:=⟨_,Qf hi⟩
 obtain ⟨_,h2,_⟩:=g.sit i t ht;unfold pturn at hs;split at hs
 .rename_i h0
  split at hs;cases hs
  .rename_i hw
   rw[s.l]
   match hl:p.l i,h2 with
   |.done a,_=>exact ⟨a,rfl⟩
   |.turn _ _ _ _ _ _,h2 =>
    have h2:t.st=1:=h2;have:i∈rdyIds p.S p.S.thr.length:=by unfold rdyIds;rw[List.mem_filter];exact ⟨List.mem_range.2 (by omega),by rw[ht];simp[rdy,h2]⟩
    rw[h0] at this;cases this
   |.wait _ _ _ _ _,h2 =>have h2:t.st=2:=h2;exfalso;apply hw;unfold waits2;rw[List.any_eq_true];exact ⟨i,List.mem_range.2 (by omega),by rw[ht];simp[h2]⟩
 cases hs
theorem once_run {ss:List (Scr (mcO m))}{N:Nat}{S S1:TS}{l0 l1:Nat->Ph}{K:List (Nat×Int)}(h0:0<m)
 (hn:ss.length=N) (hn8:N<=8) (hss:ss.map (·.calls)=(List.range' 0 N).map cl) (ha:∀ x∈ss,x.ans=List.replicate x.calls.length (0,0))
 (ht:S.thr=[]) (htr:S.tr=[]) (hSn:S.n=0) (hsk:S.stk=false) (hchg:S.chg=List.replicate (2*m) 0) (hK:K.map (·.2)=List.replicate (2*m) 0) (hH:Hires (mcO m) 0 ss S l0 S1 l1)
 {n:Nat} {p':PSt} (hT:Turns (mcO m) n ⟨S1,K,l1⟩ p'):
 ∃ v,p'.S.tr=flat v.L∧p'.S.n=v.L.length∧p'.S.stk=false∧v.l=p'.l∧OV N m cl v∧OT N m cl v∧∀ i,i<N->∃ a,v.l i=.done a:=by
 let v0:Vw:=⟨List.replicate (2*m) 0,false,S.chg,λi=>(thrI S i).se,l0,[]⟩
 have hs0:Seen ⟨S,K,l0⟩ v0:=⟨hK.symm,hsk.symm,rfl,λi=>rfl,rfl,htr,hSn,λi t h=>by rw[ht] at h;cases h⟩
 obtain ⟨v1,hi1,hs1⟩:=hires_hi (K:=K) hH v0 (by rw[ht];rfl) ha hs0;rw[hss] at hi1;have z:∀ j,(List.replicate (2*m) (0:Int)).getD j 0=0:=λj=>by rw[Ql,List.getElem?_replicate];split<;>rfl
 have hc0:OV 0 m cl v0:=⟨by simp[v0],by show S.chg.length=_;rw[hchg,List.length_replicate],rfl,λi hi=>by omega,λo ho=>.inl ⟨z _,by show S.chg.getD _ 0=0;rw[hchg];exact z _⟩,λi hi=>by omega⟩
 have hci:=hi_on hi1 (by simp) hc0;rw[List.length_map,List.length_range',Nat.zero_add] at hci;have hti:=hi_ot (cl:=cl) N hi1 (by simp) (by simp) rfl (λo=>z _) ⟨trivial,λo=>rfl,λo=>rfl,λt ht=>by omega⟩;rw[List.length_map,List.length_range',Nat.zero_add] at hti;have hto:OT N m cl v1:=⟨hti.1,λo ho=>(by rw[hti.2.1 o] at ho;cases ho),λo _ hne=>absurd (hti.2.2.1 o) hne,hti.2.2.2⟩
 obtain ⟨a1,a2,a3,a4⟩:=hires_gd (metO m) hH (by rw[ht];rfl) (by omega) (λi t h=>by rw[ht] at h;cases h);have g:Gd (metO m) ⟨S1,K,l1⟩:=⟨by show S1.thr.length<=8;omega,a2⟩
 have key:=turns_gdI (metO m) (I:=λp=>p.S.thr.length=N∧∃ v,Seen p v∧OV N m cl v∧OT N m cl v) (λp p1 g h e=>by
  obtain ⟨hl,v,s,hv,hv2⟩:=h;obtain ⟨v',m1,s1⟩:=pturn_mv (metO m) g s e;rw[hl] at m1;exact ⟨(pturn_len e).trans hl,v',s1,oi_mv h0 (by omega) hv m1,ot_mv h0 (by omega) hv hv2 m1⟩) (λp h=>by
  obtain ⟨hl,v,s,hv,_⟩:=h;exact on_meets (by omega) hl s hv) hT g ⟨by show S1.thr.length=N;omega,v1,hs1,hci,hto⟩
 obtain ⟨g',⟨hl',v',s',hv',ht'⟩,_⟩:=key;have hd:=stop_done (metO m) (turns_stop hT) g' s';rw[hl'] at hd;exact ⟨v',s'.tr,s'.n,by rw[<-s'.stk];exact hv'.stk,s'.l,hv',ht',hd⟩
end
end Go.Proofs.YtfjjoohflcchnaaDoor.Gen
namespace Go.Proofs.YtfjjoohflcchnaaDoor.Gen
open Go Go.Lift Go.Conc Go.RowKit
variable {b n o ob q:Nat} {u v v' w:World} {ln:Nat->Nat} {l:List (Nat×Value)} {a ac:Act} {z:Nat->Option Nat} {Ch:Nat->Prop} {Stop:Goroutine->World->Prop} {main:Bool} {kd:Int} {bc:Frame} {ops:Array Oper} {rest:List Nat} {oc:Oper} {k0:List Item}
section
variable {P:Program}{Q:Exit->Act->World->Prop}{a:Act}{w:World}{x y c:Code}{R:Act->World->Prop}
theorem wp_then (h:x.wp P (λe a' w'=>e=.normal∧R a' w') a w) (k:∀ a' w',R a' w'->y.wp P Q a' w'):(Code.seq x y).wp P Q a w :=
 wp_seq (wp_mono h (λe a w h=>by obtain ⟨rfl,hr⟩:=h;exact k a w hr))
theorem wp_last (h:x.wp P (λe a' w'=>e=.normal∧R a' w') a w) (k:∀ a' w',R a' w'->Q .normal a' w'):x.wp P Q a w :=
 wp_mono h (λe a w h=>by obtain ⟨rfl,hr⟩:=h;exact k a w hr)
theorem wp_while {id:Nat}{hd body:Code}{t:Nat}(I:Nat->Act->World->Prop) (n:Nat) (h0:I n a w)
 (head:∀ n a w,I n a w->∃ (J:Act->World->Prop),hd.wp P (λe a' w'=>e=.normal∧J a' w') a w ∧
   ∀ a' w',J a' w'->(a'.eval (.tmp t)=.bool false∧Q .normal a' w')∨(a'.eval (.tmp t)=.bool true∧body.wp P (Exit.then (λa'' w''=>∃ n',n'<n∧I n' a'' w'') (Exit.inBlock id Q)) a' w')):
 (Code.block id (.loop (.seq (.seq hd (.cond (.tmp t) .skip (.exit id))) body))).wp P Q a w:=by
 refine wp_block (wp_loop_ghost I n h0 λn a w hI=>?_);obtain ⟨J,h1,h2⟩:=head n a w hI;refine wp_seq (wp_then h1 λa' w' hJ=>?_);rcases h2 a' w' hJ with ⟨e,hq⟩|⟨e,hb⟩
 .refine wp_cond_false e (wp_exit ?_)
  show if id=id then Q .normal a' w' else _
  rw[if_pos rfl];exact hq
 exact wp_cond_true e (wp_skip hb)
end
def padd (pk:Nat->Option Obj) (b:Nat) (o:Obj):Nat->Option Obj:=λx=>if x=b then some o else pk x
theorem padd_at (pk:Nat->Option Obj) (b:Nat) (o:Obj):padd pk b o b=some o:=by unfold padd;rw[if_pos rfl]
theorem padd_ne {pk:Nat->Option Obj}{x:Nat}{o:Obj}(h:x≠b):padd pk b o x=pk x:=by unfold padd;rw[if_neg h]
theorem cell_of {j:Nat}{c:Array Value}{t:TypeId}{f:Nat×Nat}{x:Value}(h:v.heap[b]? = some (.cells c t f)) (hj:c[j]? = some x):v.cell? ⟨b,j,none⟩=some x:=by unfold World.cell?;rw[h];exact hj
section
variable {v u u':World}{S S1:TS}{K:List (Nat×Int)}{xs:List Int}{pk:Nat->Option Obj}
theorem Objs.start (hm:Mem zn S [] v) (hch:S.chg=[]):Objs v S [] (λ_=>none) S [] v :=
 ⟨Cel.refl hm,rfl,⟨S.cv,by unfold cellsS;rw[List.length_nil,List.replicate_zero,<-hch]⟩,λb o h=>(by cases h),λb h=>absurd rfl h,λb o h=>(by cases h)⟩
theorem Objs.startG (hm:Mem zn S [] v) (hch:S.chg=[]) (hpk:Has pk v) (hf:∀ b,pk b≠none->¬ Own S [] b∧b≠S.bk) (hr:∀ b o,pk b=some o->∃ c e f,o=.cells c e f):Objs v S [] pk S [] v :=
 ⟨Cel.refl hm,rfl,⟨S.cv,by unfold cellsS;rw[List.length_nil,List.replicate_zero,<-hch]⟩,hpk,λb h=>⟨.inr (hf b h).2,(hf b h).1⟩,hr⟩
theorem Objs.push (h:Objs v S xs pk S1 K u) {c:Array Value}{t:TypeId}(e:u'.heap=u.heap.push (.cells c t)) (e1:u'.os=u.os) (e2:u'.output=u.output):Objs v S xs (padd pk u.heap.size (.cells c t)) S1 K u':=by
 refine ⟨h.cel.push e e1 e2,h.vals,h.st,λb o hb=>?_,λb hb=>?_,λb o hb=>?_⟩
 .by_cases hbu:b=u.heap.size
  .subst hbu
   rw[padd_at] at hb;cases hb;rw[e];exact Qo
  .rw[padd_ne hbu] at hb
   have:=h.has b o hb;have hl:=(Qb this).1;rw[e,Qg,if_neg (by omega)];exact this
 .by_cases hbu:b=u.heap.size
  .subst hbu
   exact ⟨.inl h.cel.fr.size,λho=>by have:=h.cel.mem.lt ho;omega⟩
  .rw[padd_ne hbu] at hb
   exact h.new b hb
 .by_cases hbu:b=u.heap.size
  .subst hbu
   rw[padd_at] at hb;cases hb;exact ⟨_,_,_,rfl⟩
  .rw[padd_ne hbu] at hb
   exact h.row b o hb
theorem Objs.more (h:Objs v S xs pk S1 K u) {S2:TS}{K2:List (Nat×Int)}{ys:List Int}(c:Cel zn S1 K u S2 K2 u') (hv:K2.map (·.2)=ys) (hs:∃ cv,S2=cellsS S cv ys.length):Objs v S ys pk S2 K2 u':=by
 have hl:∀ b o,pk b=some o->b<u.heap.size:=λb o hb=>(Qb (h.has b o hb)).1;refine ⟨h.cel.trans c,hv,hs,λb o hb=>?_,λb hb=>?_,h.row⟩
 .rw[c.fr.block b (hl b o hb) (h.new b (by rw[hb];simp)).2]
  exact h.has b o hb
 .obtain ⟨o,ho⟩:=Option.ne_none_iff_exists'.1 hb
  refine ⟨(h.new b hb).1,λho'=>?_⟩;rcases c.own b ho' with e|e;exact (h.new b hb).2 e;have:=hl b o ho;omega
theorem Objs.cell (h:Objs v S xs pk S1 K u) (x:Int) (hl:xs.length<=1000000):Calls Tryd.prog 70 #[Pt S.wb 0,I x] u (λe w'=>∃ cb,e=.returned (Pt cb 0)∧u.heap.size<=w'.heap.size∧∃ S2,Objs v S (xs++[x]) pk S2 (K++[(cb,x)]) w'):=by obtain ⟨cv,rfl⟩:=h.st;have h10:=(body10 h.cel.mem x (by show (List.replicate xs.length (0:Int)).length<=_;simp;omega)).calls Tryd.func70 rfl;refine h10.mono ?_;rintro e w' ⟨r,rfl,cb,cv',rfl,hm1,hf1,hn1⟩;refine ⟨cb,rfl,hf1.size,_,h.more ⟨hm1,hf1,hn1⟩ (by rw[List.map_append,h.vals];rfl) ⟨cv',?_⟩⟩;unfold celledS cellsS;simp only[Qj,List.length_cons,List.length_nil,Nat.zero_add,List.replicate_succ']
end
def TrL (g:Nat) (L:List Stp) (v:World):Prop:=∀ (k:Nat) (s:Stp),L[k]? = some s->v.cell? ⟨g,k*5,none⟩=some (I s.th)∧v.cell? ⟨g,k*5+1,none⟩=some (I s.ce)∧v.cell? ⟨g,k*5+2,none⟩=some (I s.op)∧v.cell? ⟨g,k*5+3,none⟩=some (I s.ol)∧v.cell? ⟨g,k*5+4,none⟩=some (I s.ne)
theorem grow_cell (g:Grows v v') {a:Addr}{x:Value}(h:v.cell? a=some x):v'.cell? a=some x:=by rw[World.cell?_of_block (w:=v) (w':=v') (g.old _ (World.block_lt_of_cell? _ _ h))];exact h
structure RK (n M b o:Nat) (A ln cp rb ro:Nat->Nat) (pc:Nat->Option Addr) (cl:Nat->List Cl) (l:Nat->Ph) (v:World):Prop where
 ar:∀ k,k<n->v.cell? ⟨M,k,none⟩=some (.slice (some ⟨A k,0,none⟩) (ln k) (ln k))
 an:∀ k,k<n->∀ (j:Nat) (q:Int×Int),(l k).ans[j]? = some q->v.cell? ⟨A k,j*2,none⟩=some (I q.1)∧v.cell? ⟨A k,j*2+1,none⟩=some (I q.2)
 sr:∀ k,k<n->v.cell? ⟨b,o+k,none⟩=some (.slice (pc k) (ln k) (cp k))
 pq:∀ k,k<n->0<ln k->pc k=some ⟨rb k,ro k,none⟩
 sa:∀ k,k<n->∀ (j:Nat) (c:Cl),(cl k)[j]? = some c->v.cell? ⟨rb k,ro k+j*4,none⟩=some (I c.po)∧v.cell? ⟨rb k,ro k+j*4+1,none⟩=some (I c.ca)
theorem RK.go {M:Nat}{A cp rb ro:Nat->Nat}{pc:Nat->Option Addr}{cl:Nat->List Cl}{l:Nat->Ph}(h:RK n M b o A ln cp rb ro pc cl l v) (g:∀ q,q<v.heap.size->v'.heap[q]? = v.heap[q]?):RK n M b o A ln cp rb ro pc cl l v':=by
 have hc:∀ (a:Addr) (x:Value),v.cell? a=some x->v'.cell? a=some x:=λa x ha=>by rw[World.cell?_of_block (w:=v) (w':=v') (g _ (World.block_lt_of_cell? _ _ ha))];exact ha
 exact ⟨λk hk=>hc _ _ (h.ar k hk),λk hk j q hq=>⟨hc _ _ (h.an k hk j q hq).1,hc _ _ (h.an k hk j q hq).2⟩,λk hk=>hc _ _ (h.sr k hk),h.pq,λk hk j c hj=>⟨hc _ _ (h.sa k hk j c hj).1,hc _ _ (h.sa k hk j c hj).2⟩⟩
theorem TrL.go {g:Nat}{L:List Stp}(h:TrL g L v) (q:∀ b,b<v.heap.size->v'.heap[b]? = v.heap[b]?):TrL g L v':=λk s hs=>by
 have hc:∀ (a:Addr) (x:Value),v.cell? a=some x->v'.cell? a=some x:=λa x ha=>by rw[World.cell?_of_block (w:=v) (w':=v') (q _ (World.block_lt_of_cell? _ _ ha))];exact ha
 obtain ⟨h1,h2,h3,h4,h5⟩:=h k s hs;exact ⟨hc _ _ h1,hc _ _ h2,hc _ _ h3,hc _ _ h4,hc _ _ h5⟩
theorem Fl.hd {k:Nat}{c:Bool}(h:Fl n ((k,.bool c) :: l) a) (hc:c=true):a.eval (.tmp k)=.bool true:=by subst hc;exact h.2.2 (k,.bool true) (.head _)
theorem Fl.hf {k:Nat}{c:Bool}(h:Fl n ((k,.bool c) :: l) a) (hc:c=false):a.eval (.tmp k)=.bool false:=by subst hc;exact h.2.2 (k,.bool false) (.head _)
theorem Fl.tl {x:Nat×Value}(h:Fl n (x :: l) a):Fl n l a:=⟨h.1,h.2.1,λp hp=>h.2.2 p (.tail _ hp)⟩
def Nrm (F:Act->World->Prop):Exit->Act->World->Prop
 |.normal,a,w=>F a w
 |_,_,_=>False
theorem wp_nrm {P:Program}{c:Code}{F:Act->World->Prop}(h:c.wp P (Nrm F) a w):c.wp P (λe a' w'=>e=.normal∧F a' w') a w:=wp_mono h λe a w hq=>by
 cases e
 case normal=>exact ⟨rfl,hq⟩
 all_goals exact hq.elim
structure Kq (B:Nat) (w w':World):Prop where
 os:w'.os=w.os
 out:w'.output=w.output
 size:w.heap.size<=w'.heap.size
 old:∀ k,k<B->w'.heap[k]? = w.heap[k]?
section
variable {B:Nat}{u v w:World}
theorem Kq.refl (B:Nat) (w:World):Kq B w w:=⟨rfl,rfl,Qi _,λ_ _=>rfl⟩
theorem Kq.trans (h:Kq B u v) (k:Kq B v w):Kq B u w:=⟨k.os.trans h.os,k.out.trans h.out,Qk h.size k.size,λi hi=>(k.old i hi).trans (h.old i hi)⟩
theorem Kq.same (e1:w.heap=v.heap) (e2:w.os=v.os) (e3:w.output=v.output):Kq B v w:=⟨e2,e3,by rw[e1];exact Qi _,λi _=>by rw[e1]⟩
theorem Kq.alloc (o:Obj) (h:B<=v.heap.size):Kq B v (v.alloc o):=⟨rfl,rfl,by show _<=(v.heap.push o).size;simp,λi hi=>by show (v.heap.push o)[i]? = _;rw[Qg,if_neg (by omega)]⟩
theorem Kq.set (x:Value) (h:B<=b):Kq B v (v.setCell ⟨b,o,none⟩ x):=⟨rfl,rfl,by simp[World.setCell],λi hi=>Below.heap_setCell _ _ _ _ (by show i≠b;omega)⟩
theorem Kq.cell (k:Kq B u v) {a:Addr}{x:Value}(h:u.cell? a=some x) (hb:a.block<B):v.cell? a=some x:=by rw[World.cell?_of_block (w:=u) (w':=v) (k.old _ hb)];exact h
theorem Kq.grows (k:Kq B u v) (h:u.heap.size<=B):Grows u v:=⟨k.size,λb hb=>k.old b (by omega),k.os,k.out⟩
theorem Kq.le {B':Nat}(k:Kq B u v) (h:B'<=B):Kq B' u v:=⟨k.os,k.out,k.size,λi hi=>k.old i (by omega)⟩
end
structure SL (N b o:Nat) (ln cp rb ro:Nat->Nat) (pc:Nat->Option Addr) (cl:Nat->List Cl) (v:World):Prop where
 len:∀ k,k<N->(cl k).length=ln k
 sr:∀ k,k<N->v.cell? ⟨b,o+k,none⟩=some (.slice (pc k) (ln k) (cp k))
 pq:∀ k,k<N->0<ln k->pc k=some ⟨rb k,ro k,none⟩
 sa:∀ k,k<N->∀ (j:Nat) (c:Cl),(cl k)[j]? = some c->v.cell? ⟨rb k,ro k+j*4,none⟩=some (I c.po)∧v.cell? ⟨rb k,ro k+j*4+1,none⟩=some (I c.ca)∧v.cell? ⟨rb k,ro k+j*4+2,none⟩=some (I c.cb)∧v.cell? ⟨rb k,ro k+j*4+3,none⟩=some (I c.cc)
structure AL (N M:Nat) (A ln:Nat->Nat) (l:Nat->Ph) (v:World):Prop where
 ar:∀ k,k<N->v.cell? ⟨M,k,none⟩=some (.slice (some ⟨A k,0,none⟩) (ln k) (ln k))
 al:∀ k,k<N->(l k).ans.length=ln k
 an:∀ k,k<N->∀ (j:Nat) (q:Int×Int),(l k).ans[j]? = some q->v.cell? ⟨A k,j*2,none⟩=some (I q.1)∧v.cell? ⟨A k,j*2+1,none⟩=some (I q.2)
theorem kq_all (k:Kq v.heap.size v u) (a:Addr) (x:Value) (h:v.cell? a=some x):u.cell? a=some x:=k.cell h (World.block_lt_of_cell? _ _ h)
theorem SL.go {N:Nat}{cp rb ro:Nat->Nat}{pc:Nat->Option Addr}{cl:Nat->List Cl}(h:SL N b o ln cp rb ro pc cl v) (k:Kq v.heap.size v u):SL N b o ln cp rb ro pc cl u:=by have hc:=kq_all k;exact ⟨h.len,λi hi=>hc _ _ (h.sr i hi),h.pq,λi hi j c hj=>⟨hc _ _ (h.sa i hi j c hj).1,hc _ _ (h.sa i hi j c hj).2.1,hc _ _ (h.sa i hi j c hj).2.2.1,hc _ _ (h.sa i hi j c hj).2.2.2⟩⟩
theorem AL.go {N M:Nat}{A:Nat->Nat}{l:Nat->Ph}(h:AL N M A ln l v) (k:Kq v.heap.size v u):AL N M A ln l u:=by have hc:=kq_all k;exact ⟨λi hi=>hc _ _ (h.ar i hi),h.al,λi hi j q hj=>⟨hc _ _ (h.an i hi j q hj).1,hc _ _ (h.an i hi j q hj).2⟩⟩
theorem body10s {S:TS}(h:Rep z S v):Body Tryd.f19 #[Pt S.wb 0] v (λr v'=>r=.bool S.stk∧v'=v):=by intro code hb;obtain rfl:=Qd hb;clear hb;have c6:=h.wcell.2.2.2.2.2.2.1;clear h;simp only[Tryd.ntmps19,Sz,Nat.reduceAdd,Nat.reduceSub,Sy];go_wp2_with fail;go_ret;exact ⟨_,rfl,rfl,rfl⟩
theorem info4b:(Tryd.prog.info? 4).map (λi=>(i.zero,i.size,i.bytes))=some (some (.bool false),1,1):=by kernel_rfl
theorem info3b:(Tryd.prog.info? 3).map (λi=>(i.zero,i.size,i.bytes))=some (some (I 0),1,8):=by kernel_rfl
theorem make_4 (n:Nat) (hn:n<=1048576) (w:World):
 (Instr.makeSlice 32 (.int .i64 (n:Int)) (.int .i64 (n:Int))).run Tryd.prog w=.ok (.slice (some ⟨w.heap.size,0,none⟩) n n) (w.alloc (.cells (madeCells #[.bool false] n) 4)):=by
 cases hq:Tryd.prog.info? 4 with
 |none=>have:=info4b;rw[hq] at this;cases this
 |some i =>have hi:=info4b;rw[hq] at hi;simp only[Option.map_some,Option.some.injEq,Prod.mk.injEq] at hi;obtain ⟨hz,hs,hb⟩:=hi;have:=run_make (P:=Tryd.prog) w 32 4 i _ Tryd.underlying32 hq hz .i64 .i64 (n:Int) (n:Int) (by omega) (by omega) (by rw[hb];omega) (by omega);rw[hs] at this;rw[this];simp[Value.cells]
theorem make_3 (n:Nat) (hn:n<=1048576) (w:World):
 (Instr.makeSlice 22 (.int .i64 (n:Int)) (.int .i64 (n:Int))).run Tryd.prog w=.ok (.slice (some ⟨w.heap.size,0,none⟩) n n) (w.alloc (.cells (madeCells #[I 0] n) 3)):=by
 cases hq:Tryd.prog.info? 3 with
 |none=>have:=info3b;rw[hq] at this;cases this
 |some i =>have hi:=info3b;rw[hq] at hi;simp only[Option.map_some,Option.some.injEq,Prod.mk.injEq] at hi;obtain ⟨hz,hs,hb⟩:=hi;have:=run_make (P:=Tryd.prog) w 22 3 i _ Tryd.underlying22 hq hz .i64 .i64 (n:Int) (n:Int) (by omega) (by omega) (by rw[hb];omega) (by omega);rw[hs] at this;rw[this];simp[Value.cells]
theorem info38b:(Tryd.prog.info? 38).map (λi=>(i.zero,i.size,i.bytes))=some (some (.agg #[I 0,I 0]),2,16):=by kernel_rfl
theorem make_38 (n:Nat) (hn:n<=1048576) (w:World):
 (Instr.makeSlice 31 (.int .i64 (n:Int)) (.int .i64 (n:Int))).run Tryd.prog w=.ok (.slice (some ⟨w.heap.size,0,none⟩) n n) (w.alloc (.cells (madeCells #[I 0,I 0] (n*2)) 38)):=by
 cases hq:Tryd.prog.info? 38 with
 |none=>have:=info38b;rw[hq] at this;cases this
 |some i =>have hi:=info38b;rw[hq] at hi;simp only[Option.map_some,Option.some.injEq,Prod.mk.injEq] at hi;obtain ⟨hz,hs,hb⟩:=hi;have:=run_make (P:=Tryd.prog) w 31 38 i _ Tryd.underlying31 hq hz .i64 .i64 (n:Int) (n:Int) (by omega) (by omega) (by rw[hb];omega) (by omega);rw[hs] at this;rw[this];simp[Value.cells]
structure Fm (tb cb:Nat) (x:Int) (v:World):Prop where
 thr:v.cell? ⟨tb,0,none⟩=some (.pointer none)
 ne:tb≠cb
 cel:v.heap[cb]? = some (.cells #[I 0,I x] 158 (0,0))
structure Fto (tb cb:Nat) (x:Int) (v v':World):Prop where
 fm:Fm tb cb x v'
 old:∀ b,b≠cb->v'.heap[b]? = v.heap[b]?
 size:v'.heap.size=v.heap.size
 os:v'.os=v.os
 out:v'.output=v.output
section
variable {tb cb:Nat}{x y:Int}{v v' v'':World}
theorem Fm.cells (h:Fm tb cb x v):v.cell? ⟨tb,0,none⟩=some (.pointer none)∧v.cell? ⟨cb,0,none⟩=some (I 0)∧v.cell? ⟨cb,1,none⟩=some (I x)∧v.frozen? ⟨cb,1,none⟩=false:=by refine ⟨h.thr,?_,?_,?_⟩;unfold World.cell?;rw[show v.heap[cb]? = _ from h.cel];rfl;unfold World.cell?;rw[show v.heap[cb]? = _ from h.cel];rfl;unfold World.frozen?;rw[show v.heap[cb]? = _ from h.cel];rfl
theorem Fm.same (h:Fm tb cb x v) (e:v'.heap=v.heap):Fm tb cb x v':=⟨by rw[World.cell?_of_block (w:=v) (by rw[e])];exact h.thr,h.ne,by rw[e];exact h.cel⟩
theorem Fto.refl (h:Fm tb cb x v):Fto tb cb x v v:=⟨h,λ_ _=>rfl,rfl,rfl,rfl⟩
theorem Fto.same (h:Fto tb cb x v v') (e1:v''.heap=v'.heap) (e2:v''.os=v'.os) (e3:v''.output=v'.output):Fto tb cb x v v'' :=
 ⟨h.fm.same e1,λb hb=>by rw[e1];exact h.old b hb,by rw[e1];exact h.size,e2.trans h.os,e3.trans h.out⟩
theorem Fto.set (h:Fm tb cb x v) (y:Int):Fto tb cb y v (v.setCell ⟨cb,1,none⟩ (I y)) :=
 ⟨⟨by rw[World.cell?_of_block (Below.heap_setCell _ _ _ _ h.ne)];exact h.thr,h.ne,heap_setCell_same h.cel _⟩,λb hb=>Below.heap_setCell _ _ _ _ hb,by simp[World.setCell],rfl,rfl⟩
theorem Fto.base (h:Fto tb cb x v v') (e1:v.heap=v''.heap) (e2:v.os=v''.os) (e3:v.output=v''.output):Fto tb cb x v'' v' :=
 ⟨h.fm,λb hb=>by rw[<-e1];exact h.old b hb,by rw[<-e1];exact h.size,h.os.trans e2,h.out.trans e3⟩
end
section
variable {tb c c':Nat}{x y:Int}{v v' v'':World}
theorem Fto.stay (h:Fto tb c x v v') (m:Fm tb c x v):v'.heap=v.heap:=by apply Array.ext_getElem?;intro b;by_cases e:b=c;rw[e,h.fm.cel,m.cel];exact h.old b e
theorem Fto.other (h:Fto tb c x v v') (m:Fm tb c' y v) (hne:c'≠c):Fm tb c' y v':=⟨h.fm.thr,m.ne,by rw[h.old c' hne];exact m.cel⟩
theorem Fto.cell (h:Fto tb c x v v') {j:Nat}{u:Value}(hb:b≠c) (hc:v.cell? ⟨b,j,none⟩=some u):v'.cell? ⟨b,j,none⟩=some u:=by rw[World.cell?_of_block (w:=v) (w':=v') (h.old b hb)];exact hc
theorem Fto.then (h:Fto tb c x v v') (k:Fto tb c' y v' v'') (m:Fm tb c' y v'):Fto tb c x v v'':=h.same (k.stay m) k.os k.out
end
def tB:Code:=Tryd.f66.body.getD .skip
theorem fine_t0:fineCode Tryd.prog true LT (seq1 tB):=fineCode_ask callT extT (by kernel_rfl)
theorem eTB:tB=.seq (seq1 tB) (seq2 tB):=by kernel_rfl
theorem come0 {tb:Nat}{b:Int}(hkd:kd=0) (cs:List Frame) (hoc:ops[q]? = some oc) (hvw:Rel z v w) (hn:NoRow Ch v)
 (hk:∀ v' w',Rel z v' w'->NoRow Ch v'->Grows v v'->GoesI Tryd.prog main (DT (ScZ z) Ch) Stop (G (bc.at (ac.put oc.dst (.agg #[I (0),I (b)])) (.inRegion ops rest :: k0)) cs) w') (code:Code) (hc:Tryd.f66.body=some code):
 GoesI Tryd.prog main (DT (ScZ z) Ch) Stop (G ((base 66).at { tmps:=#[Pt ob 0,Pt tb 0,.agg #[I kd,I b]]++Array.replicate 31 undef,defers:=[] } [.code code]) (bc.at ac (.inRegion ops (q :: rest) :: k0) :: cs)) w:=by
 have hw0:code=.seq (seq1 tB) (seq2 tB):=by rw[show code=tB by unfold tB;rw[hc];rfl];exact eTB
 subst hw0;clear hc;refine goesI_seq (dt_idle _ _) ?_;refine goesI_plain (z:=z) (wr:=true) (L:=LT) (I:=NoRow Ch) hE fineT noRow_keeps (λv v' w w' es hi hr ho he=>dt_of_z v v' w w' es hi hr ho he) hvw fine_t0 rfl (by simp[base]) hn
  (Q:=λa w'=>a={ tmps:=#[Pt ob 0,Pt tb 0,.agg #[I kd,I b],undef,undef,Pt v.heap.size 0,Pt (v.heap.size+1) 0]++Array.replicate 27 undef,defers:=[] }∧w'.heap=((v.heap.push (.cells #[I kd,I b] 52)).push (.cells #[I 0,I 0] 38))∧w'.os=v.os∧w'.output=v.output) (λτ=>?_) ?_
 .unfold tB Tryd.f66 seq1
  simp only[Qa,Sy];go_wp2_with fail;exact ⟨rfl,rfl,rfl,rfl⟩
 rintro a' v' w' ⟨rfl,hv1,hv2,hv3⟩ hr' hn' -;have hsz:v'.heap.size=v.heap.size+2:=by rw[hv1];simp
 have hg:Grows v v':=⟨by omega,λb hb=>by rw[hv1,Qg,if_neg (by simp;omega),Qg,if_neg (by omega)],hv2,hv3⟩
 have hb0:v'.heap[v.heap.size]? = some (.cells #[I kd,I b] 52 (0,0)):=by rw[hv1,Qg,if_neg (by simp<;>omega),Qg,if_pos (by simp)]
 have hb1:v'.heap[v.heap.size+1]? = some (.cells #[I 0,I 0] 38 (0,0)):=by rw[hv1,Qg,if_pos (by simp)]
 have d0:w'.cell? ⟨v.heap.size,0,none⟩=some (I kd):=by rw[hr'.cell?];simp[World.cell?,hb0]
 have d1:w'.cell? ⟨v.heap.size,1,none⟩=some (I b):=by rw[hr'.cell?];simp[World.cell?,hb0]
 clear hv1 hv2 hv3 hvw hn;subst hkd;have hgr:∀ e x,Grows v (ansW v' (v.heap.size+1) e x):=λe x=>⟨by rw[Bg];omega,λb hb=>by rw[Bf _ _ _ _ _ (by omega)];exact hg.old b hb,hg.os,hg.output⟩
 have hk:=λe x w' r' n'=>hk (ansW v' (v.heap.size+1) e x) w' r' n' (hgr e x);clear hgr hg hsz hb0;have hpb:=hb1;clear hb1;generalize v.heap.size=N at hpb d0 d1 hk ⊢;unfold tB Tryd.f66 seq2;simp only[Qa,Sy];refine goesI_seq (dt_idle _ _) ?_;refine goesI_region (dt_idle _ _) ?_;simp only[Sz,Sr,Nat.reduceAdd];iterate 1
  (refine goesI_oper rfl rfl (by decide) (λd K hK=>?_)
   go_simp;refine hK _ _ ⟨dt_reads (λe he=>?_),GoesI.at ?_ d⟩
   .have hm:=mem_listed he
    simp[go_sem, *] at hm
    try exact ⟨_,_,hm⟩
    try (rcases hm with rfl|rfl<;>exact ⟨_,_,rfl⟩)
   clear hK K)
 refine goesI_deferV (d:=dclo 100 #[Pt N 0,Pt (N+1) 0]) (dt_idle _ _) rfl rfl (by decide) (λw=>?_) (λw=>?_) ?_
 .simp[execOp,resolve,Deferred.ofValue,Act.eval,dclo,go_sem]
 .simp[go_sem,execOp,resolve,Deferred.ofValue,Act.eval]
 refine goesI_regionEnd (dt_idle _ _) ?_;refine goesI_seq (dt_idle _ _) ?_;refine goesI_seq (dt_idle _ _) ?_;refine goesI_region (dt_idle _ _) ?_;simp only[Sz,Sr,Nat.reduceAdd];iterate 2
  (refine goesI_oper rfl rfl (by decide) (λd K hK=>?_)
   go_simp;refine hK _ _ ⟨dt_reads (λe he=>?_),GoesI.at ?_ d⟩
   .have hm:=mem_listed he
    simp[go_sem, *] at hm
    try exact ⟨_,_,hm⟩
    try (rcases hm with rfl|rfl<;>exact ⟨_,_,rfl⟩)
   clear hK K)
 refine goesI_regionEnd (dt_idle _ _) ?_;refine goesI_block (dt_idle _ _) ?_;refine goesI_seq (dt_idle _ _) ?_;refine goesI_region (dt_idle _ _) ?_;simp only[Sz,Sr,Nat.reduceAdd];iterate 2
  (refine goesI_oper rfl rfl (by decide) (λd K hK=>?_)
   go_simp;refine hK _ _ ⟨dt_reads (λe he=>?_),GoesI.at ?_ d⟩
   .have hm:=mem_listed he
    simp[go_sem, *] at hm
    try exact ⟨_,_,hm⟩
    try (rcases hm with rfl|rfl<;>exact ⟨_,_,rfl⟩)
   clear hK K)
 refine goesI_regionEnd (dt_idle _ _) ?_;refine goesI_cond (dt_idle _ _) (t:=true) (by simp[Act.eval]) ?_;simp only[if_true,if_false,Qh];refine goesI_seq (dt_idle _ _) ?_;refine goesI_region (dt_idle _ _) ?_;simp only[Sz,Sr,Nat.reduceAdd];iterate 3
  (refine goesI_oper rfl rfl (by decide) (λd K hK=>?_)
   go_simp;refine hK _ _ ⟨dt_reads (λe he=>?_),GoesI.at ?_ d⟩
   .have hm:=mem_listed he
    simp[go_sem, *] at hm
    try exact ⟨_,_,hm⟩
    try (rcases hm with rfl|rfl<;>exact ⟨_,_,rfl⟩)
   clear hK K)
 have q0:v'.cell? ⟨N+1,0,none⟩=some (I 0):=by simp[World.cell?,hpb]
 have q1:v'.cell? ⟨N+1,1,none⟩=some (I 0):=by simp[World.cell?,hpb]
 have p0:v'.frozen? ⟨N+1,0,none⟩=false:=by simp[World.frozen?,hpb]
 have p1:v'.frozen? ⟨N+1,1,none⟩=false:=by simp[World.frozen?,hpb]
 have hrow:=Ap hpb (0) (b);refine goesI_doZ (L:=LT) rfl rfl (by decide) (fineOp_ask callT extT (by kernel_rfl)) hr' hn' (v':=ansW v' (N+1) (0) (b)) (by unfold ansW;go_simp) rfl (λw9 r9 n9=>?_);refine goesI_regionEnd (dt_idle _ _) ?_;refine GoesI.ctl rfl (λ_=>stepG_ret') (dt_idle _ _) ?_;refine goesI_unwind_clo (dt_idle _ _) rfl Tryd.func100 (by kernel_rfl) rfl ?_;simp only[Tryd.ntmps100,Sz,Nat.reduceAdd,Nat.reduceSub,Sy];refine goesI_seq (dt_idle _ _) ?_;refine goesI_region (dt_idle _ _) ?_;simp only[Sz,Sr,Nat.reduceAdd];refine goesI_recover_none (dt_idle _ _) rfl rfl rfl rfl (λw=>by go_simp) (λw=>by simp[go_sem,execOp,resolve,invoke,builtin]) ?_
 (refine goesI_oper rfl rfl (by decide) (λd K hK=>?_)
  go_simp;refine hK _ _ ⟨dt_reads (λe he=>?_),GoesI.at ?_ d⟩
  .have hm:=mem_listed he
   simp[go_sem,ev_nil, *] at hm
  clear hK K)
 refine goesI_regionEnd (dt_idle _ _) ?_;refine goesI_cond (dt_idle _ _) (t:=false) rfl ?_;simp only[if_true,if_false,Qh];refine goesI_skip (dt_idle _ _) ?_;refine goesI_end (dt_idle _ _) ?_;refine GoesI.ctl rfl (λw=>stepG_backR Tryd.func100 rfl rfl) (dt_idle _ _) ?_;refine goesI_leaveZ (f:=66) (fn:=Tryd.f66) (x:=.agg #[I (0),I (b)]) r9 n9 Tryd.func66 rfl hoc ?_ (λw' r'=>hk (0) (b) w' r' n9);generalize ansW v' (N+1) (0) (b)=V at hrow;have k0:V.cell? ⟨N+1,0,none⟩=some (I (0)):=by simp[World.cell?,hrow]
 have k1:V.cell? ⟨N+1,1,none⟩=some (I (b)):=by simp[World.cell?,hrow]
 simp[results,go_sem,Tryd.f66, *]
theorem come1 {tb:Nat}{b:Int}(hkd:kd=1) (cs:List Frame) (hoc:ops[q]? = some oc) (hvw:Rel z v w) (hn:NoRow Ch v)
 (hk:∀ v' w',Rel z v' w'->NoRow Ch v'->Grows v v'->GoesI Tryd.prog main (DT (ScZ z) Ch) Stop (G (bc.at (ac.put oc.dst (.agg #[I (70),I (b)])) (.inRegion ops rest :: k0)) cs) w') (code:Code) (hc:Tryd.f66.body=some code):
 GoesI Tryd.prog main (DT (ScZ z) Ch) Stop (G ((base 66).at { tmps:=#[Pt ob 0,Pt tb 0,.agg #[I kd,I b]]++Array.replicate 31 undef,defers:=[] } [.code code]) (bc.at ac (.inRegion ops (q :: rest) :: k0) :: cs)) w:=by
 have hw0:code=.seq (seq1 tB) (seq2 tB):=by rw[show code=tB by unfold tB;rw[hc];rfl];exact eTB
 subst hw0;clear hc;refine goesI_seq (dt_idle _ _) ?_;refine goesI_plain (z:=z) (wr:=true) (L:=LT) (I:=NoRow Ch) hE fineT noRow_keeps (λv v' w w' es hi hr ho he=>dt_of_z v v' w w' es hi hr ho he) hvw fine_t0 rfl (by simp[base]) hn
  (Q:=λa w'=>a={ tmps:=#[Pt ob 0,Pt tb 0,.agg #[I kd,I b],undef,undef,Pt v.heap.size 0,Pt (v.heap.size+1) 0]++Array.replicate 27 undef,defers:=[] }∧w'.heap=((v.heap.push (.cells #[I kd,I b] 52)).push (.cells #[I 0,I 0] 38))∧w'.os=v.os∧w'.output=v.output) (λτ=>?_) ?_
 .unfold tB Tryd.f66 seq1
  simp only[Qa,Sy];go_wp2_with fail;exact ⟨rfl,rfl,rfl,rfl⟩
 rintro a' v' w' ⟨rfl,hv1,hv2,hv3⟩ hr' hn' -;have hsz:v'.heap.size=v.heap.size+2:=by rw[hv1];simp
 have hg:Grows v v':=⟨by omega,λb hb=>by rw[hv1,Qg,if_neg (by simp;omega),Qg,if_neg (by omega)],hv2,hv3⟩
 have hb0:v'.heap[v.heap.size]? = some (.cells #[I kd,I b] 52 (0,0)):=by rw[hv1,Qg,if_neg (by simp<;>omega),Qg,if_pos (by simp)]
 have hb1:v'.heap[v.heap.size+1]? = some (.cells #[I 0,I 0] 38 (0,0)):=by rw[hv1,Qg,if_pos (by simp)]
 have d0:w'.cell? ⟨v.heap.size,0,none⟩=some (I kd):=by rw[hr'.cell?];simp[World.cell?,hb0]
 have d1:w'.cell? ⟨v.heap.size,1,none⟩=some (I b):=by rw[hr'.cell?];simp[World.cell?,hb0]
 clear hv1 hv2 hv3 hvw hn;subst hkd;have hgr:∀ e x,Grows v (ansW v' (v.heap.size+1) e x):=λe x=>⟨by rw[Bg];omega,λb hb=>by rw[Bf _ _ _ _ _ (by omega)];exact hg.old b hb,hg.os,hg.output⟩
 have hk:=λe x w' r' n'=>hk (ansW v' (v.heap.size+1) e x) w' r' n' (hgr e x);clear hgr hg hsz hb0;have hpb:=hb1;clear hb1;generalize v.heap.size=N at hpb d0 d1 hk ⊢;unfold tB Tryd.f66 seq2;simp only[Qa,Sy];refine goesI_seq (dt_idle _ _) ?_;refine goesI_region (dt_idle _ _) ?_;simp only[Sz,Sr,Nat.reduceAdd];iterate 1
  (refine goesI_oper rfl rfl (by decide) (λd K hK=>?_)
   go_simp;refine hK _ _ ⟨dt_reads (λe he=>?_),GoesI.at ?_ d⟩
   .have hm:=mem_listed he
    simp[go_sem, *] at hm
    try exact ⟨_,_,hm⟩
    try (rcases hm with rfl|rfl<;>exact ⟨_,_,rfl⟩)
   clear hK K)
 refine goesI_deferV (d:=dclo 100 #[Pt N 0,Pt (N+1) 0]) (dt_idle _ _) rfl rfl (by decide) (λw=>?_) (λw=>?_) ?_
 .simp[execOp,resolve,Deferred.ofValue,Act.eval,dclo,go_sem]
 .simp[go_sem,execOp,resolve,Deferred.ofValue,Act.eval]
 refine goesI_regionEnd (dt_idle _ _) ?_;refine goesI_seq (dt_idle _ _) ?_;refine goesI_seq (dt_idle _ _) ?_;refine goesI_region (dt_idle _ _) ?_;simp only[Sz,Sr,Nat.reduceAdd];iterate 2
  (refine goesI_oper rfl rfl (by decide) (λd K hK=>?_)
   go_simp;refine hK _ _ ⟨dt_reads (λe he=>?_),GoesI.at ?_ d⟩
   .have hm:=mem_listed he
    simp[go_sem, *] at hm
    try exact ⟨_,_,hm⟩
    try (rcases hm with rfl|rfl<;>exact ⟨_,_,rfl⟩)
   clear hK K)
 refine goesI_regionEnd (dt_idle _ _) ?_;refine goesI_block (dt_idle _ _) ?_;refine goesI_seq (dt_idle _ _) ?_;refine goesI_region (dt_idle _ _) ?_;simp only[Sz,Sr,Nat.reduceAdd];iterate 2
  (refine goesI_oper rfl rfl (by decide) (λd K hK=>?_)
   go_simp;refine hK _ _ ⟨dt_reads (λe he=>?_),GoesI.at ?_ d⟩
   .have hm:=mem_listed he
    simp[go_sem, *] at hm
    try exact ⟨_,_,hm⟩
    try (rcases hm with rfl|rfl<;>exact ⟨_,_,rfl⟩)
   clear hK K)
 refine goesI_regionEnd (dt_idle _ _) ?_;refine goesI_cond (dt_idle _ _) (t:=false) (by simp[Act.eval]) ?_;simp only[if_true,if_false,Qh];refine goesI_seq (dt_idle _ _) ?_;refine goesI_region (dt_idle _ _) ?_;simp only[Sz,Sr,Nat.reduceAdd];iterate 2
  (refine goesI_oper rfl rfl (by decide) (λd K hK=>?_)
   go_simp;refine hK _ _ ⟨dt_reads (λe he=>?_),GoesI.at ?_ d⟩
   .have hm:=mem_listed he
    simp[go_sem, *] at hm
    try exact ⟨_,_,hm⟩
    try (rcases hm with rfl|rfl<;>exact ⟨_,_,rfl⟩)
   clear hK K)
 refine goesI_regionEnd (dt_idle _ _) ?_;refine goesI_cond (dt_idle _ _) (t:=true) (by simp[Act.eval]) ?_;simp only[if_true,if_false,Qh];refine goesI_seq (dt_idle _ _) ?_;refine goesI_region (dt_idle _ _) ?_;simp only[Sz,Sr,Nat.reduceAdd];iterate 3
  (refine goesI_oper rfl rfl (by decide) (λd K hK=>?_)
   go_simp;refine hK _ _ ⟨dt_reads (λe he=>?_),GoesI.at ?_ d⟩
   .have hm:=mem_listed he
    simp[go_sem, *] at hm
    try exact ⟨_,_,hm⟩
    try (rcases hm with rfl|rfl<;>exact ⟨_,_,rfl⟩)
   clear hK K)
 have q0:v'.cell? ⟨N+1,0,none⟩=some (I 0):=by simp[World.cell?,hpb]
 have q1:v'.cell? ⟨N+1,1,none⟩=some (I 0):=by simp[World.cell?,hpb]
 have p0:v'.frozen? ⟨N+1,0,none⟩=false:=by simp[World.frozen?,hpb]
 have p1:v'.frozen? ⟨N+1,1,none⟩=false:=by simp[World.frozen?,hpb]
 have hrow:=Ap hpb (70) (b);refine goesI_doZ (L:=LT) rfl rfl (by decide) (fineOp_ask callT extT (by kernel_rfl)) hr' hn' (v':=ansW v' (N+1) (70) (b)) (by unfold ansW;go_simp) rfl (λw9 r9 n9=>?_);refine goesI_regionEnd (dt_idle _ _) ?_;refine GoesI.ctl rfl (λ_=>stepG_ret') (dt_idle _ _) ?_;refine goesI_unwind_clo (dt_idle _ _) rfl Tryd.func100 (by kernel_rfl) rfl ?_;simp only[Tryd.ntmps100,Sz,Nat.reduceAdd,Nat.reduceSub,Sy];refine goesI_seq (dt_idle _ _) ?_;refine goesI_region (dt_idle _ _) ?_;simp only[Sz,Sr,Nat.reduceAdd];refine goesI_recover_none (dt_idle _ _) rfl rfl rfl rfl (λw=>by go_simp) (λw=>by simp[go_sem,execOp,resolve,invoke,builtin]) ?_
 (refine goesI_oper rfl rfl (by decide) (λd K hK=>?_)
  go_simp;refine hK _ _ ⟨dt_reads (λe he=>?_),GoesI.at ?_ d⟩
  .have hm:=mem_listed he
   simp[go_sem,ev_nil, *] at hm
  clear hK K)
 refine goesI_regionEnd (dt_idle _ _) ?_;refine goesI_cond (dt_idle _ _) (t:=false) rfl ?_;simp only[if_true,if_false,Qh];refine goesI_skip (dt_idle _ _) ?_;refine goesI_end (dt_idle _ _) ?_;refine GoesI.ctl rfl (λw=>stepG_backR Tryd.func100 rfl rfl) (dt_idle _ _) ?_;refine goesI_leaveZ (f:=66) (fn:=Tryd.f66) (x:=.agg #[I (70),I (b)]) r9 n9 Tryd.func66 rfl hoc ?_ (λw' r'=>hk (70) (b) w' r' n9);generalize ansW v' (N+1) (70) (b)=V at hrow;have k0:V.cell? ⟨N+1,0,none⟩=some (I (70)):=by simp[World.cell?,hrow]
 have k1:V.cell? ⟨N+1,1,none⟩=some (I (b)):=by simp[World.cell?,hrow]
 simp[results,go_sem,Tryd.f66, *]
theorem ev_iface (ty:TypeId) (x:Int) (w:World):(binOp .neq 20 (.iface ty (I x)) .nilIface).events Tryd.prog w #[]=#[]:=by show Sem.events Tryd.prog (do pure (Value.bool (!(<-Op.equalIn (9999+1) 20 (.iface ty (I x)) .nilIface)))) w #[]=#[];unfold Op.equalIn;simp[go_sem]
theorem come2 {tb:Nat}{b:Int}(hkd:kd=2) (cs:List Frame) (hoc:ops[q]? = some oc) (hvw:Rel z v w) (hn:NoRow Ch v)
 (hk:∀ v' w',Rel z v' w'->NoRow Ch v'->Grows v v'->GoesI Tryd.prog main (DT (ScZ z) Ch) Stop (G (bc.at (ac.put oc.dst (.agg #[I (71),I (b)])) (.inRegion ops rest :: k0)) cs) w') (code:Code) (hc:Tryd.f66.body=some code):
 GoesI Tryd.prog main (DT (ScZ z) Ch) Stop (G ((base 66).at { tmps:=#[Pt ob 0,Pt tb 0,.agg #[I kd,I b]]++Array.replicate 31 undef,defers:=[] } [.code code]) (bc.at ac (.inRegion ops (q :: rest) :: k0) :: cs)) w:=by
 have hw0:code=.seq (seq1 tB) (seq2 tB):=by rw[show code=tB by unfold tB;rw[hc];rfl];exact eTB
 subst hw0;clear hc;refine goesI_seq (dt_idle _ _) ?_;refine goesI_plain (z:=z) (wr:=true) (L:=LT) (I:=NoRow Ch) hE fineT noRow_keeps (λv v' w w' es hi hr ho he=>dt_of_z v v' w w' es hi hr ho he) hvw fine_t0 rfl (by simp[base]) hn
  (Q:=λa w'=>a={ tmps:=#[Pt ob 0,Pt tb 0,.agg #[I kd,I b],undef,undef,Pt v.heap.size 0,Pt (v.heap.size+1) 0]++Array.replicate 27 undef,defers:=[] }∧w'.heap=((v.heap.push (.cells #[I kd,I b] 52)).push (.cells #[I 0,I 0] 38))∧w'.os=v.os∧w'.output=v.output) (λτ=>?_) ?_
 .unfold tB Tryd.f66 seq1
  simp only[Qa,Sy];go_wp2_with fail;exact ⟨rfl,rfl,rfl,rfl⟩
 rintro a' v' w' ⟨rfl,hv1,hv2,hv3⟩ hr' hn' -;have hsz:v'.heap.size=v.heap.size+2:=by rw[hv1];simp
 have hg:Grows v v':=⟨by omega,λb hb=>by rw[hv1,Qg,if_neg (by simp;omega),Qg,if_neg (by omega)],hv2,hv3⟩
 have hb0:v'.heap[v.heap.size]? = some (.cells #[I kd,I b] 52 (0,0)):=by rw[hv1,Qg,if_neg (by simp<;>omega),Qg,if_pos (by simp)]
 have hb1:v'.heap[v.heap.size+1]? = some (.cells #[I 0,I 0] 38 (0,0)):=by rw[hv1,Qg,if_pos (by simp)]
 have d0:w'.cell? ⟨v.heap.size,0,none⟩=some (I kd):=by rw[hr'.cell?];simp[World.cell?,hb0]
 have d1:w'.cell? ⟨v.heap.size,1,none⟩=some (I b):=by rw[hr'.cell?];simp[World.cell?,hb0]
 clear hv1 hv2 hv3 hvw hn;subst hkd;have hgr:∀ e x,Grows v (ansW v' (v.heap.size+1) e x):=λe x=>⟨by rw[Bg];omega,λb hb=>by rw[Bf _ _ _ _ _ (by omega)];exact hg.old b hb,hg.os,hg.output⟩
 have hk:=λe x w' r' n'=>hk (ansW v' (v.heap.size+1) e x) w' r' n' (hgr e x);clear hgr hg hsz hb0;have hpb:=hb1;clear hb1;generalize v.heap.size=N at hpb d0 d1 hk ⊢;unfold tB Tryd.f66 seq2;simp only[Qa,Sy];refine goesI_seq (dt_idle _ _) ?_;refine goesI_region (dt_idle _ _) ?_;simp only[Sz,Sr,Nat.reduceAdd];iterate 1
  (refine goesI_oper rfl rfl (by decide) (λd K hK=>?_)
   go_simp;refine hK _ _ ⟨dt_reads (λe he=>?_),GoesI.at ?_ d⟩
   .have hm:=mem_listed he
    simp[go_sem, *] at hm
    try exact ⟨_,_,hm⟩
    try (rcases hm with rfl|rfl<;>exact ⟨_,_,rfl⟩)
   clear hK K)
 refine goesI_deferV (d:=dclo 100 #[Pt N 0,Pt (N+1) 0]) (dt_idle _ _) rfl rfl (by decide) (λw=>?_) (λw=>?_) ?_
 .simp[execOp,resolve,Deferred.ofValue,Act.eval,dclo,go_sem]
 .simp[go_sem,execOp,resolve,Deferred.ofValue,Act.eval]
 refine goesI_regionEnd (dt_idle _ _) ?_;refine goesI_seq (dt_idle _ _) ?_;refine goesI_seq (dt_idle _ _) ?_;refine goesI_region (dt_idle _ _) ?_;simp only[Sz,Sr,Nat.reduceAdd];iterate 2
  (refine goesI_oper rfl rfl (by decide) (λd K hK=>?_)
   go_simp;refine hK _ _ ⟨dt_reads (λe he=>?_),GoesI.at ?_ d⟩
   .have hm:=mem_listed he
    simp[go_sem, *] at hm
    try exact ⟨_,_,hm⟩
    try (rcases hm with rfl|rfl<;>exact ⟨_,_,rfl⟩)
   clear hK K)
 refine goesI_regionEnd (dt_idle _ _) ?_;refine goesI_block (dt_idle _ _) ?_;refine goesI_seq (dt_idle _ _) ?_;refine goesI_region (dt_idle _ _) ?_;simp only[Sz,Sr,Nat.reduceAdd];iterate 2
  (refine goesI_oper rfl rfl (by decide) (λd K hK=>?_)
   go_simp;refine hK _ _ ⟨dt_reads (λe he=>?_),GoesI.at ?_ d⟩
   .have hm:=mem_listed he
    simp[go_sem, *] at hm
    try exact ⟨_,_,hm⟩
    try (rcases hm with rfl|rfl<;>exact ⟨_,_,rfl⟩)
   clear hK K)
 refine goesI_regionEnd (dt_idle _ _) ?_;refine goesI_cond (dt_idle _ _) (t:=false) (by simp[Act.eval]) ?_;simp only[if_true,if_false,Qh];refine goesI_seq (dt_idle _ _) ?_;refine goesI_region (dt_idle _ _) ?_;simp only[Sz,Sr,Nat.reduceAdd];iterate 2
  (refine goesI_oper rfl rfl (by decide) (λd K hK=>?_)
   go_simp;refine hK _ _ ⟨dt_reads (λe he=>?_),GoesI.at ?_ d⟩
   .have hm:=mem_listed he
    simp[go_sem, *] at hm
    try exact ⟨_,_,hm⟩
    try (rcases hm with rfl|rfl<;>exact ⟨_,_,rfl⟩)
   clear hK K)
 refine goesI_regionEnd (dt_idle _ _) ?_;refine goesI_cond (dt_idle _ _) (t:=false) (by simp[Act.eval]) ?_;simp only[if_true,if_false,Qh];refine goesI_seq (dt_idle _ _) ?_;refine goesI_region (dt_idle _ _) ?_;simp only[Sz,Sr,Nat.reduceAdd];iterate 2
  (refine goesI_oper rfl rfl (by decide) (λd K hK=>?_)
   go_simp;refine hK _ _ ⟨dt_reads (λe he=>?_),GoesI.at ?_ d⟩
   .have hm:=mem_listed he
    simp[go_sem, *] at hm
    try exact ⟨_,_,hm⟩
    try (rcases hm with rfl|rfl<;>exact ⟨_,_,rfl⟩)
   clear hK K)
 refine goesI_regionEnd (dt_idle _ _) ?_;refine goesI_cond (dt_idle _ _) (t:=true) (by simp[Act.eval]) ?_;simp only[if_true,if_false,Qh];refine goesI_region (dt_idle _ _) ?_;simp only[Sz,Sr,Nat.reduceAdd];iterate 2
  (refine goesI_oper rfl rfl (by decide) (λd K hK=>?_)
   go_simp;refine hK _ _ ⟨dt_reads (λe he=>?_),GoesI.at ?_ d⟩
   .have hm:=mem_listed he
    simp[go_sem, *] at hm
    try exact ⟨_,_,hm⟩
    try (rcases hm with rfl|rfl<;>exact ⟨_,_,rfl⟩)
   clear hK K)
 refine goesI_oper rfl rfl (by decide) (λd K hK=>?_);go_simp;refine hK _ _ ⟨dt_reads (λe he=>?_),GoesI.at ?_ d⟩
 .have hm:=mem_listed he
  simp[go_sem,Instr.makeInterface, *] at hm
 clear hK K;refine GoesI.ctl rfl (λw=>stepG_panic (v:=.iface 3 (I b)) rfl rfl (by decide) (by simp[execOp,go_sem,Instr.panic,Act.eval]) (by simp[go_sem,execOp,Instr.panic,Act.eval])) (dt_idle _ _) ?_;refine GoesI.ctl rfl (λw=>stepG_unwind_cloP (f:=100) (fn:=Tryd.f100) (cap:=#[Pt N 0,Pt (N+1) 0]) (ds:=[]) rfl Tryd.func100 (by kernel_rfl) rfl) (dt_idle _ _) ?_;simp only[Tryd.ntmps100,Sz,Nat.reduceAdd,Nat.reduceSub,Sy];refine goesI_seq (dt_idle _ _) ?_;refine goesI_region (dt_idle _ _) ?_;simp only[Sz,Sr,Nat.reduceAdd];refine GoesI.ctl rfl (λw=>stepG_recover_some (v:=.iface 3 (I b)) rfl rfl rfl rfl (by go_simp) (by simp[go_sem,execOp,resolve,invoke,builtin])) (dt_idle _ _) ?_
 (refine goesI_oper rfl rfl (by decide) (λd K hK=>?_)
  go_simp;refine hK _ _ ⟨dt_reads (λe he=>?_),GoesI.at ?_ d⟩
  .have hm:=mem_listed he
   simp[go_sem,ev_iface, *] at hm
  clear hK K)
 refine goesI_regionEnd (dt_idle _ _) ?_;refine goesI_cond (dt_idle _ _) (t:=true) (by simp[Act.eval]) ?_;simp only[if_true,if_false,Qh];refine goesI_region (dt_idle _ _) ?_;simp only[Sz,Sr,Nat.reduceAdd];iterate 3
  (refine goesI_oper rfl rfl (by decide) (λd K hK=>?_)
   go_simp;refine hK _ _ ⟨dt_reads (λe he=>?_),GoesI.at ?_ d⟩
   .have hm:=mem_listed he
    simp[go_sem, *] at hm
    try exact ⟨_,_,hm⟩
    try (rcases hm with rfl|rfl<;>exact ⟨_,_,rfl⟩)
   clear hK K)
 have q0:v'.cell? ⟨N+1,0,none⟩=some (I 0):=by simp[World.cell?,hpb]
 have q1:v'.cell? ⟨N+1,1,none⟩=some (I 0):=by simp[World.cell?,hpb]
 have p0:v'.frozen? ⟨N+1,0,none⟩=false:=by simp[World.frozen?,hpb]
 have p1:v'.frozen? ⟨N+1,1,none⟩=false:=by simp[World.frozen?,hpb]
 have hrow:=Ap hpb (71) (b);refine goesI_doZ (L:=LT) rfl rfl (by decide) (fineOp_ask callT extT (by kernel_rfl)) hr' hn' (v':=ansW v' (N+1) (71) (b)) (by unfold ansW;go_simp) rfl (λw9 r9 n9=>?_);refine goesI_regionEnd (dt_idle _ _) ?_;refine goesI_end (dt_idle _ _) ?_;refine GoesI.ctl rfl (λw=>stepG_backD (v:=.iface 3 (I b)) Tryd.func100 rfl rfl) (dt_idle _ _) ?_;change GoesI Tryd.prog main (DT (ScZ z) Ch) Stop (G { (base 66).at ⟨_,[]⟩ _ with mode:=.returning } _) _;refine goesI_leaveZ (f:=66) (fn:=Tryd.f66) (x:=.agg #[I (71),I (b)]) r9 n9 Tryd.func66 rfl hoc ?_ (λw' r'=>hk (71) (b) w' r' n9);generalize ansW v' (N+1) (71) (b)=V at hrow;have k0:V.cell? ⟨N+1,0,none⟩=some (I (71)):=by simp[World.cell?,hrow]
 have k1:V.cell? ⟨N+1,1,none⟩=some (I (b)):=by simp[World.cell?,hrow]
 simp[results,go_sem,Tryd.f66,Frame.at, *]
theorem come3 {tb:Nat}{b:Int}(hkd:kd=3) (cs:List Frame) (hoc:ops[q]? = some oc) (hvw:Rel z v w) (hn:NoRow Ch v)
 (hk:∀ v' w' (bd:Frame) (ad:Act) (od:Array Oper) (qd:Nat) (rd:List Nat) (oe:Oper) (kd:List Item),Rel z v' w'->NoRow Ch v'->Grows v v'->v'.heap[v.heap.size+1]? = some (.cells #[I 0,I 0] 38 (0,0))->od[qd]? = some oe->KBack main (oneM (v.heap.size+1) (.cells #[I 0,I 0] 38 (0,0))) (λa=>(70,a.1)) (λr=>G (bd.at (ad.put oe.dst r) (.inRegion od rd :: kd)) (bc.at ac (.inRegion ops (q :: rest) :: k0) :: cs)) (λr=>(G (bc.at (ac.put oc.dst r) (.inRegion ops rest :: k0)) cs))->∀ code,Tryd.f28.body=some code ->
   GoesI Tryd.prog main (DT (ScZ z) Ch) Stop (G ((base 28).at { tmps:=#[Pt ob 0,Pt tb 0,.agg #[I 3,I b]]++Array.replicate 11 undef,defers:=[] } [.code code]) (bd.at ad (.inRegion od (qd :: rd):: kd):: (bc.at ac (.inRegion ops (q :: rest):: k0):: cs))) w') (code:Code) (hc:Tryd.f66.body=some code):
 GoesI Tryd.prog main (DT (ScZ z) Ch) Stop (G ((base 66).at { tmps:=#[Pt ob 0,Pt tb 0,.agg #[I kd,I b]]++Array.replicate 31 undef,defers:=[] } [.code code]) (bc.at ac (.inRegion ops (q :: rest) :: k0) :: cs)) w:=by
 have hw0:code=.seq (seq1 tB) (seq2 tB):=by rw[show code=tB by unfold tB;rw[hc];rfl];exact eTB
 subst hw0;clear hc;refine goesI_seq (dt_idle _ _) ?_;refine goesI_plain (z:=z) (wr:=true) (L:=LT) (I:=NoRow Ch) hE fineT noRow_keeps (λv v' w w' es hi hr ho he=>dt_of_z v v' w w' es hi hr ho he) hvw fine_t0 rfl (by simp[base]) hn
  (Q:=λa w'=>a={ tmps:=#[Pt ob 0,Pt tb 0,.agg #[I kd,I b],undef,undef,Pt v.heap.size 0,Pt (v.heap.size+1) 0]++Array.replicate 27 undef,defers:=[] }∧w'.heap=((v.heap.push (.cells #[I kd,I b] 52)).push (.cells #[I 0,I 0] 38))∧w'.os=v.os∧w'.output=v.output) (λτ=>?_) ?_
 .unfold tB Tryd.f66 seq1
  simp only[Qa,Sy];go_wp2_with fail;exact ⟨rfl,rfl,rfl,rfl⟩
 rintro a' v' w' ⟨rfl,hv1,hv2,hv3⟩ hr' hn' -;have hsz:v'.heap.size=v.heap.size+2:=by rw[hv1];simp
 have hg:Grows v v':=⟨by omega,λb hb=>by rw[hv1,Qg,if_neg (by simp;omega),Qg,if_neg (by omega)],hv2,hv3⟩
 have hb0:v'.heap[v.heap.size]? = some (.cells #[I kd,I b] 52 (0,0)):=by rw[hv1,Qg,if_neg (by simp<;>omega),Qg,if_pos (by simp)]
 have hb1:v'.heap[v.heap.size+1]? = some (.cells #[I 0,I 0] 38 (0,0)):=by rw[hv1,Qg,if_pos (by simp)]
 have d0:w'.cell? ⟨v.heap.size,0,none⟩=some (I kd):=by rw[hr'.cell?];simp[World.cell?,hb0]
 have d1:w'.cell? ⟨v.heap.size,1,none⟩=some (I b):=by rw[hr'.cell?];simp[World.cell?,hb0]
 clear hv1 hv2 hv3 hvw hn;subst hkd;have hk:=λw1 bd ad od qd rd oe kd (r1:Rel z v' w1)=>hk v' w1 bd ad od qd rd oe kd r1 hn' hg hb1;clear hg hsz hb0 hb1;generalize v.heap.size=N at d0 d1 hk ⊢;unfold tB Tryd.f66 seq2;simp only[Qa,Sy];refine goesI_seq (dt_idle _ _) ?_;refine goesI_region (dt_idle _ _) ?_;simp only[Sz,Sr,Nat.reduceAdd];iterate 1
  (refine goesI_oper rfl rfl (by decide) (λd K hK=>?_)
   go_simp;refine hK _ _ ⟨dt_reads (λe he=>?_),GoesI.at ?_ d⟩
   .have hm:=mem_listed he
    simp[go_sem, *] at hm
    try exact ⟨_,_,hm⟩
    try (rcases hm with rfl|rfl<;>exact ⟨_,_,rfl⟩)
   clear hK K)
 refine goesI_deferV (d:=dclo 100 #[Pt N 0,Pt (N+1) 0]) (dt_idle _ _) rfl rfl (by decide) (λw=>?_) (λw=>?_) ?_
 .simp[execOp,resolve,Deferred.ofValue,Act.eval,dclo,go_sem]
 .simp[go_sem,execOp,resolve,Deferred.ofValue,Act.eval]
 refine goesI_regionEnd (dt_idle _ _) ?_;refine goesI_seq (dt_idle _ _) ?_;refine goesI_seq (dt_idle _ _) ?_;refine goesI_region (dt_idle _ _) ?_;simp only[Sz,Sr,Nat.reduceAdd];iterate 2
  (refine goesI_oper rfl rfl (by decide) (λd K hK=>?_)
   go_simp;refine hK _ _ ⟨dt_reads (λe he=>?_),GoesI.at ?_ d⟩
   .have hm:=mem_listed he
    simp[go_sem, *] at hm
    try exact ⟨_,_,hm⟩
    try (rcases hm with rfl|rfl<;>exact ⟨_,_,rfl⟩)
   clear hK K)
 refine goesI_regionEnd (dt_idle _ _) ?_;refine goesI_block (dt_idle _ _) ?_;refine goesI_seq (dt_idle _ _) ?_;refine goesI_region (dt_idle _ _) ?_;simp only[Sz,Sr,Nat.reduceAdd];iterate 2
  (refine goesI_oper rfl rfl (by decide) (λd K hK=>?_)
   go_simp;refine hK _ _ ⟨dt_reads (λe he=>?_),GoesI.at ?_ d⟩
   .have hm:=mem_listed he
    simp[go_sem, *] at hm
    try exact ⟨_,_,hm⟩
    try (rcases hm with rfl|rfl<;>exact ⟨_,_,rfl⟩)
   clear hK K)
 refine goesI_regionEnd (dt_idle _ _) ?_;refine goesI_cond (dt_idle _ _) (t:=false) (by simp[Act.eval]) ?_;simp only[if_true,if_false,Qh];refine goesI_seq (dt_idle _ _) ?_;refine goesI_region (dt_idle _ _) ?_;simp only[Sz,Sr,Nat.reduceAdd];iterate 2
  (refine goesI_oper rfl rfl (by decide) (λd K hK=>?_)
   go_simp;refine hK _ _ ⟨dt_reads (λe he=>?_),GoesI.at ?_ d⟩
   .have hm:=mem_listed he
    simp[go_sem, *] at hm
    try exact ⟨_,_,hm⟩
    try (rcases hm with rfl|rfl<;>exact ⟨_,_,rfl⟩)
   clear hK K)
 refine goesI_regionEnd (dt_idle _ _) ?_;refine goesI_cond (dt_idle _ _) (t:=false) (by simp[Act.eval]) ?_;simp only[if_true,if_false,Qh];refine goesI_seq (dt_idle _ _) ?_;refine goesI_region (dt_idle _ _) ?_;simp only[Sz,Sr,Nat.reduceAdd];iterate 2
  (refine goesI_oper rfl rfl (by decide) (λd K hK=>?_)
   go_simp;refine hK _ _ ⟨dt_reads (λe he=>?_),GoesI.at ?_ d⟩
   .have hm:=mem_listed he
    simp[go_sem, *] at hm
    try exact ⟨_,_,hm⟩
    try (rcases hm with rfl|rfl<;>exact ⟨_,_,rfl⟩)
   clear hK K)
 refine goesI_regionEnd (dt_idle _ _) ?_;refine goesI_cond (dt_idle _ _) (t:=false) (by simp[Act.eval]) ?_;simp only[if_true,if_false,Qh];refine goesI_seq (dt_idle _ _) ?_;refine goesI_region (dt_idle _ _) ?_;simp only[Sz,Sr,Nat.reduceAdd];iterate 2
  (refine goesI_oper rfl rfl (by decide) (λd K hK=>?_)
   go_simp;refine hK _ _ ⟨dt_reads (λe he=>?_),GoesI.at ?_ d⟩
   .have hm:=mem_listed he
    simp[go_sem, *] at hm
    try exact ⟨_,_,hm⟩
    try (rcases hm with rfl|rfl<;>exact ⟨_,_,rfl⟩)
   clear hK K)
 refine goesI_regionEnd (dt_idle _ _) ?_;refine goesI_cond (dt_idle _ _) (t:=true) (by simp[Act.eval]) ?_;simp only[if_true,if_false,Qh];refine goesI_seq (dt_idle _ _) ?_;refine goesI_region (dt_idle _ _) ?_;simp only[Sz,Sr,Nat.reduceAdd];iterate 3
  (refine goesI_oper rfl rfl (by decide) (λd K hK=>?_)
   go_simp;refine hK _ _ ⟨dt_reads (λe he=>?_),GoesI.at ?_ d⟩
   .have hm:=mem_listed he
    simp[go_sem, *] at hm
    try exact ⟨_,_,hm⟩
    try (rcases hm with rfl|rfl<;>exact ⟨_,_,rfl⟩)
   clear hK K)
 refine goesI_into (f:=28) (fn:=Tryd.f28) (args:=#[Pt ob 0,Pt tb 0,.agg #[I 3,I b]]) (dt_idle _ _) rfl rfl (by decide) rfl (by simp[Act.eval]) Tryd.func28 (by decide) rfl ?_;refine hk _ _ _ _ _ _ _ _ (hr'.re rfl rfl rfl rfl rfl rfl) rfl ?_ _ rfl;clear hk hr' hn' d0 d1;intro z1 Ch1 St w2 v2 S1 K1 a r2 n2 m2 hM hO hk;have hpb:v2.heap[N+1]? = some (.cells #[I 0,I 0] 38 (0,0)):=has_one.1 hM;have hO1:¬ Own S1 K1 (N+1):=hO (N+1) (by rw[Ah];simp);have he:=ans_evo m2 hO1 70 a.1;have hk:=λw' r' n'=>hk (ansW v2 (N+1) 70 a.1) w' r' n' (he.wider (λb _ hb=>by rw[show b=N+1 from hb,Ah];simp));walk_nrm
 iterate 2
  (refine goesI_oper rfl rfl (by decide) (λd K hK=>?_)
   go_simp;refine hK _ _ ⟨dt_reads (λe he=>?_),GoesI.at ?_ d⟩
   .have hm:=mem_listed he
    simp[go_sem, *] at hm
    try exact ⟨_,_,hm⟩
    try (rcases hm with rfl|rfl<;>exact ⟨_,_,rfl⟩)
   clear hK K)
 have q0:v2.cell? ⟨N+1,0,none⟩=some (I 0):=by simp[World.cell?,hpb]
 have q1:v2.cell? ⟨N+1,1,none⟩=some (I 0):=by simp[World.cell?,hpb]
 have p0:v2.frozen? ⟨N+1,0,none⟩=false:=by simp[World.frozen?,hpb]
 have p1:v2.frozen? ⟨N+1,1,none⟩=false:=by simp[World.frozen?,hpb]
 have hrow:=Ap hpb (70) (a.1);refine goesI_doZ (L:=LT) rfl rfl (by decide) (fineOp_ask callT extT (by kernel_rfl)) r2 n2 (v':=ansW v2 (N+1) (70) (a.1)) (by unfold ansW;go_simp) rfl (λw9 r9 n9=>?_);refine goesI_regionEnd (dt_idle _ _) ?_;refine GoesI.ctl rfl (λ_=>stepG_ret') (dt_idle _ _) ?_;refine goesI_unwind_clo (dt_idle _ _) rfl Tryd.func100 (by kernel_rfl) rfl ?_;simp only[Tryd.ntmps100,Sz,Nat.reduceAdd,Nat.reduceSub,Sy];refine goesI_seq (dt_idle _ _) ?_;refine goesI_region (dt_idle _ _) ?_;simp only[Sz,Sr,Nat.reduceAdd];refine goesI_recover_none (dt_idle _ _) rfl rfl rfl rfl (λw=>by go_simp) (λw=>by simp[go_sem,execOp,resolve,invoke,builtin]) ?_
 (refine goesI_oper rfl rfl (by decide) (λd K hK=>?_)
  go_simp;refine hK _ _ ⟨dt_reads (λe he=>?_),GoesI.at ?_ d⟩
  .have hm:=mem_listed he
   simp[go_sem,ev_nil, *] at hm
  clear hK K)
 refine goesI_regionEnd (dt_idle _ _) ?_;refine goesI_cond (dt_idle _ _) (t:=false) rfl ?_;simp only[if_true,if_false,Qh];refine goesI_skip (dt_idle _ _) ?_;refine goesI_end (dt_idle _ _) ?_;refine GoesI.ctl rfl (λw=>stepG_backR Tryd.func100 rfl rfl) (dt_idle _ _) ?_;refine goesI_leaveZ (f:=66) (fn:=Tryd.f66) (x:=.agg #[I (70),I (a.1)]) r9 n9 Tryd.func66 rfl hoc ?_ (λw' r'=>hk w' r' n9);generalize ansW v2 (N+1) (70) (a.1)=V at hrow;have k0:V.cell? ⟨N+1,0,none⟩=some (I (70)):=by simp[World.cell?,hrow]
 have k1:V.cell? ⟨N+1,1,none⟩=some (I (a.1)):=by simp[World.cell?,hrow]
 simp[results,go_sem,Tryd.f66,Frame.at, *]
end Go.Proofs.YtfjjoohflcchnaaDoor.Gen
