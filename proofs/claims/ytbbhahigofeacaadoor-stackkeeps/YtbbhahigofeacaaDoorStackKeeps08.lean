/- Of the proof of StackKeeps. Part 8 of 33. (Joined, by program, and written short, of: GPure, GHome, Hire, Hire2, Hire3, Main35.) -/
import Derived.Test.YtbbhahigofeacaaDoorStackKeeps05
import Derived.Test.YtbbhahigofeacaaDoorStackKeeps07
import Derived.Conc.SmallLaws
set_option linter.unusedSimpArgs false
set_option linter.unusedVariables false
set_option maxHeartbeats 4000000
set_option maxRecDepth 100000
namespace Go.Proofs.YtbbhahigofeacaaDoor.Gen
open Go Go.Lift Go.Conc Go.RowKit
structure Cl where
 po:Int
 ca:Int
 cb:Int
 cc:Int
abbrev Q:=Nat×List Int
inductive Nx where
 |ans (e x:Int)
 |turn (op:Int) (j:Nat) (q:Q)
 |wait (j:Nat) (q:Q)
structure Mc where
 start:Nat->Cl->Nx
 turn:Q->Int->(Int×Int)×Int×Nx
 woke:Q->Nx
 stuck:Q->Nx
 stkN:∀ q j q',stuck q≠.wait j q':=by intro q j q' h;cases h
 nts:Q->Int->List (Int×Int×Int):=fun _ _=>[]
 bnd:Bool:=false
 ok:Nat->Int->Prop:=fun _ _=>True
 at_:Q->Nat->Prop:=fun _ _=>True
 ok0:∀ j,ok j 0:=by intros;trivial
 okt:∀ q j x,at_ q j->ok j x->ok j (turn q x).2.1:=by intros;trivial
 atS:∀ i c op j q,start i c=.turn op j q->at_ q j:=by intros;trivial
 atT:∀ q j x op j' q',at_ q j->ok j x->(turn q x).2.2=.turn op j' q'->at_ q' j':=by intros;trivial
 atW:∀ q op j q',woke q=.turn op j q'->at_ q' j:=by intros;trivial
 atU:∀ q op j q',stuck q=.turn op j q'->at_ q' j:=by intros;trivial
def Mc.set (m:Mc) (stk:Bool):Nx->Nx
 |.ans e x=>.ans e x
 |.turn op j q=>.turn op j q
 |.wait j q=>if stk then m.stuck q else .wait j q
def Mc.bn (m:Mc) (caps:Array Value):Array Value:=if m.bnd then caps else #[]
def Mc.fr (m:Mc) (caps:Array Value):Array Value:=if m.bnd then #[] else caps
inductive Ph where
 |turn (op:Int) (j:Nat) (q:Q) (rest:List Cl) (ii:Nat) (ans:List (Int×Int))
 |wait (j:Nat) (q:Q) (rest:List Cl) (ii:Nat) (ans:List (Int×Int))
 |done (ans:List (Int×Int))
def Ph.ans:Ph->List (Int×Int)
 |.turn _ _ _ _ _ a=>a
 |.wait _ _ _ _ a=>a
 |.done a=>a
def nv (S:TS):TS:={ S with tv:=undef }
def thrI (S:TS) (i:Nat):Thr:=(S.thr[i]?).getD ⟨0,0,0,0,0,0⟩
def cellAt (K:List (Nat×Int)) (j:Nat):Nat×Int:=(K[j]?).getD (0,0)
def KOk (m:Mc) (K:List (Nat×Int)):Prop:=∀ j p,K[j]? = some p->m.ok j p.2
theorem KOk.set {m:Mc}{K:List (Nat×Int)}(h:KOk m K) (j:Nat) (q:Q) (ha:m.at_ q j) (b:Nat):KOk m (K.set j (b,(m.turn q (cellAt K j).2).2.1)):=fun k p hp=>by
 rw[List.getElem?_set] at hp
 split at hp
 ·rename_i e
  subst e
  split at hp
  ·rename_i hl
   cases hp
   refine m.okt q j _ ha (h j _ ?_)
   unfold cellAt
   rw[List.getElem?_eq_getElem hl]
   rfl
  ·cases hp
 ·exact h k p hp
def H9 (i:Nat):List (Int×Int×Int)->TS->TS
 | [],S=>S
 |n :: l,S=>H9 i l (Bn S undef i n.1 (-1) n.2.1 n.2.2)
def flow (i:Nat) (m:Mc):List Cl->Nat->Bool->List (Int×Int)->TS->TS×Ph
 | [],_,_,ans,S=>(ended S i (thrI S i),.done ans)
 |_ :: rest,ii,true,ans,S=>flow i m rest (ii+1) true (ans.set ii (4,0)) S
 |c :: rest,ii,false,ans,S =>
  match m.set S.stk (m.start i c) with
  |.ans e x=>flow i m rest (ii+1) (e==4) (ans.set ii (e,x)) (Bn (Bn S undef i 9 (-1) ii 0) undef i 10 (-1) ii e)
  |.turn op j q=>(waiting (Bn S undef i 9 (-1) ii 0) i (thrI S i) 1 op j,.turn op j q rest ii ans)
  |.wait j q=>(waiting (Bn S undef i 9 (-1) ii 0) i (thrI S i) 2 6 j,.wait j q rest ii ans)
def back (i:Nat) (m:Mc) (rest:List Cl) (ii:Nat) (ans:List (Int×Int)) (a:Int×Int) (S:TS) (K:List (Nat×Int)):TS×List (Nat×Int)×Ph :=
 ((flow i m rest (ii+1) (a.1==4) (ans.set ii a) (Bn S undef i 10 (-1) ii a.1)).1,K,(flow i m rest (ii+1) (a.1==4) (ans.set ii a) (Bn S undef i 10 (-1) ii a.1)).2)
def on (i:Nat) (m:Mc) (rest:List Cl) (ii:Nat) (ans:List (Int×Int)) (S:TS) (K:List (Nat×Int)):Nx->TS×List (Nat×Int)×Ph
 |.ans e x=>back i m rest ii ans (e,x) S K
 |.turn op j q=>(waiting S i (thrI S i) 1 op j,K,.turn op j q rest ii ans)
 |.wait j q=>(waiting S i (thrI S i) 2 6 j,K,.wait j q rest ii ans)
def resume (i:Nat) (m:Mc):Ph->TS->List (Nat×Int)->TS×List (Nat×Int)×Ph
 |.turn _ j q rest ii ans,S,K=>on i m rest ii ans (H9 i (m.nts q (cellAt K j).2) (didS S undef i (thrI S i) (m.turn q (cellAt K j).2).1.1 (m.turn q (cellAt K j).2).1.2)) (K.set j ((cellAt K j).1,(m.turn q (cellAt K j).2).2.1)) (m.set S.stk (m.turn q (cellAt K j).2).2.2)
 |.wait j q rest ii ans,S,K=>if S.stk then on i m rest ii ans S K (m.stuck q) else on i m rest ii ans (Bn S undef i 6 j 0 0) K (m.woke q)
 |p,S,K=>(S,K,p)
theorem flow_cons (i:Nat) (m:Mc) (c:Cl) (rest:List Cl) (ii:Nat) (ans:List (Int×Int)) (S:TS) (K:List (Nat×Int)):flow i m (c :: rest) ii false ans S=((on i m rest ii ans (Bn S undef i 9 (-1) ii 0) K (m.set S.stk (m.start i c))).1,(on i m rest ii ans (Bn S undef i 9 (-1) ii 0) K (m.set S.stk (m.start i c))).2.2):=by
 unfold flow
 cases h:m.set S.stk (m.start i c) with
 |ans e x=>rfl
 |turn op j q=>rfl
 |wait j q=>rfl
theorem F3 (i:Nat) (m:Mc) (op:Int) (j:Nat) (q:Q) (rest:List Cl) (ii:Nat) (ans:List (Int×Int)) (S:TS) (K:List (Nat×Int)):resume i m (.turn op j q rest ii ans) S K=on i m rest ii ans (H9 i (m.nts q (cellAt K j).2) (didS S undef i (thrI S i) (m.turn q (cellAt K j).2).1.1 (m.turn q (cellAt K j).2).1.2)) (K.set j ((cellAt K j).1,(m.turn q (cellAt K j).2).2.1)) (m.set S.stk (m.turn q (cellAt K j).2).2.2):=rfl
theorem F2 (i:Nat) (m:Mc) (j:Nat) (q:Q) (rest:List Cl) (ii:Nat) (ans:List (Int×Int)) (S:TS) (K:List (Nat×Int)):resume i m (.wait j q rest ii ans) S K=if S.stk then on i m rest ii ans S K (m.stuck q) else on i m rest ii ans (Bn S undef i 6 j 0 0) K (m.woke q):=rfl
theorem on_KK (i:Nat) (m:Mc) (rest:List Cl) (ii:Nat) (ans:List (Int×Int)) (S:TS) (K:List (Nat×Int)) (x:Nx):(on i m rest ii ans S K x).2.1=K:=by
 cases x with
 |ans e x=>rfl
 |turn op j q=>rfl
 |wait j q=>rfl
def PhAt (m:Mc):Ph->Prop
 |.turn _ j q _ _ _=>m.at_ q j
 |_=>True
def NxAt (m:Mc):Nx->Prop
 |.turn _ j q=>m.at_ q j
 |_=>True
theorem stuck_at (m:Mc) (q:Q):NxAt m (m.stuck q):=by
 cases h:m.stuck q with
 |ans e x=>trivial
 |turn op j q'=>exact m.atU q op j q' h
 |wait j q'=>trivial
theorem set_at {m:Mc}{s:Bool}{x:Nx}(h:NxAt m x):NxAt m (m.set s x):=by
 cases x with
 |ans e x=>exact h
 |turn op j q=>exact h
 |wait j q =>
  cases s with
  |false=>trivial
  |true=>exact stuck_at m q
theorem start_at (m:Mc) (i:Nat) (c:Cl):NxAt m (m.start i c):=by
 cases h:m.start i c with
 |ans e x=>trivial
 |turn op j q=>exact m.atS i c op j q h
 |wait j q=>trivial
theorem flow_at (i:Nat) (m:Mc):∀ (rest:List Cl) (ii:Nat) (sk:Bool) (ans:List (Int×Int)) (S:TS),PhAt m (flow i m rest ii sk ans S).2
 | [],ii,sk,ans,S=>by unfold flow;trivial
 |c :: rest,ii,true,ans,S=>by unfold flow;exact flow_at i m rest (ii+1) true _ S
 |c :: rest,ii,false,ans,S=>by
  have hs:=set_at (s:=S.stk) (start_at m i c)
  unfold flow
  split
  ·exact flow_at i m rest (ii+1) _ _ _
  ·rename_i h
   rw[h] at hs
   exact hs
  ·trivial
theorem on_at {i:Nat}{m:Mc}{rest:List Cl}{ii:Nat}{ans:List (Int×Int)}{S:TS}{K:List (Nat×Int)}{x:Nx}(h:NxAt m x):PhAt m (on i m rest ii ans S K x).2.2:=by
 cases x with
 |ans e x=>exact flow_at i m _ _ _ _ _
 |turn op j q=>exact h
 |wait j q=>trivial
theorem resume_at {i:Nat}{m:Mc}{l:Ph}{S:TS}{K:List (Nat×Int)}(hl:PhAt m l) (hK:KOk m K):PhAt m (resume i m l S K).2.2:=by
 cases l with
 |done a=>exact hl
 |turn op j q rest ii ans =>
  rw[F3]
  refine on_at (set_at ?_)
  have hx:m.ok j (cellAt K j).2:=by
   unfold cellAt
   cases h:K[j]? with
   |none=>exact m.ok0 j
   |some p=>exact hK j p h
  cases h:(m.turn q (cellAt K j).2).2.2 with
  |ans e x=>trivial
  |turn op' j' q'=>exact m.atT q j _ op' j' q' hl hx h
  |wait j' q'=>trivial
 |wait j q rest ii ans =>
  rw[F2]
  split
  ·exact on_at (stuck_at m q)
  ·refine on_at ?_
   cases h:m.woke q with
   |ans e x=>trivial
   |turn op' j' q'=>exact m.atW q op' j' q' h
   |wait j' q'=>trivial
theorem resume_kok {i:Nat}{m:Mc}{l:Ph}{S:TS}{K:List (Nat×Int)}(hl:PhAt m l) (h:KOk m K):KOk m (resume i m l S K).2.1:=by
 cases l with
 |done a=>exact h
 |turn op j q rest ii ans =>
  rw[F3,on_KK]
  exact h.set j q hl _
 |wait j q rest ii ans =>
  rw[F2]
  split
  ·rw[on_KK];exact h
  ·rw[on_KK];exact h
section
variable {S:TS}{i:Nat}{m:Mc}
theorem Ej {t:Thr}(h:S.thr[i]? = some t):thrI S i=t:=by unfold thrI;rw[h];rfl
theorem nv_did (tv:Value) (t:Thr) (b a:Int):nv (didS S tv i t b a)=didS (nv S) undef i t b a:=by
 show nv (if b≠a∧0≤t.ce∧t.ce<S.chg.length then _ else _)=if b≠a∧0≤t.ce∧t.ce<S.chg.length then _ else _
 split<;>rfl
structure Sta (i:Nat) (S S':TS):Prop where
 wb:S'.wb=S.wb
 bk:S'.bk=S.bk
 base:S'.base=S.base
 us:S'.us=S.us
 la:S'.la=S.la
 sc:S'.sc=S.sc
 cv:S'.cv=S.cv
 ths:S'.ths=S.ths
 sched:S'.sched=S.sched
 stk:S'.stk=S.stk
 ran:S'.ran=S.ran
 n:S.n≤S'.n
 chg:S'.chg.length=S.chg.length
 len:S'.thr.length=S.thr.length
 oth:∀ j,j≠i->S'.thr[j]? = S.thr[j]?
 own:∀ t,S.thr[i]? = some t->∃ t',S'.thr[i]? = some t'∧t'.tb=t.tb∧t'.gc=t.gc
theorem Sta.refl (i:Nat) (S:TS):Sta i S S:=⟨rfl,rfl,rfl,rfl,rfl,rfl,rfl,rfl,rfl,rfl,rfl,Nat.le_refl _,rfl,rfl,fun _ _=>rfl,fun t h=>⟨t,h,rfl,rfl⟩⟩
theorem Sta.trans {S S' S'':TS}(h:Sta i S S') (k:Sta i S' S''):Sta i S S'':=by
 refine ⟨k.wb.trans h.wb,k.bk.trans h.bk,k.base.trans h.base,k.us.trans h.us,k.la.trans h.la,k.sc.trans h.sc,k.cv.trans h.cv,k.ths.trans h.ths,k.sched.trans h.sched,k.stk.trans h.stk,k.ran.trans h.ran,Nat.le_trans h.n k.n,k.chg.trans h.chg,k.len.trans h.len,fun j hj=>(k.oth j hj).trans (h.oth j hj),fun t ht=>?_⟩
 obtain ⟨t1,h1,h2,h3⟩:=h.own t ht
 obtain ⟨t2,k1,k2,k3⟩:=k.own t1 h1
 exact ⟨t2,k1,k2.trans h2,k3.trans h3⟩
theorem Fz (S:TS) (tv:Value) (op ce ol ne:Int):Sta i S (Bn S tv i op ce ol ne):=⟨rfl,rfl,rfl,rfl,rfl,rfl,rfl,rfl,rfl,rfl,rfl,Nat.le_succ _,rfl,rfl,fun _ _=>rfl,fun t h=>⟨t,h,rfl,rfl⟩⟩
theorem sta_set (S:TS) (t':Thr) (h1:∀ t,S.thr[i]? = some t->t'.tb=t.tb∧t'.gc=t.gc):Sta i S { S with thr:=S.thr.set i t' }:=by
 refine ⟨rfl,rfl,rfl,rfl,rfl,rfl,rfl,rfl,rfl,rfl,rfl,Nat.le_refl _,rfl,by simp,fun j hj=>?_,fun t h=>⟨t',?_,h1 t h⟩⟩
 ·show (S.thr.set i t')[j]? = _
  rw[List.getElem?_set,if_neg (fun e=>hj e.symm)]
 ·have hi:i<S.thr.length:=(List.getElem?_eq_some_iff.1 h).1
  show (S.thr.set i t')[i]? = _
  rw[List.getElem?_set,if_pos rfl,if_pos hi]
theorem sta_wait (S:TS) (s o c:Int):Sta i S (waiting S i (thrI S i) s o c):=sta_set S _ (fun t h=>by rw[Ej h];exact ⟨rfl,rfl⟩)
theorem sta_ended (S:TS):Sta i S (ended S i (thrI S i)):=sta_set S _ (fun t h=>by rw[Ej h];exact ⟨rfl,rfl⟩)
theorem sta_did (S:TS) (tv:Value) (t:Thr) (b a:Int):Sta i S (didS S tv i t b a):=by
 unfold didS
 split
 ·exact ⟨rfl,rfl,rfl,rfl,rfl,rfl,rfl,rfl,rfl,rfl,rfl,Nat.le_succ _,by simp[counted,Bn],rfl,fun _ _=>rfl,fun t h=>⟨t,h,rfl,rfl⟩⟩
 ·exact Fz _ _ _ _ _ _
theorem sta_notes:∀ (l:List (Int×Int×Int)) (S:TS),Sta i S (H9 i l S)
 | [],S=>Sta.refl i S
 |n :: l,S=>(Fz S undef n.1 (-1) n.2.1 n.2.2).trans (sta_notes l _)
theorem notes_n:∀ (l:List (Int×Int×Int)) (S:TS),(H9 i l S).n=S.n+l.length
 | [],S=>rfl
 |n :: l,S=>by
  show (H9 i l (Bn S undef i n.1 (-1) n.2.1 n.2.2)).n=_
  rw[notes_n l,List.length_cons]
  show S.n+1+l.length=_
  omega
theorem Hj:∀ (l:List (Int×Int×Int)) (S:TS),(H9 i l S).thr=S.thr∧(H9 i l S).bk=S.bk∧(H9 i l S).chg=S.chg∧(H9 i l S).stk=S.stk
 | [],S=>⟨rfl,rfl,rfl,rfl⟩
 |n :: l,S=>Hj l (Bn S undef i n.1 (-1) n.2.1 n.2.2)
theorem Gj (i:Nat) (m:Mc):∀ (rest:List Cl) (ii:Nat) (sk:Bool) (ans:List (Int×Int)) (S:TS),Sta i S (flow i m rest ii sk ans S).1
 | [],ii,sk,ans,S=>by cases sk<;>exact sta_ended S
 |c :: rest,ii,true,ans,S=>Gj i m rest (ii+1) true _ S
 |c :: rest,ii,false,ans,S=>by
  unfold flow
  split
  ·exact ((Fz S _ _ _ _ _).trans (Fz _ _ _ _ _ _)).trans (Gj i m rest (ii+1) _ _ _)
  ·exact (Fz S _ _ _ _ _).trans (sta_wait (Bn S undef i 9 (-1) ii 0) _ _ _)
  ·exact (Fz S _ _ _ _ _).trans (sta_wait (Bn S undef i 9 (-1) ii 0) _ _ _)
theorem back_sta (rest:List Cl) (ii:Nat) (ans:List (Int×Int)) (a:Int×Int) (K:List (Nat×Int)) (S:TS):Sta i S (back i m rest ii ans a S K).1 :=
 (Fz S _ _ _ _ _).trans (Gj i m rest (ii+1) _ _ _)
theorem on_sta (rest:List Cl) (ii:Nat) (ans:List (Int×Int)) (K:List (Nat×Int)) (S:TS) (x:Nx):Sta i S (on i m rest ii ans S K x).1:=by
 cases x with
 |ans e x=>exact back_sta _ _ _ _ _ _
 |turn op j q=>exact sta_wait S _ _ _
 |wait j q=>exact sta_wait S _ _ _
theorem Fj (i:Nat) (m:Mc) (l:Ph) (S:TS) (K:List (Nat×Int)):Sta i S (resume i m l S K).1:=by
 match l with
 |.done ans=>exact Sta.refl _ _
 |.turn op j q rest ii ans=>exact ((sta_did S _ _ _ _).trans (sta_notes _ _)).trans (on_sta _ _ _ _ _ _)
 |.wait j q rest ii ans =>
  rw[F2]
  split
  ·exact on_sta _ _ _ _ _ _
  ·exact (Fz S _ _ _ _ _).trans (on_sta _ _ _ _ _ _)
end
def arow (ans:List (Int×Int)):List Value:=ans.flatMap fun a=>[I a.1,I a.2]
theorem arow_len (ans:List (Int×Int)):(arow ans).length=ans.length*2:=by
 induction ans with
 |nil=>rfl
 |cons a l ih=>simp only[arow,List.flatMap_cons,List.length_append,List.length_cons,List.length_nil] at ih ⊢;omega
theorem arow_get:∀ (ans:List (Int×Int)) (k:Nat) (a:Int×Int),ans[k]? = some a->(arow ans)[k*2]? = some (I a.1)∧(arow ans)[k*2+1]? = some (I a.2)
 |b :: l,0,a,h=>by obtain rfl:b=a:=by simpa using h
                   exact ⟨rfl,rfl⟩
 |b :: l,k+1,a,h=>by
  have:=arow_get l k a (by simpa using h)
  have e:arow (b :: l)=I b.1 :: I b.2 :: arow l:=rfl
  rw[e,show (k+1)*2=(k*2+1)+1 by omega,show (k*2+1)+1+1=(k*2+1+1)+1 by omega]
  simpa using this
theorem arow_set:∀ (ans:List (Int×Int)) (k:Nat) (e x:Int),k<ans.length->arow (ans.set k (e,x))=((arow ans).set (k*2) (I e)).set (k*2+1) (I x)
 |b :: l,0,e,x,_=>rfl
 |b :: l,k+1,e,x,h=>by
  have:=arow_set l k e x (by simpa using h)
  have e1:∀ (b:Int×Int) (l:List (Int×Int)),arow (b :: l)=I b.1 :: I b.2 :: arow l:=fun _ _=>rfl
  rw[List.set_cons_succ,e1,this,e1,show (k+1)*2=(k*2+1)+1 by omega,show (k*2+1)+1+1=(k*2+1+1)+1 by omega]
  simp only[List.set_cons_succ]
variable {mc:Mc}
def roOf:Option Addr->Nat
 |some a=>a.off
 |none=>0
structure Fix (mc:Mc) where
 h:Nat
 i:Nat
 tb:Nat
 gc:Nat
 bb:Nat
 calls:List Cl
 pc:Option Addr
 rb:Nat
 cap:Nat
 asl:Value
 ab:Nat
 cap2:Nat
 aty:TypeId
 fid:FuncId
 caps:Array Value
 pk:Nat->Option Obj
 kb:List Nat
namespace Fix
def csl (X:Fix mc):Value:=.slice X.pc X.calls.length X.cap
abbrev ro (X:Fix mc):Nat:=roOf X.pc
abbrev F (X:Fix mc):Value:=.func (.func X.fid) (mc.bn X.caps) (mc.fr X.caps)
abbrev Pr (X:Fix mc) (b:Nat):Prop:=b=X.bb∨b=X.rb∨b=X.ab∨X.pk b≠none
structure Ok (X:Fix mc):Prop where
 h:0<X.h
 n:(X.calls.length:Int)<9223372036854775808
 ca:∀ c∈X.calls,-9223372036854775808≤c.ca∧c.ca<9223372036854775808
 pc:0<X.calls.length->X.pc=some ⟨X.rb,X.ro,none⟩
 asl:0<X.calls.length->X.asl=.slice (some ⟨X.ab,0,none⟩) X.calls.length X.cap2
 e0:X.calls.length=0->X.rb=X.bb∧X.ab=X.bb
 ne:0<X.calls.length->X.ab≠X.bb∧X.ab≠X.rb∧X.pk X.ab=none
 pk:∀ b o,X.pk b=some o->∃ c e f,o=.cells c e f
end Fix
def Kb (X:Fix mc) (K:List (Nat×Int)):Prop:=K.map (·.1)=X.kb∧KOk mc K
def Has (M:Nat->Option Obj) (v:World):Prop:=∀ b o,M b=some o->v.heap[b]? = some o
structure PM (X:Fix mc) (ans:List (Int×Int)) (v:World):Prop where
 box:v.cell? ⟨X.bb,0,none⟩=some (Pt X.tb 0)
 call:∀ (k:Nat) (c:Cl),X.calls[k]? = some c->v.cell? ⟨X.rb,X.ro+k*4,none⟩=some (I c.po)∧v.cell? ⟨X.rb,X.ro+k*4+1,none⟩=some (I c.ca)∧v.cell? ⟨X.rb,X.ro+k*4+2,none⟩=some (I c.cb)∧v.cell? ⟨X.rb,X.ro+k*4+3,none⟩=some (I c.cc)
 row:0<X.calls.length->v.heap[X.ab]? = some (.cells (arow ans).toArray X.aty (0,0))
 len:ans.length=X.calls.length
 pk:Has X.pk v
theorem PM.stay {X:Fix mc}{ans:List (Int×Int)}{v v':World}(h:PM X ans v) (hs:∀ b,X.Pr b->v'.heap[b]? = v.heap[b]?):PM X ans v':=by
 have hc:∀ (a:Addr) (x:Value),X.Pr a.block->v.cell? a=some x->v'.cell? a=some x:=fun a x hb ha=>by rw[World.cell?_of_block (hs a.block hb)];exact ha
 refine ⟨hc _ _ (.inl rfl) h.box,fun k c hk=>?_,fun h0=>by rw[hs X.ab (.inr (.inr (.inl rfl)))];exact h.row h0,h.len,fun b o hb=>by rw[hs b (.inr (.inr (.inr (by rw[hb];simp))))];exact h.pk b o hb⟩
 have:=h.call k c hk
 exact ⟨hc _ _ (.inr (.inl rfl)) this.1,hc _ _ (.inr (.inl rfl)) this.2.1,hc _ _ (.inr (.inl rfl)) this.2.2.1,hc _ _ (.inr (.inl rfl)) this.2.2.2⟩
structure Sees (X:Fix mc) (E:Nat->Prop) (M:Nat->Option Obj) (ans:List (Int×Int)):Prop where
 ex:∀ b,E b->M b≠none
 dom:∀ b,M b≠none->X.Pr b∨E b
 apart:∀ b,E b->¬ X.Pr b
 pm:∀ v,Has M v->PM X ans v
 pr:∀ b,X.Pr b->M b≠none
 row:∀ b o,M b=some o->∃ c e f,o=.cells c e f
def Gv (X:Fix mc) (z:Nat->Option Nat) (Ch:Nat->Prop) (S:TS) (K:List (Nat×Int)) (v:World) (E:Nat->Prop) (σ:TS) (κ:List (Nat×Int)) (M':Nat->Option Obj) (w':World):Prop :=
 ∃ v' S',Rel z v' w'∧Ah Ch v'∧nv S'=σ∧EvoP (fun b=>b=X.ab∨E b) z S K v S' κ v'∧Has M' v'∧∀ b,M' b≠none->¬ Own S' κ b
noncomputable def seatOf (X:Fix mc) (Hm:Ph->(Nat->Prop)->(Nat->Option Obj)->Goroutine->Prop):Ph->(Nat->Prop)->(Nat->Option Obj)->Option Seat
 |.done _,_,_=>none
 |l,E,M=>some (seatT X.gc (Hm l E M))
def Gives (X:Fix mc) (Hm:Ph->(Nat->Prop)->(Nat->Option Obj)->Goroutine->Prop) (z:Nat->Option Nat) (cont:Addr->Value) (Ch:Nat->Prop) (S:TS) (K:List (Nat×Int)) (v:World) (E:Nat->Prop) (σ:TS) (κ:List (Nat×Int)) (l':Ph) (E':Nat->Prop) (M':Nat->Option Obj) (g':Goroutine) (w':World):Prop :=
 Sees X E' M' l'.ans∧(∀ b,E' b->E b∨v.heap.size≤b)∧Lift.AtGive Tryd.prog (KC (ScZ z) cont) (Fv (ScZ z)) X.h S.bk (.agg #[]) (seatOf X Hm l' E' M') (Gv X z Ch S K v E σ κ M') g' w'
def Fits (X:Fix mc):Ph->Thr->Prop
 |.turn op j _ _ _ _,t=>t.op=op∧t.ce=j
 |_,_=>True
def Home (X:Fix mc):Nat->Ph->(Nat->Prop)->(Nat->Option Obj)->Goroutine->Prop
 |0,_,_,_,_=>True
 |n+1,l,E,M,g=>∀ (z:Nat->Option Nat) (Ch:Nat->Prop) (Stop:Goroutine->World->Prop) (cont:Addr->Value) (y:Value) (w v:World) (S:TS) (K:List (Nat×Int)) (t:Thr),Rel z v w->Ah Ch v->Mem z S K v->S.thr[X.i]? = some t->t.tb=X.tb->t.gc=X.gc->Fits X l t->Kb X K->z X.tb=some 2->cont ⟨X.tb,2,none⟩=.chan (some X.gc) ->
    Has M v->(∀ b,M b≠none->¬ Own S K b)->(resume X.i mc l (nv S) K).1.n*40≤140737488355328 ->
    (∀ g' w' E' M',Gives X (Home X n) z cont Ch S K v E (resume X.i mc l (nv S) K).1 (resume X.i mc l (nv S) K).2.1 (resume X.i mc l (nv S) K).2.2 E' M' g' w'->Stop g' w') ->
    GoesI Tryd.prog (X.h==0) (DT (ScZ z) Ch) Stop (Go.Conc.served g y) w
theorem Jl {K:World->Prop}{Still:Loc->Prop}{h c:Nat}{v:Value}{o:Option Seat}{F F':World->Prop}{a:Goroutine}{w:World}(hF:F w->F' w) (hg:Lift.AtGive Tryd.prog K Still h c v o F a w):Lift.AtGive Tryd.prog K Still h c v o F' a w :=
 ⟨hg.1,hF hg.2.1,hg.2.2⟩
section
variable {Pr Pr':Nat->Prop}{z:Nat->Option Nat}{S S' S'':TS}{K K' K'':List (Nat×Int)}{v v' v'':World}
theorem _root_.Go.Proofs.YtbbhahigofeacaaDoor.EvoP.join (h:EvoP Pr z S K v S' K' v') (k:EvoP Pr' z S' K' v' S'' K'' v'') (hp:∀ b,Pr' b->Pr b∨v.heap.size≤b):EvoP Pr z S K v S'' K'' v'':=by
 refine ⟨k.mem,k.blks.trans h.blks,⟨k.fr.os.trans h.fr.os,k.fr.output.trans h.fr.output,Nat.le_trans h.fr.size k.fr.size,fun x hx hs=>?_⟩,fun b hb=>?_⟩
 ·rw[k.fr.block x (Nat.lt_of_lt_of_le hx h.fr.size) (fun hi=>?_),h.fr.block x hx hs]
  rcases hi with hi|hi
  ·exact (h.new x hi).elim (fun h=>hs (.inl h)) (fun hle=>by omega)
  ·exact (hp x hi).elim (fun h=>hs (.inr h)) (fun hle=>by omega)
 ·rcases k.new b hb with h1|h1
  ·exact h.new b h1
  ·exact .inr (Nat.le_trans h.fr.size h1)
theorem _root_.Go.Proofs.YtbbhahigofeacaaDoor.EvoP.grows (h:EvoP Pr z S K v S' K' v') {u:World}(g:Grows v' u) (k:EvoP Pr' z S' K' u S'' K'' v'') (hp:∀ b,Pr' b->Pr b∨v.heap.size≤b):EvoP Pr z S K v S'' K'' v'':=by
 refine ⟨k.mem,k.blks.trans h.blks,⟨(k.fr.os.trans g.os).trans h.fr.os,(k.fr.output.trans g.output).trans h.fr.output,Nat.le_trans h.fr.size (Nat.le_trans g.size k.fr.size),fun x hx hs=>?_⟩,fun b hb=>?_⟩
 ·have hx':=Nat.lt_of_lt_of_le hx h.fr.size
  rw[k.fr.block x (Nat.lt_of_lt_of_le hx' g.size) (fun hi=>?_),g.old x hx',h.fr.block x hx hs]
  rcases hi with hi|hi
  ·exact (h.new x hi).elim (fun h=>hs (.inl h)) (fun hle=>by omega)
  ·exact (hp x hi).elim (fun h=>hs (.inr h)) (fun hle=>by omega)
 ·rcases k.new b hb with h1|h1
  ·exact h.new b h1
  ·exact .inr (Nat.le_trans h.fr.size (Nat.le_trans g.size h1))
theorem _root_.Go.Proofs.YtbbhahigofeacaaDoor.EvoP.keeps (h:EvoP Pr z S K v S' K' v') {b:Nat}(hb:b<v.heap.size) (ho:¬ Own S K b) (hp:¬ Pr b):v'.heap[b]? = v.heap[b]?∧¬ Own S' K' b :=
 ⟨h.fr.block b hb (fun hi=>hi.elim ho hp),fun hi=>(h.new b hi).elim ho (fun hle=>by omega)⟩
theorem _root_.Go.Proofs.YtbbhahigofeacaaDoor.Grows.trans' {a b c:World}(h:Grows a b) (k:Grows b c):Grows a c:=⟨Nat.le_trans h.size k.size,fun x hx=>by rw[k.old x (Nat.lt_of_lt_of_le hx h.size),h.old x hx],k.os.trans h.os,k.output.trans h.output⟩
theorem Gives.join {X:Fix mc}{Hm:Ph->(Nat->Prop)->(Nat->Option Obj)->Goroutine->Prop}{cont:Addr->Value}{Ch:Nat->Prop}{E E1 E':Nat->Prop}{M':Nat->Option Obj}{σ:TS}{κ:List (Nat×Int)}{l':Ph}{g':Goroutine}{w':World}
 (h:EvoP (fun b=>b=X.ab∨E b) z S K v S' K' v') (hbk:S'.bk=S.bk) (he:∀ b,E1 b->E b∨v.heap.size≤b) (k:Gives X Hm z cont Ch S' K' v' E1 σ κ l' E' M' g' w'):Gives X Hm z cont Ch S K v E σ κ l' E' M' g' w':=by
 obtain ⟨k1,k2,k3⟩:=k
 rw[hbk] at k3
 refine ⟨k1,fun b hb=>?_,Jl (fun hF=>?_) k3⟩
 ·rcases k2 b hb with h1|h1
  ·exact he b h1
  ·exact .inr (Nat.le_trans h.fr.size h1)
 ·obtain ⟨v2,S2,q1,q2,q3,q4,q5⟩:=hF
  refine ⟨v2,S2,q1,q2,q3,h.join q4 (fun b hb=>?_),q5⟩
  rcases hb with rfl|hb
  ·exact .inl (.inl rfl)
  ·exact (he b hb).imp .inr id
end
def mind (X:Fix mc) (v:World) (b:Nat):Option Obj:=if X.Pr b then v.heap[b]? else none
def Ia (X:Fix mc) (v:World) (Mo:Nat->Option Obj) (b:Nat):Option Obj:=if Mo b≠none then Mo b else mind X v b
def CarryEnds (X:Fix mc) (cs:List Frame):Prop :=
 ∀ (z:Nat->Option Nat) (Ch:Nat->Prop) (Stop:Goroutine->World->Prop) (cont:Addr->Value) (w v:World) (S:TS) (K:List (Nat×Int)) (t:Thr) (sk:Bool) (u:Nat->Value),Rel z v w->Ah Ch v->Mem z S K v->S.thr[X.i]? = some t->t.tb=X.tb->v.cell? ⟨X.bb,0,none⟩=some (Pt X.tb 0)->¬ Own S K X.bb ->
   (∀ g w',GiveE z cont X.h S.bk (Then z Ch S K v (ended S X.i t) K) g w'->Stop g w') ->
   GoesI Tryd.prog (X.h==0) (DT (ScZ z) Ch) Stop (G (cFr X.tb X.csl X.F X.asl X.calls.length X.calls.length sk u) cs) w
def Answers (X:Fix mc) (cs:List Frame) (ii:Nat) (ans:List (Int×Int)) (cu:Value->Goroutine):Prop :=
 ∀ (z:Nat->Option Nat) (Ch:Nat->Prop) (Stop:Goroutine->World->Prop) (w v:World) (S:TS) (K:List (Nat×Int)) (t:Thr) (e x:Int),Rel z v w->Ah Ch v->Mem z S K v->S.thr[X.i]? = some t->t.tb=X.tb->(S.n+1)*40≤140737488355328->PM X ans v->(∀ b,X.Pr b->¬ Own S K b) ->
   (∀ v' w' tv u',Rel z v' w'->Ah Ch v'->EvoP (fun b=>b=X.ab) z S K v (Bn S tv X.i 10 (-1) ii e) K v'->PM X (ans.set ii (e,x)) v'->GoesI Tryd.prog (X.h==0) (DT (ScZ z) Ch) Stop (G (cFr X.tb X.csl X.F X.asl X.calls.length (ii+1) (e==4) u') cs) w') ->
   GoesI Tryd.prog (X.h==0) (DT (ScZ z) Ch) Stop (cu (.agg #[I e,I x])) w
section
variable {X:Fix mc}{ans:List (Int×Int)}{v v':World}
theorem row_of_cell {a:Addr}{x:Value}(h:v.cell? a=some x):∃ c e f,v.heap[a.block]? = some (.cells c e f):=by
 unfold World.cell? at h
 cases hh:v.heap[a.block]? with
 |none=>rw[hh] at h;cases h
 |some o =>
  rw[hh] at h
  cases o with
  |cells c e f=>exact ⟨c,e,f,rfl⟩
  |_=>cases h
theorem PM.isrow (h:PM X ans v) (ok:X.Ok) {b:Nat}(hb:X.Pr b):∃ c e f,v.heap[b]? = some (.cells c e f):=by
 have hbb:=row_of_cell h.box
 rcases hb with rfl|rfl|rfl|hb
 ·exact hbb
 ·by_cases hc:X.calls.length=0
  ·rw[(ok.e0 hc).1];exact hbb
  ·have h0:0<X.calls.length:=by omega
   exact row_of_cell (h.call 0 (X.calls[0]) (by simp[h0])).1
 ·by_cases hc:X.calls.length=0
  ·rw[(ok.e0 hc).2];exact hbb
  ·exact ⟨_,_,_,h.row (by omega)⟩
 ·obtain ⟨o,ho⟩:=Option.ne_none_iff_exists'.1 hb
  obtain ⟨c,e,f,rfl⟩:=ok.pk b o ho
  exact ⟨c,e,f,h.pk b _ ho⟩
theorem PM.lt (h:PM X ans v) (ok:X.Ok) {b:Nat}(hb:X.Pr b):b<v.heap.size:=by
 obtain ⟨c,e,f,hh⟩:=h.isrow ok hb
 exact (Array.getElem?_eq_some_iff.1 hh).1
theorem mind_row (h:PM X ans v) (ok:X.Ok) {b:Nat}{o:Obj}(hb:mind X v b=some o):∃ c e f,o=.cells c e f:=by
 unfold mind at hb
 split at hb
 ·rename_i hp
  obtain ⟨c,e,f,hh⟩:=h.isrow ok hp
  rw[hh] at hb
  cases hb
  exact ⟨c,e,f,rfl⟩
 ·cases hb
theorem PM.set (h:PM X ans v) {ii:Nat}(hi:ii<X.calls.length) (e x:Int) (hab:v'.heap[X.ab]? = ((v.setCell ⟨X.ab,ii*2,none⟩ (I e)).setCell ⟨X.ab,ii*2+1,none⟩ (I x)).heap[X.ab]?) (hs:∀ b,X.Pr b->b≠X.ab->v'.heap[b]? = v.heap[b]?) (hne:X.ab≠X.bb∧X.ab≠X.rb∧X.pk X.ab=none):PM X (ans.set ii (e,x)) v':=by
 have h0:0<X.calls.length:=by omega
 have hc:∀ (a:Addr) (y:Value),X.Pr a.block->a.block≠X.ab->v.cell? a=some y->v'.cell? a=some y:=fun a y hb hn ha=>by rw[World.cell?_of_block (hs a.block hb hn)];exact ha
 refine ⟨hc _ _ (.inl rfl) (Ne.symm hne.1) h.box,fun k c hk=>?_,fun _=>?_,by simpa using h.len,fun b o hb=>by rw[hs b (.inr (.inr (.inr (by rw[hb];simp)))) (fun e=>by rw[e,hne.2.2] at hb;cases hb)];exact h.pk b o hb⟩
 ·have:=h.call k c hk
  exact ⟨hc _ _ (.inr (.inl rfl)) (Ne.symm hne.2.1) this.1,hc _ _ (.inr (.inl rfl)) (Ne.symm hne.2.1) this.2.1,hc _ _ (.inr (.inl rfl)) (Ne.symm hne.2.1) this.2.2.1,hc _ _ (.inr (.inl rfl)) (Ne.symm hne.2.1) this.2.2.2⟩
 ·rw[hab,heap_setCell_same (heap_setCell_same (h.row h0) (I e)) (I x),arow_set _ _ _ _ (by rw[h.len];exact hi)]
  simp
theorem PM.cells (h:PM X ans v) {ii:Nat}(hi:ii<X.calls.length):∃ y0 y1,v.cell? ⟨X.ab,ii*2,none⟩=some (I y0)∧v.cell? ⟨X.ab,ii*2+1,none⟩=some (I y1)∧v.frozen? ⟨X.ab,ii*2,none⟩=false∧v.frozen? ⟨X.ab,ii*2+1,none⟩=false:=by
 have h0:=h.row (by omega)
 have hl:ii<ans.length:=by rw[h.len];exact hi
 have:=arow_get ans ii ans[ii] (by simp[hl])
 refine ⟨ans[ii].1,ans[ii].2,?_,?_,?_,?_⟩
 ·simp[World.cell?,h0,this.1]
 ·simp[World.cell?,h0,this.2]
 ·simp[World.frozen?,h0]
 ·simp[World.frozen?,h0]
theorem has_mind (hl:∀ b,X.Pr b->b<v.heap.size) {M:Nat->Option Obj}(hM:∀ b o,mind X v b=some o->M b=some o) (h:Has M v'):∀ b,X.Pr b->v'.heap[b]? = v.heap[b]?:=fun b hb=>by
 have e:v.heap[b]? = some v.heap[b]!:=by simp[hl b hb]
 rw[e]
 exact h b _ (hM b _ (by unfold mind;rw[if_pos hb,e]))
theorem sees_mind (h:PM X ans v) (ok:X.Ok):Sees X (fun _=>False) (mind X v) ans:=by
 refine ⟨fun _ h=>h.elim,fun b hb=>?_,fun _ h=>h.elim,fun v' hM=>h.stay (has_mind (fun b hb=>h.lt ok hb) (fun _ _ h=>h) hM),fun b hb=>?_,fun b o hb=>mind_row h ok hb⟩
 ·unfold mind at hb
  split at hb
  ·exact .inl ‹_›
  ·exact absurd rfl hb
 ·unfold mind
  rw[if_pos hb]
  simp[h.lt ok hb]
theorem sees_mindO (h:PM X ans v) (ok:X.Ok) {Mo:Nat->Option Obj}(h1:∀ b,Mo b≠none->¬ X.Pr b) (h2:∀ b o,Mo b=some o->∃ c e f,o=.cells c e f):Sees X (fun b=>Mo b≠none) (Ia X v Mo) ans:=by
 refine ⟨fun b hb=>?_,fun b hb=>?_,fun b hb hp=>h1 b hb hp,fun v' hM=>h.stay (has_mind (fun b hb=>h.lt ok hb) (fun b o hb=>?_) hM),fun b hb=>?_,fun b o hb=>?_⟩
 ·unfold Ia;rw[if_pos hb];exact hb
 ·unfold Ia at hb
  split at hb
  ·exact .inr ‹_›
  ·unfold mind at hb
   split at hb
   ·exact .inl ‹_›
   ·exact absurd rfl hb
 ·unfold Ia
  have hpr:X.Pr b:=by
   unfold mind at hb
   split at hb
   ·assumption
   ·cases hb
  rw[if_neg (fun e=>h1 b e hpr)]
  exact hb
 ·unfold Ia mind
  rw[if_neg (fun e=>h1 b e hb),if_pos hb]
  simp[h.lt ok hb]
 ·unfold Ia at hb
  split at hb
  ·exact h2 b o hb
  ·exact mind_row h ok hb
end
end Go.Proofs.YtbbhahigofeacaaDoor.Gen
namespace Go.Proofs.YtbbhahigofeacaaDoor
open Go Go.Lift Go.Conc Go.RowKit
theorem und55:∃ dir e i,Tryd.prog.underlying 74=some (.chan dir e)∧Tryd.prog.info? e=some i∧i.bytes=0:=by
 have h:((Tryd.prog.underlying 74).map fun t=>match t with|.chan d e=>((Tryd.prog.info? e).map fun i=>i.bytes)==some 0|_=>false)=some true:=by kernel_rfl
 cases hu:Tryd.prog.underlying 74 with
 |none=>rw[hu] at h;cases h
 |some t =>
  rw[hu] at h
  cases t with
  |chan d e =>
   simp only[Option.map_some,Option.some.injEq,beq_iff_eq] at h
   obtain ⟨i,hi,hb⟩:=Option.map_eq_some_iff.1 h
   exact ⟨d,e,i,rfl,hi,hb⟩
  |_=>cases h
theorem run_mk (v:World):(Instr.makeChan 74 (.int .i64 0)).run Tryd.prog v=.ok (.chan (some v.heap.size)) (v.alloc (.chan 0 #[] false 0 0 false)):=by
 obtain ⟨d,e,i,h1,h2,h3⟩:=und55
 exact run_makeChan h1 h2 .i64 0 (by decide) (by rw[h3];decide)
noncomputable def B35:Code:=Tryd.f61.body.getD .skip
noncomputable def HL:Code:=Ar (Ak (seq2 (seq1 (seq2 (seq2 (seq2 B35))))))
noncomputable def D35:Code:=seq2 (seq2 (seq2 (seq2 B35)))
noncomputable def TL:Code:=Ar (Ak D35)
noncomputable def HB:Code:=Ak (seq1 (seq2 (seq2 HL)))
noncomputable def R18:Code:=seq2 (seq2 (seq2 HL))
noncomputable def hFr (wb:Nat) (bsl:Value) (n ii:Nat) (u:Nat->Value):Frame :=
 (base 61).at ⟨#[Pt wb 0,bsl,undef,undef,u 4,u 5,u 6,u 7,u 8,u 9,u 10,u 11,u 12,u 13,u 14,u 15,u 16,u 17,u 18,u 19,u 20,u 21,u 22,u 23,u 24,u 25,u 26,u 27,u 28,u 29,bsl]++#[I n,I ii,u 33,u 34,u 35,u 36,u 37,u 38,u 39,u 40,u 41,u 42,u 43,u 44,u 45,u 46,u 47,u 48,u 49,u 50,u 51,u 52,u 53,u 54,u 55,u 56,u 57,u 58,u 59,u 60,u 61],[]⟩ [.code HL,.inLoop HL,.inBlock 2,.code D35]
noncomputable def G5:Array Oper:=opsOf (seq1 (seq2 HB))
noncomputable def R15:Code:=seq2 (seq2 HB)
noncomputable def bFr1 (wb:Nat) (bsl F:Value) (n ii bb gc:Nat) (u:Nat->Value):Frame :=
 (base 61).at ⟨#[Pt wb 0,bsl,undef,undef,u 4,u 5,u 6,I ii,F,u 9,u 10,u 11,u 12,u 13,u 14,u 15,u 16,u 17,u 18,u 19,u 20,u 21,u 22,u 23,u 24,u 25,u 26,u 27,u 28,u 29,bsl]++#[I n,I ii,.bool true,I ii,Pt bb ii,F,Pt wb 0,I ii,.chan (some gc),.agg (trow wb ii gc 0 0 0 0),u 41,u 42,u 43,u 44,u 45,u 46,u 47,u 48,u 49,u 50,u 51,u 52,u 53,u 54,u 55,u 56,u 57,u 58,u 59,u 60,u 61],[]⟩ [.inRegion G5 [4,5],.code R15,.inBlock 3,.code R18,.inLoop HL,.inBlock 2,.code D35]
noncomputable def bFr2 (wb:Nat) (bsl F:Value) (n ii bb gc tb:Nat) (u:Nat->Value):Frame :=
 (base 61).at ⟨#[Pt wb 0,bsl,undef,undef,u 4,u 5,u 6,I ii,F,u 9,u 10,u 11,u 12,u 13,u 14,u 15,u 16,u 17,u 18,u 19,u 20,u 21,u 22,u 23,u 24,u 25,u 26,u 27,u 28,u 29,bsl]++#[I n,I ii,.bool true,I ii,Pt bb ii,F,Pt wb 0,I ii,.chan (some gc),.agg (trow wb ii gc 0 0 0 0),Pt tb 0,u 42,u 43,u 44,u 45,u 46,u 47,u 48,u 49,u 50,u 51,u 52,u 53,u 54,u 55,u 56,u 57,u 58,u 59,u 60,u 61],[]⟩ [.inRegion G5 [5],.code R15,.inBlock 3,.code R18,.inLoop HL,.inBlock 2,.code D35]
theorem hire_a {z:Nat->Option Nat}{Ch:Nat->Prop}{Stop:Goroutine->World->Prop}{main:Bool}{v w:World}{wb:Nat}(F:Value) (bb n cap ii:Nat) (u:Nat->Value) (cs:List Frame) (hi:ii<n)
 (h1:v.cell? ⟨bb,ii,none⟩=some F) (hvw:Rel z v w) (hn:Ah Ch v)
 (hk:∀ v' w' u',Rel z v' w'->Ah Ch v'->v'={ v with heap:=v.heap.push (.chan 0 #[] false 0 0 false) }->GoesI Tryd.prog main (DT (ScZ z) Ch) Stop (G (bFr1 wb (.slice (some ⟨bb,0,none⟩) n cap) F n ii bb v.heap.size u') cs) w') :
 GoesI Tryd.prog main (DT (ScZ z) Ch) Stop (G (hFr wb (.slice (some ⟨bb,0,none⟩) n cap) n ii u) cs) w:=by
 have hi':(ii:Int)<(n:Int):=by omega
 have e0:w.cell? ⟨bb,ii,none⟩=some F:=by rw[hvw.cell?];exact h1
 have hk:=hk { v with heap:=v.heap.push (.chan 0 #[] false 0 0 false) }
 unfold hFr HL B35 Tryd.f61 seq2 seq1 Ak Ar
 simp only[Option.getD_some,List.append_toArray,List.cons_append,List.nil_append]
 refine Ac (Aa _ _) ?_
 refine Ae (Aa _ _) ?_
 simp only[List.size_toArray,List.length_cons,List.length_nil,Nat.reduceAdd,Nat.zero_add,List.range,List.range.loop]
 iterate 1
  (refine Ad rfl rfl (by decide) (fun d K hK=>?_)
   go_simp
   refine hK _ _ ⟨Af (fun e he=>?_),GoesI.at ?_ d⟩
   ·have hm:=mem_listed he
    simp[go_sem, *] at hm
    try exact ⟨_,_,hm⟩
   clear hK K)
 refine Ab (Aa _ _) ?_
 refine Ac (Aa _ _) ?_
 refine Ax (Aa _ _) (t:=true) rfl ?_
 simp only[if_true,if_false,Bool.false_eq_true]
 refine Bh (Aa _ _) ?_
 refine Ac (Aa _ _) ?_
 refine Bm (Aa _ _) ?_
 refine Ac (Aa _ _) ?_
 refine Ae (Aa _ _) ?_
 simp only[List.size_toArray,List.length_cons,List.length_nil,Nat.reduceAdd,Nat.zero_add,List.range,List.range.loop]
 iterate 5
  (refine Ad rfl rfl (by decide) (fun d K hK=>?_)
   go_simp
   refine hK _ _ ⟨Af (fun e he=>?_),GoesI.at ?_ d⟩
   ·have hm:=mem_listed he
    simp[go_sem, *] at hm
    try exact ⟨_,_,hm⟩
   clear hK K)
 refine Ab (Aa _ _) ?_
 refine Ac (Aa _ _) ?_
 refine Ae (Aa _ _) ?_
 simp only[List.size_toArray,List.length_cons,List.length_nil,Nat.reduceAdd,Nat.zero_add,List.range,List.range.loop]
 iterate 2
  (refine Ad rfl rfl (by decide) (fun d K hK=>?_)
   go_simp
   refine hK _ _ ⟨Af (fun e he=>?_),GoesI.at ?_ d⟩
   ·have hm:=mem_listed he
    simp[go_sem, *] at hm
    try exact ⟨_,_,hm⟩
   clear hK K)
 clear e0 hi'
 refine B9 (L:=LT) rfl rfl (by decide) (Bg Ci extT (by kernel_rfl)) hvw hn (v':={ v with heap:=v.heap.push (.chan 0 #[] false 0 0 false) }) (x:=.chan (some v.heap.size)) (by go_simp;rw[run_mk];rfl) rfl (fun w2 hr2 hn2=>?_)
 iterate 1
  (refine Ad rfl rfl (by decide) (fun d K hK=>?_)
   go_simp
   refine hK _ _ ⟨Af (fun e he=>?_),GoesI.at ?_ d⟩
   ·have hm:=mem_listed he
    simp[go_sem, *] at hm
    try exact ⟨_,_,hm⟩
   clear hK K)
 have hk:=hk w2 (fun m=>match m with|7=>I ii|8=>F|m=>u m) hr2 hn2 rfl
 unfold bFr1 R15 R18 HB G5 D35 HL B35 Tryd.f61 seq2 seq1 Ak Ar opsOf at hk
 simp only[Option.getD_some,List.append_toArray,List.cons_append,List.nil_append] at hk
 exact hk
noncomputable def r15:Code:=seq1 R15
noncomputable def R1617:Code:=seq2 R15
theorem fineR15:A7 Tryd.prog true LT r15:=Dc Ci extT (by kernel_rfl)
def Hv (wb:Nat) (tv:Value) (n base:Nat) (xs:List Value) (x:Value) (w w':World):Prop :=
 ∃ g cap,(∀ c t f,w.heap[wb]? = some (.cells c t f)->w'.heap[wb]? = some (.cells (c.setIfInBounds 4 (.slice (some ⟨g,0,none⟩) (n+1) cap)) t f)) ∧
   w'.ownsRow base 52 1 (.slice (some ⟨g,0,none⟩) (n+1) cap) (n+1) (xs++[x])∧(tv.ownBlock=some g∨w.heap.size≤g)∧Fr (fun b=>b=wb∨some b=tv.ownBlock) w w'
theorem threaded_of {wb:Nat}{tv x:Value}{n base:Nat}{xs:List Value}{w u w6:World}{g cap:Nat}(hb:Below w.heap.size w u) (hw:wb<w.heap.size) (hg:u.grownBy w6 tv.ownBlock) (hown:w6.ownsRow base 52 1 (.slice (some ⟨g,0,none⟩) (n+1) cap) (n+1) (xs++[x]))
 (hat:tv.ownBlock=some g∨g=u.heap.size) (hne:tv.ownBlock≠some wb):Hv wb tv n base xs x w (w6.setCell ⟨wb,4,none⟩ (.slice (some ⟨g,0,none⟩) (n+1) cap)):=by
 have hgw:g≠wb:=by
  rcases hat with h|h
  ·exact fun e=>hne (by rw[h,e])
  ·have:=hb.size;omega
 have e6:w6.heap[wb]? = w.heap[wb]?:=(hg.block wb (Nat.lt_of_lt_of_le hw hb.size) (Ne.symm hne)).trans (hb.block wb hw)
 refine ⟨g,cap,fun c t f h=>heap_setCell_same (by rw[e6];exact h) _,own_set hown _ _ (fun e=>hgw (Option.some.inj e)),?_,?_⟩
 ·rcases hat with h|h
  ·exact .inl h
  ·exact .inr (by have:=hb.size;omega)
 ·refine ⟨by show w6.os=_;rw[hg.os,hb.os],by show w6.output=_;rw[hg.output,hb.output],?_,fun b hlt hs=>?_⟩
  ·have:=hb.size
   have:=hg.size
   simp only[World.setCell,Array.size_modify]
   omega
  ·rw[Below.heap_setCell _ _ _ _ (fun e=>hs (.inl e)),hg.block b (Nat.lt_of_lt_of_le hlt hb.size) (fun e=>hs (.inr e)),hb.block b hlt]
theorem keep2g {u u':World}{row:Option Nat}{a:Addr}{x:Value}(h:u.cell? a=some x∧u.frozen? a=false) (hg:u.grownBy u' row) (hr:row≠some a.block):u'.cell? a=some x∧u'.frozen? a=false:=by
 obtain ⟨_,_,h3,h4⟩:=keep4g (a1:=a) (a2:=a) ⟨h.1,h.1,h.1,h.2⟩ hg hr hr hr
 exact ⟨h3,h4⟩
theorem r15_wp {v:World}(wb n ii bb gc tb:Nat) (bsl F tv:Value) (k base:Nat) (xs:List Value) (u:Nat->Value) (h4:v.cell? ⟨wb,4,none⟩=some tv) (hf:v.frozen? ⟨wb,4,none⟩=false) (hown:v.ownsRow base 52 1 tv k xs) (hne:tv.ownBlock≠some wb) (hk:(k+1)*8≤140737488355328) (hbase:base≤v.heap.size) :
 r15.wp Tryd.prog (fun e a w'=>e=.normal∧(∃ u:Nat->Value,a={ tmps:=#[Pt wb 0,bsl,undef,undef,u 4,u 5,u 6,I ii,F,Pt tb 0,u 10,u 11,u 12,u 13,u 14,u 15,u 16,u 17,u 18,u 19,u 20,u 21,u 22,u 23,u 24,u 25,u 26,u 27,u 28,u 29,bsl]++#[I n,I ii,.bool true,I ii,Pt bb ii,F,Pt wb 0,I ii,.chan (some gc),.agg (trow wb ii gc 0 0 0 0),Pt tb 0,u 42,u 43,u 44,u 45,u 46,u 47,u 48,u 49,u 50,u 51,u 52,u 53,u 54,u 55,u 56,u 57,u 58,u 59,u 60,u 61],defers:=[] })∧Hv wb tv k base xs (Pt tb 0) v w') { tmps:=#[Pt wb 0,bsl,undef,undef,u 4,u 5,u 6,I ii,F,Pt tb 0,u 10,u 11,u 12,u 13,u 14,u 15,u 16,u 17,u 18,u 19,u 20,u 21,u 22,u 23,u 24,u 25,u 26,u 27,u 28,u 29,bsl]++#[I n,I ii,.bool true,I ii,Pt bb ii,F,Pt wb 0,I ii,.chan (some gc),.agg (trow wb ii gc 0 0 0 0),Pt tb 0,u 42,u 43,u 44,u 45,u 46,u 47,u 48,u 49,u 50,u 51,u 52,u 53,u 54,u 55,u 56,u 57,u 58,u 59,u 60,u 61],defers:=[] } v:=by
 have q4:wb<v.heap.size:=World.block_lt_of_cell? _ _ h4
 obtain ⟨tp,tc,htv⟩:=E8 hown
 have HO:Hid (v.ownsRow base 52 1 (.slice tp k tc) k xs):=⟨by rw[←htv];exact hown⟩
 have n1:(Value.slice tp k tc).ownBlock≠some wb:=by rw[←htv];exact hne
 have HT:Hid (tv=.slice tp k tc):=⟨htv⟩
 rw[htv] at h4
 clear hown htv hne
 obtain ⟨j0,hj,hj0,hj1,hj2⟩:=info_parts info46
 have hne:wb≠v.heap.size:=by omega
 have hne':v.heap.size≠wb:=by omega
 have K4:Hid (v.cell? ⟨wb,4,none⟩=some (.slice tp k tc)∧v.frozen? ⟨wb,4,none⟩=false):=⟨⟨h4,hf⟩⟩
 show Code.wp Tryd.prog r15 _ _ _
 unfold r15 R15 HB HL B35 Tryd.f61 seq1 seq2 Ak Ar
 simp only[Option.getD_some,List.append_toArray,List.cons_append,List.nil_append]
 go_wp2_with (first
  |(refine wpList_append_lies _ rfl (.tmp 46) (.tmp 48) 75 rfl base 52 j0 _ 1 8 Tryd.underlying75 hj hj0 hj1 hj2 rfl (by decide) (.slice tp k tc) k xs rfl (F5 (Br (Below.refl _ _) _) HO.out) ⟨_,0,none⟩ 1 1 [Pt tb 0] rfl rfl (news1 _ _ _) (one1 _) (by decide) (by unfold maxLen;omega) (by omega) (by simp;omega) _ rfl ?_
    intro g cpg w6 hown6 hgrow6 hat6 hlt6
    obtain ⟨k5,k6⟩:=keep2g ⟨kcell (Br (Below.refl _ _) _) K4.out.1,by rw[(Br (Below.refl _ _) _).frozen q4];exact K4.out.2⟩ hgrow6 n1))
 refine ⟨⟨fun m=>match m with|42=>Pt wb 0|43=>Pt wb 0|44=>Pt wb 0|45=>Pt wb 4|46=>.slice tp k tc|47=>Pt tb 0|48=>.slice (some ⟨v.heap.size,0,none⟩) 1 1|49=>.slice (some ⟨g,0,none⟩) (k+1) cpg|50=>Pt wb 0|51=>Pt wb 4|m=>u m,by simp⟩,?_⟩
 ·rw[HT.out]
  exact threaded_of (Br (Below.refl _ _) _) q4 hgrow6 hown6 hat6 n1
end Go.Proofs.YtbbhahigofeacaaDoor
namespace Go.Lift
open Go.Conc
theorem hire_at {P:Program}{K:World->Prop}{Still:Loc->Prop}{h:Nat}{o:Option Seat}{F:Goroutine->World->Prop}{b:Frame}{a:Act}{kk:List Item}{cs:List Frame}{ops:Array Oper}{i:Nat}{rest:List Nat}{op:Oper}{w:World}{d:Deferred}{f:Fn}{c:Array Value}(nh B₀:Nat)
 (ho:ops[i]? = some op) (hw:Region.wanted op (yielded ops a.tmps)=true) (hk:b.kind≠.early) (hr:∀ w,(execOp a.eval op).run P w=.ok (.spawn d) w) (hd:d.target=.fn f c) (he:∀ w,(execOp a.eval op).events P w #[]=#[]) (hF:F (born P d) w) (hB₀:B₀≤w.heap.size)
 (hI:∀ B,B₀≤B->∀ T,Deaf T h=0->Idle P K Still B T h nh (G (b.at (a.put op.dst undef) (.inRegion ops rest :: kk)) cs) o):AtHire P K Still h o F (G (b.at a (.inRegion ops (i :: rest) :: kk)) cs) w :=
 ⟨rfl,_,born P d,#[],nh,B₀,hB₀,hF,fun d'=>by rw[stepG_spawn ho hw hk (hr _) hd,listed_none (he _)],fun B _ e he=>by simp at he,hI⟩
end Go.Lift
namespace Go.Proofs.YtbbhahigofeacaaDoor
open Go Go.Lift Go.Conc Go.RowKit
theorem hire_box {main:Bool}(wb:Nat) (bsl F:Value) (n ii bb gc:Nat) (u:Nat->Value) (cs:List Frame) (w:World) :
 stepG Tryd.prog main (G (bFr1 wb bsl F n ii bb gc u) cs) w=.go (G (bFr2 wb bsl F n ii bb gc w.heap.size u) cs) (w.alloc (.cells (trow wb ii gc 0 0 0 0) 87)) #[]:=by
 unfold bFr1 bFr2 G5 R15 R18 HB D35 HL B35 Tryd.f61 seq2 seq1 Ak Ar opsOf
 simp only[Option.getD_some,List.append_toArray,List.cons_append,List.nil_append]
 rw[stepG_value (v:=Pt w.heap.size 0) (w':=w.alloc (.cells (trow wb ii gc 0 0 0 0) 87)) rfl rfl (by decide) (by go_simp),listed_none (by simp[go_sem,execOp])]
 rfl
abbrev d49 (tb:Nat) (F:Value):Deferred:={ target:=.fn (.func 85) #[],args:=#[Pt tb 0,F] }
theorem eR15:R15=.seq r15 R1617:=by kernel_rfl
noncomputable def ops3517:Array Oper:=opsOf (seq2 R1617)
def HBack (wb:Nat) (bsl:Value) (n ii:Nat) (cs:List Frame) (g:Goroutine):Prop:=∀ (D:World->World->Array Event->Prop) (Stop:Goroutine->World->Prop) (x:Value) (w:World),(∀ w,D w w #[])->(∀ u,GoesI Tryd.prog true D Stop (G (hFr wb bsl n ii u) cs) w)->GoesI Tryd.prog true D Stop (Go.Conc.served g x) w
theorem back35 (wb:Nat) (bsl F:Value) (n ii bb gc tb bk:Nat) (hb:(n:Int)<9223372036854775808) (hi:ii<n) (u:Nat->Value) (cs:List Frame) :
 HBack wb bsl n (ii+1) cs (G ((base 61).at ⟨#[Pt wb 0,bsl,undef,undef,u 4,u 5,u 6,I ii,F,Pt tb 0,u 10,u 11,u 12,u 13,u 14,u 15,u 16,u 17,u 18,u 19,u 20,u 21,u 22,u 23,u 24,u 25,u 26,u 27,u 28,u 29,bsl]++#[I n,I ii,.bool true,I ii,Pt bb ii,F,Pt wb 0,I ii,.chan (some gc),.agg (trow wb ii gc 0 0 0 0),Pt tb 0,u 42,u 43,u 44,u 45,u 46,u 47,u 48,u 49,u 50,u 51,Pt tb 0,F,Pt wb 0,Pt wb 0,Pt wb 8,.chan (some bk),u 58,u 59,u 60,u 61],[]⟩ [.inRegion ops3517 [4],.inBlock 3,.code R18,.inLoop HL,.inBlock 2,.code D35]) cs):=by
 have HW:IntKind.i64.wrap ((ii:Int)+1)=((ii+1:Nat):Int):=by rw[IntKind.wrap_i64];omega
 intro D Stop x w hD h
 have h:=h (fun m=>match m with|7=>I ii|8=>F|9=>Pt tb 0|33=>.bool true|34=>I ii|35=>Pt bb ii|36=>F|37=>Pt wb 0|38=>I ii|39=>.chan (some gc)|40=>.agg (trow wb ii gc 0 0 0 0)|41=>Pt tb 0|52=>Pt tb 0|53=>F|54=>Pt wb 0|55=>Pt wb 0|56=>Pt wb 8|57=>.chan (some bk)|58=>x|59=>I ((ii+1:Nat):Int)|m=>u m)
 unfold ops3517 R1617 R15 R18 HB D35 HL B35 Tryd.f61 seq2 seq1 Ak Ar opsOf
 unfold hFr D35 HL B35 Tryd.f61 seq2 seq1 Ak Ar at h
 simp only[Option.getD_some,List.append_toArray,List.cons_append,List.nil_append] at h ⊢
 rw[served_fr,Frame.finish_at]
 refine Ab hD ?_
 refine G6 hD ?_
 refine Ae hD ?_
 simp only[List.size_toArray,List.length_cons,List.length_nil,Nat.reduceAdd,Nat.zero_add,List.range,List.range.loop]
 refine I9 (v:=fun _=>I ((ii+1:Nat):Int)) (w':=fun d=>w.at d) rfl rfl (by decide) (fun d=>by go_simp) (fun d=>by rw[listed_none (by simp[go_sem,execOp])];exact hD _) (fun d=>GoesI.at ?_ d)
 refine I9 (v:=fun _=>I ((ii+1:Nat):Int)) (w':=fun d=>w.at d) rfl rfl (by decide) (fun d=>by go_simp) (fun d=>by rw[listed_none (by simp[go_sem,execOp])];exact hD _) (fun d=>GoesI.at ?_ d)
 refine Ab hD ?_
 refine Dy hD ?_
 exact h
theorem hire_b {z:Nat->Option Nat}{Ch:Nat->Prop}{Stop:Goroutine->World->Prop}{cont:Addr->Value}{v w:World}(wb n ii bb gc tb bk:Nat) (bsl F tv:Value) (k bs:Nat) (xs:List Value) (u:Nat->Value) (cs:List Frame) (Hm:Goroutine->Prop)
 (hH:∀ g,HBack wb bsl n (ii+1) cs g->Hm g) (hb:(n:Int)<9223372036854775808) (hi:ii<n)
 (hvw:Rel z v w) (hn:Ah Ch v) (h4:v.cell? ⟨wb,4,none⟩=some tv) (hf:v.frozen? ⟨wb,4,none⟩=false) (hown:v.ownsRow bs 52 1 tv k xs) (hne:tv.ownBlock≠some wb) (hk:(k+1)*8≤140737488355328) (hbase:bs≤v.heap.size) (hz:z wb=some 8) (hcont:cont ⟨wb,8,none⟩=.chan (some bk))
 (hstop:∀ g w',Lift.AtHire Tryd.prog (KC (ScZ z) cont) (Fv (ScZ z)) 0 (some (Seat.one bk (.agg #[]) false Hm)) (fun child w'=>child=born Tryd.prog (d49 tb F)∧∃ v',Rel z v' w'∧Ah Ch v'∧Hv wb tv k bs xs (Pt tb 0) v v') g w'->Stop g w') :
 GoesI Tryd.prog true (DT (ScZ z) Ch) Stop (G (bFr2 wb bsl F n ii bb gc tb u) cs) w:=by
 have HO:Hid (v.ownsRow bs 52 1 tv k xs):=⟨hown⟩
 have q4:wb<v.heap.size:=World.block_lt_of_cell? _ _ h4
 clear hown
 have hop:(G5.getD 5 default).op=.assign (.tmp 41):=by kernel_rfl
 have hds:(G5.getD 5 default).dst=some 9:=by kernel_rfl
 have hgd:(G5.getD 5 default).guard=none:=by kernel_rfl
 have hoo:G5[5]? = some (G5.getD 5 default):=by kernel_rfl
 unfold bFr2
 simp only[List.append_toArray,List.cons_append,List.nil_append]
 refine I9 (o:=G5.getD 5 default) (v:=fun _=>Pt tb 0) (w':=fun d=>w.at d) hoo (by unfold Region.wanted;rw[hgd]) (by decide) (fun d=>by unfold execOp;rw[hop];simp[go_sem,Act.eval]) (fun d=>by rw[listed_none (by unfold execOp;rw[hop];simp[go_sem])];exact Aa _ _ _) (fun d=>GoesI.at ?_ d)
 rw[hds]
 clear hop hds hgd hoo
 refine Ab (Aa _ _) ?_
 rw[eR15]
 refine Ac (Aa _ _) ?_
 rw[show (Act.put { tmps:=(#[Pt wb 0,bsl,undef,undef,u 4,u 5,u 6,I ii,F,u 9,u 10,u 11,u 12,u 13,u 14,u 15,u 16,u 17,u 18,u 19,u 20,u 21,u 22,u 23,u 24,u 25,u 26,u 27,u 28,u 29,bsl,I n,I ii,.bool true,I ii,Pt bb ii,F,Pt wb 0,I ii,.chan (some gc),.agg (trow wb ii gc 0 0 0 0),Pt tb 0,u 42,u 43,u 44,u 45,u 46,u 47,u 48,u 49,u 50,u 51,u 52,u 53,u 54,u 55,u 56,u 57,u 58,u 59,u 60,u 61]),defers:=[] } (some 9) (Pt tb 0))={ tmps:=(#[Pt wb 0,bsl,undef,undef,u 4,u 5,u 6,I ii,F,Pt tb 0,u 10,u 11,u 12,u 13,u 14,u 15,u 16,u 17,u 18,u 19,u 20,u 21,u 22,u 23,u 24,u 25,u 26,u 27,u 28,u 29,bsl]++#[I n,I ii,.bool true,I ii,Pt bb ii,F,Pt wb 0,I ii,.chan (some gc),.agg (trow wb ii gc 0 0 0 0),Pt tb 0,u 42,u 43,u 44,u 45,u 46,u 47,u 48,u 49,u 50,u 51,u 52,u 53,u 54,u 55,u 56,u 57,u 58,u 59,u 60,u 61]),defers:=[] } from by kernel_rfl]
 refine Ba (z:=z) (wr:=true) (L:=LT) (I:=Ah Ch) hE Di Az (fun v v' w w' es hi hr ho he=>Bq v v' w w' es hi hr ho he) hvw fineR15 rfl (by simp[base]) hn
  (Q:=fun a w'=>(∃ u:Nat->Value,a={ tmps:=#[Pt wb 0,bsl,undef,undef,u 4,u 5,u 6,I ii,F,Pt tb 0,u 10,u 11,u 12,u 13,u 14,u 15,u 16,u 17,u 18,u 19,u 20,u 21,u 22,u 23,u 24,u 25,u 26,u 27,u 28,u 29,bsl]++#[I n,I ii,.bool true,I ii,Pt bb ii,F,Pt wb 0,I ii,.chan (some gc),.agg (trow wb ii gc 0 0 0 0),Pt tb 0,u 42,u 43,u 44,u 45,u 46,u 47,u 48,u 49,u 50,u 51,u 52,u 53,u 54,u 55,u 56,u 57,u 58,u 59,u 60,u 61],defers:=[] })∧Hv wb tv k bs xs (Pt tb 0) v w') (fun τ=>?_) ?_
 ·refine wp_mono (r15_wp (v:=Ap v τ 0) wb n ii bb gc tb bsl F tv k bs xs u h4 hf HO.out hne hk hbase) (fun e a w' hq=>⟨hq.1,hq.2.1,?_⟩)
  obtain ⟨g,cap,q1,q2,q3,q5⟩:=hq.2.2
  exact ⟨g,cap,q1,q2,q3,⟨q5.os,q5.output,q5.size,q5.block⟩⟩
 rintro a' v' w' ⟨⟨u',rfl⟩,hT⟩ hr' hn' -
 have hwbl:wb<w'.heap.size:=by
  obtain ⟨g,cap,q1,q2,q3,q5⟩:=hT
  rw[hr'.size]
  exact Nat.lt_of_lt_of_le q4 q5.size
 have HF:Hid (∃ v',Rel z v' w'∧Ah Ch v'∧Hv wb tv k bs xs (Pt tb 0) v v'):=⟨⟨v',hr',hn',hT⟩⟩
 have hbk:=back35 wb bsl F n ii bb gc tb bk hb hi u' cs
 clear hT hr' hn' hvw hn h4 hf HO hne hk hbase q4
 unfold ops3517 R1617 R15 R18 HB D35 HL B35 Tryd.f61 seq2 seq1 Ak Ar opsOf at hbk
 unfold R1617 R15 R18 HB D35 HL B35 Tryd.f61 seq2 seq1 Ak Ar
 simp only[Option.getD_some,List.append_toArray,List.cons_append,List.nil_append] at hbk ⊢
 refine Ac (Aa _ _) ?_
 refine Ae (Aa _ _) ?_
 simp only[List.size_toArray,List.length_cons,List.length_nil,Nat.reduceAdd,Nat.zero_add,List.range,List.range.loop]
 iterate 2
  (refine Ad rfl rfl (by decide) (fun d K hK=>?_)
   go_simp
   refine hK _ _ ⟨Af (fun e he=>?_),GoesI.at ?_ d⟩
   ·have hm:=mem_listed he
    simp[go_sem, *] at hm
    try exact ⟨_,_,hm⟩
   clear hK K)
 refine GoesI.stop fun d=>hstop _ _ (hire_at (h:=0) (d:=d49 tb F) 7 (wb+1) rfl rfl (by decide) (fun w=>by simp[go_sem,execOp,resolve,Act.eval]) rfl (fun w=>by simp[go_sem,execOp,resolve,Act.eval]) ⟨rfl,?_⟩ (Nat.succ_le_of_lt hwbl) (fun B hB T hT=>?_))
 ·obtain ⟨v',k1,k2⟩:=HF.out
  exact ⟨v',k1.re rfl rfl rfl rfl rfl rfl,k2⟩
 ·clear HF hstop hwbl
  refine .inl ⟨6,w',rfl,?_⟩
  k_c stepG_region_end
  k_reg
  iterate 3
   (k_in
    refine goes_oper_k rfl rfl (by decide) (fun K hK=>?_)
    go_simp
    refine hK _ _ ⟨⟨rfl,fun e he=>by (have hm:=mem_listed he;simp[go_sem, *] at hm)⟩,?_⟩
    clear hK K)
  k_in
  have q2:=h₁ ⟨wb,8,none⟩ ⟨rfl,hz⟩
  rw[hcont] at q2
  refine goes_oper_k rfl rfl (by decide) (fun K hK=>?_)
  go_simp
  refine hK _ _ ⟨⟨rfl,fun e he=>by (have hm:=mem_listed he;simp[go_sem, *] at hm;subst hm;exact evC_read _ ⟨_,rfl,rfl,hz⟩ (by simp;omega))⟩,?_⟩
  clear hK K
  refine Goes.stop fun w₂ h₂=>⟨_,atIn_of (s:=Seat.one bk (.agg #[]) false Hm) rfl rfl (by decide) (fun w=>?_) (fun w=>?_) (hH _ hbk)⟩
  ·simp[go_sem,execOp,rcase,Act.eval,Seat.one]
  ·simp[go_sem,execOp,Act.eval]
noncomputable def tFr (wb:Nat) (u:Nat->Value):Frame:=(base 61).at ⟨#[Pt wb 0,u 1,u 2,u 3,u 4,u 5,u 6,u 7,u 8,u 9,u 10,u 11,u 12,u 13,u 14,u 15,u 16,u 17,u 18,u 19,u 20,u 21,u 22,u 23,u 24,u 25,u 26,u 27,u 28,u 29,u 30]++#[u 31,u 32,u 33,u 34,u 35,u 36,u 37,u 38,u 39,u 40,u 41,u 42,u 43,u 44,u 45,u 46,u 47,u 48,u 49,u 50,u 51,u 52,u 53,u 54,u 55,u 56,u 57,u 58,u 59,u 60,u 61],[]⟩ [.code TL,.inLoop TL,.inBlock 4]
theorem hire_done {z:Nat->Option Nat}{Ch:Nat->Prop}{Stop:Goroutine->World->Prop}{main:Bool}{w:World}{wb:Nat}(bsl:Value) (n:Nat) (u:Nat->Value) (cs:List Frame)
 (hk:∀ u',GoesI Tryd.prog main (DT (ScZ z) Ch) Stop (G (tFr wb u') cs) w):GoesI Tryd.prog main (DT (ScZ z) Ch) Stop (G (hFr wb bsl n n u) cs) w:=by
 have hi':¬ (n:Int)<(n:Int):=by omega
 have hk:=hk (fun m=>match m with|1=>bsl|2=>undef|3=>undef|30=>bsl|31=>I n|32=>I n|33=>.bool false|m=>u m)
 unfold tFr TL D35 B35 Tryd.f61 seq2 Ak Ar at hk
 unfold hFr D35 HL B35 Tryd.f61 seq2 seq1 Ak Ar
 simp only[Option.getD_some,List.append_toArray,List.cons_append,List.nil_append] at hk ⊢
 refine Ac (Aa _ _) ?_
 refine Ae (Aa _ _) ?_
 simp only[List.size_toArray,List.length_cons,List.length_nil,Nat.reduceAdd,Nat.zero_add,List.range,List.range.loop]
 iterate 1
  (refine Ad rfl rfl (by decide) (fun d K hK=>?_)
   go_simp
   refine hK _ _ ⟨Af (fun e he=>?_),GoesI.at ?_ d⟩
   ·have hm:=mem_listed he
    simp[go_sem, *] at hm
    try exact ⟨_,_,hm⟩
   clear hK K)
 refine Ab (Aa _ _) ?_
 refine Ac (Aa _ _) ?_
 refine Ax (Aa _ _) (t:=false) rfl ?_
 simp only[if_true,if_false,Bool.false_eq_true]
 refine Em (Aa _ _) rfl ?_
 refine Bm (Aa _ _) ?_
 refine Fq (Aa _ _) ?_
 exact hk
theorem turn_in {z:Nat->Option Nat}{Ch:Nat->Prop}{Stop:Goroutine->World->Prop}{main:Bool}{w:World}{wb:Nat}(u:Nat->Value) (cs:List Frame)
 (hk:∀ (bd:Frame) (ad:Act) (od:Array Oper) (qd:Nat) (rd:List Nat) (oe:Oper) (kd:List Item),od[qd]? = some oe ->
   (∀ (z:Nat->Option Nat) (Ch:Nat->Prop) (Stop:Goroutine->World->Prop) (w:World),(∀ u',GoesI Tryd.prog main (DT (ScZ z) Ch) Stop (G (tFr wb u') cs) w)->GoesI Tryd.prog main (DT (ScZ z) Ch) Stop (G (bd.at (ad.put oe.dst (.bool true)) (.inRegion od rd :: kd)) cs) w) ->
   (∀ (z:Nat->Option Nat) (Ch:Nat->Prop) (Stop:Goroutine->World->Prop) (w:World) (bc:Frame) (ac:Act) (ops:Array Oper) (q:Nat) (rest:List Nat) (oc:Oper) (k:List Item) (cs':List Frame),cs=bc.at ac (.inRegion ops (q :: rest) :: k) :: cs'->ops[q]? = some oc->GoesI Tryd.prog main (DT (ScZ z) Ch) Stop (G (bc.at (ac.put oc.dst (.tuple #[])) (.inRegion ops rest :: k)) cs') w ->
     GoesI Tryd.prog main (DT (ScZ z) Ch) Stop (G (bd.at (ad.put oe.dst (.bool false)) (.inRegion od rd :: kd)) cs) w)->∀ code,Tryd.f86.body=some code ->
   GoesI Tryd.prog main (DT (ScZ z) Ch) Stop (G ((base 86).at { tmps:=#[Pt wb 0]++Array.replicate 72 undef,defers:=[] } [.code code]) (bd.at ad (.inRegion od (qd :: rd) :: kd) :: cs)) w) :
 GoesI Tryd.prog main (DT (ScZ z) Ch) Stop (G (tFr wb u) cs) w:=by
 unfold tFr TL D35 B35 Tryd.f61 seq2 Ak Ar
 simp only[Option.getD_some,List.append_toArray,List.cons_append,List.nil_append]
 refine Ac (Aa _ _) ?_
 refine Ac (Aa _ _) ?_
 refine Ae (Aa _ _) ?_
 simp only[List.size_toArray,List.length_cons,List.length_nil,Nat.reduceAdd,Nat.zero_add,List.range,List.range.loop]
 iterate 1
  (refine Ad rfl rfl (by decide) (fun d K hK=>?_)
   go_simp
   refine hK _ _ ⟨Af (fun e he=>?_),GoesI.at ?_ d⟩
   ·have hm:=mem_listed he
    simp[go_sem, *] at hm
    try exact ⟨_,_,hm⟩
   clear hK K)
 refine Ao (f:=86) (fn:=Tryd.f86) (args:=#[Pt wb 0]) (Aa _ _) rfl rfl (by decide) rfl (by simp[Act.eval]) Tryd.func86 (by decide) rfl ?_
 refine hk _ _ _ _ _ _ _ rfl (fun z Ch Stop w hg=>?_) (fun z Ch Stop w bc ac ops q rest oc k cs' hcs ho hg=>?_) _ rfl
 ·have hg:=hg (fun m=>match m with|60=>Pt wb 0|61=>.bool true|m=>u m)
  unfold tFr TL D35 B35 Tryd.f61 seq2 Ak Ar at hg
  simp only[Option.getD_some,List.append_toArray,List.cons_append,List.nil_append] at hg
  refine Ab (Aa _ _) ?_
  refine Ax (Aa _ _) (t:=true) rfl ?_
  simp only[if_true,if_false,Bool.false_eq_true]
  refine Bh (Aa _ _) ?_
  refine Bm (Aa _ _) ?_
  refine Bh (Aa _ _) ?_
  refine G6 (Aa _ _) ?_
  refine Dy (Aa _ _) ?_
  exact hg
 ·subst hcs
  refine Ab (Aa _ _) ?_
  refine Ax (Aa _ _) (t:=false) rfl ?_
  simp only[if_true,if_false,Bool.false_eq_true]
  refine Em (Aa _ _) rfl ?_
  refine Eu (Aa _ _) ?_
  refine Cm (b:=base 61) (fn:=Tryd.f61) rfl ?_ Tryd.func61 (fun w=>results_none rfl _ _ _) (fun w=>by simp[results,go_sem]) ho (Aa _ _) hg
  show (Act.put _ _ _).defers=[]
  unfold Act.put
  split<;>rfl
theorem ran_ev {z:Nat->Option Nat}{S:TS}{v:World}(h:Rep z S v):Ev z S v { S with ran:=true } (v.setCell ⟨S.wb,7,none⟩ (.bool true)):=by
 have hst:∀ k b,blk S k=some b->k≠0->(v.setCell ⟨S.wb,7,none⟩ (.bool true)).heap[b]? = v.heap[b]?:=fun k b hk h0=>Below.heap_setCell _ _ _ _ (fun e=>h0 (h.apart k 0 b hk (by rw[e];rfl)))
 have hblk:∀ k,blk { S with ran:=true } k=blk S k:=fun k=>by match k with|0=>rfl|1=>rfl|2=>rfl|3=>rfl|4=>rfl|k+5=>rfl
 refine ⟨⟨?_,fun i t ht=>?_,Au (fun b hb=>hst 3 b hb (by omega)) h.own,Au (fun b hb=>hst 1 b hb (by omega)) h.chg,Au (fun b hb=>hst 2 b hb (by omega)) h.ths,Au (fun b hb=>hst 4 b hb (by omega)) h.sch,?_,fun j k b hj hk=>?_,h.kept⟩,⟨rfl,rfl,by simp[World.setCell],fun b hb hs=>Below.heap_setCell _ _ _ _ (fun e=>hs ⟨0,by rw[e];rfl⟩)⟩,fun b ⟨k,hk⟩=>.inl ⟨k,by rw[←hblk];exact hk⟩⟩
 ·have:=heap_setCell_same (o:=7) h.wor (.bool true)
  simpa using this
 ·rw[hst (i+5) t.tb (by simp only[blk];rw[show S.thr[i]? = some t from ht];rfl) (by omega)]
  exact h.thr i t ht
 ·show S.base≤_
  simpa [World.setCell] using h.bs
 ·exact h.apart j k b (by rw[←hblk];exact hj) (by rw[←hblk];exact hk)
theorem run35_in {z:Nat->Option Nat}{Ch:Nat->Prop}{Stop:Goroutine->World->Prop}{main:Bool}{S:TS}{K:List (Nat×Int)}{v w:World}(p:Option Addr) (n cap:Nat) (cs:List Frame)
 (hvw:Rel z v w) (hn:Ah Ch v) (hm:Mem z S K v) (hr:S.ran=false)
 (hk:∀ v' w' u,Rel z v' w'->Ah Ch v'->Evo z S K v { S with ran:=true } K v'->GoesI Tryd.prog main (DT (ScZ z) Ch) Stop (G (hFr S.wb (.slice p n cap) n 0 u) cs) w') (code:Code) (hc:Tryd.f61.body=some code) :
 GoesI Tryd.prog main (DT (ScZ z) Ch) Stop (G ((base 61).at { tmps:=#[Pt S.wb 0,.slice p n cap]++Array.replicate 60 undef,defers:=[] } [.code code]) cs) w:=by
 have hc0:code=B35:=by
  unfold B35
  rw[hc]
  rfl
 subst hc0
 clear hc
 have e7:w.cell? ⟨S.wb,7,none⟩=some (.bool false):=by rw[hvw.cell?,hm.rep.wcell.2.2.2.2.2.2.2.1,hr]
 have c7:v.cell? ⟨S.wb,7,none⟩=some (.bool false):=by rw[hm.rep.wcell.2.2.2.2.2.2.2.1,hr]
 have f7:v.frozen? ⟨S.wb,7,none⟩=false:=fz_off hm.rep 7 (by omega)
 have HE:Hid (Evo z S K v { S with ran:=true } K (v.setCell ⟨S.wb,7,none⟩ (.bool true))):=⟨Evo.of_ev hm (ran_ev hm.rep) rfl⟩
 clear hm hr
 unfold B35 Tryd.f61
 simp only[Option.getD_some,Array.replicate_succ,Array.replicate_zero,List.push_toArray,List.append_toArray,List.nil_append,List.cons_append]
 refine Ac (Aa _ _) ?_
 refine Ac (Aa _ _) ?_
 refine Ae (Aa _ _) ?_
 simp only[List.size_toArray,List.length_cons,List.length_nil,Nat.reduceAdd,Nat.zero_add,List.range,List.range.loop]
 iterate 1
  (refine Ad rfl rfl (by decide) (fun d K hK=>?_)
   go_simp
   refine hK _ _ ⟨Af (fun e he=>?_),GoesI.at ?_ d⟩
   ·have hm:=mem_listed he
    simp[go_sem, *] at hm
    try exact ⟨_,_,hm⟩
   clear hK K)
 refine B9 (L:=LT) rfl rfl (by decide) (Bg Ci extT (by kernel_rfl)) hvw hn (x:=.bool false) (v':=v) (by go_simp) rfl (fun w1 hvw1 _=>?_)
 replace e7:w1.cell? ⟨S.wb,7,none⟩=some (.bool false):=by rw[hvw1.cell?];exact c7
 clear hvw
 rename Rel z v w1=>hvw
 refine Ab (Aa _ _) ?_
 refine Ax (Aa _ _) (t:=false) rfl ?_
 simp only[if_true,if_false,Bool.false_eq_true]
 refine Bh (Aa _ _) ?_
 refine Ac (Aa _ _) ?_
 refine Ac (Aa _ _) ?_
 refine Ae (Aa _ _) ?_
 simp only[List.size_toArray,List.length_cons,List.length_nil,Nat.reduceAdd,Nat.zero_add,List.range,List.range.loop]
 iterate 4
  (refine Ad rfl rfl (by decide) (fun d K hK=>?_)
   go_simp
   refine hK _ _ ⟨Af (fun e he=>?_),GoesI.at ?_ d⟩
   ·have hm:=mem_listed he
    simp[go_sem, *] at hm
    try exact ⟨_,_,hm⟩
   clear hK K)
 refine Ab (Aa _ _) ?_
 refine Ax (Aa _ _) (t:=false) rfl ?_
 simp only[if_true,if_false,Bool.false_eq_true]
 refine Bh (Aa _ _) ?_
 refine Ac (Aa _ _) ?_
 refine Ae (Aa _ _) ?_
 simp only[List.size_toArray,List.length_cons,List.length_nil,Nat.reduceAdd,Nat.zero_add,List.range,List.range.loop]
 iterate 3
  (refine Ad rfl rfl (by decide) (fun d K hK=>?_)
   go_simp
   refine hK _ _ ⟨Af (fun e he=>?_),GoesI.at ?_ d⟩
   ·have hm:=mem_listed he
    simp[go_sem, *] at hm
    try exact ⟨_,_,hm⟩
   clear hK K)
 clear e7
 refine Ew (L:=LT) rfl rfl (by decide) (Bg Ci extT (by kernel_rfl)) hvw hn (v':=v.setCell ⟨S.wb,7,none⟩ (.bool true)) (by go_simp) rfl (fun w2 hr2 hn2=>?_)
 refine Ab (Aa _ _) ?_
 refine Ac (Aa _ _) ?_
 refine Ac (Aa _ _) ?_
 refine Ae (Aa _ _) ?_
 simp only[List.size_toArray,List.length_cons,List.length_nil,Nat.reduceAdd,Nat.zero_add,List.range,List.range.loop]
 iterate 3
  (refine Ad rfl rfl (by decide) (fun d K hK=>?_)
   go_simp
   refine hK _ _ ⟨Af (fun e he=>?_),GoesI.at ?_ d⟩
   ·have hm:=mem_listed he
    simp[go_sem, *] at hm
    try exact ⟨_,_,hm⟩
   clear hK K)
 refine Ab (Aa _ _) ?_
 refine Bm (Aa _ _) ?_
 refine Fq (Aa _ _) ?_
 have hk:=hk _ w2 (fun m=>match m with|10=>Pt S.wb 0|11=>.bool false|23=>Pt S.wb 0|24=>Pt S.wb 0|25=>Pt S.wb 7|26=>.bool false|27=>Pt S.wb 0|28=>Pt S.wb 0|29=>Pt S.wb 7|_=>undef) hr2 hn2 HE.out
 unfold hFr D35 HL B35 Tryd.f61 seq2 seq1 Ak Ar at hk
 simp only[Option.getD_some,List.append_toArray,List.cons_append,List.nil_append] at hk
 exact hk
end Go.Proofs.YtbbhahigofeacaaDoor
