/- Of the proof of CounterAlone. Part 10 of 21. (Joined, by program, and written short, of: GPure, GHome, GDrive1, GDrive2, GDrive3.) -/
import Derived.Test.YtfjjoohflcchnaaDoorCounterAlone06
import Derived.Test.YtfjjoohflcchnaaDoorCounterAlone08
import Derived.Test.YtfjjoohflcchnaaDoorCounterAlone09
set_option linter.unusedSimpArgs false
set_option linter.unusedVariables false
set_option maxHeartbeats 4000000
set_option maxRecDepth 100000
namespace Go.Proofs.YtfjjoohflcchnaaDoor.Gen
open Go Go.Lift Go.Conc Go.RowKit
structure Cl where
 po:Int
 ca:Int
 cb:Int
 cc:Int
abbrev Q:=Nat×List Int
inductive Nx where
 |ans (e x:Int)
 |turn (op:Int) (j:Nat) (q:Q)
 |wait (j:Nat) (q:Q)
structure Mc where
 start:Nat→Cl→Nx
 turn:Q→Int→(Int×Int)×Int×Nx
 woke:Q→Nx
 stuck:Q→Int×Int
 bnd:Bool:=false
def Mc.bn (m:Mc) (caps:Array Value):Array Value:=if m.bnd then caps else #[]
def Mc.fr (m:Mc) (caps:Array Value):Array Value:=if m.bnd then #[] else caps
inductive Ph where
 |turn (op:Int) (j:Nat) (q:Q) (rest:List Cl) (ii:Nat) (ans:List (Int×Int))
 |wait (j:Nat) (q:Q) (rest:List Cl) (ii:Nat) (ans:List (Int×Int))
 |done (ans:List (Int×Int))
def Ph.ans:Ph→List (Int×Int)
 |.turn _ _ _ _ _ a=>a
 |.wait _ _ _ _ a=>a
 |.done a=>a
def nv (S:TS):TS:={ S with tv:=undef }
def thrI (S:TS) (i:Nat):Thr:=(S.thr[i]?).getD ⟨0,0,0,0,0,0⟩
def cellAt (K:List (Nat×Int)) (j:Nat):Nat×Int:=(K[j]?).getD (0,0)
def flow (i:Nat) (m:Mc):List Cl→Nat→Bool→List (Int×Int)→TS→TS×Ph
 | [],_,_,ans,S=>(ended S i (thrI S i),.done ans)
 |_ :: rest,ii,true,ans,S=>flow i m rest (ii+1) true (ans.set ii (4,0)) S
 |c :: rest,ii,false,ans,S =>
  match m.start i c with
  |.ans e x=>flow i m rest (ii+1) (e==4) (ans.set ii (e,x)) (noted (noted S undef i 9 (-1) ii 0) undef i 10 (-1) ii e)
  |.turn op j q=>(waiting (noted S undef i 9 (-1) ii 0) i (thrI S i) 1 op j,.turn op j q rest ii ans)
  |.wait j q =>
   if S.stk then flow i m rest (ii+1) ((m.stuck q).1==4) (ans.set ii (m.stuck q)) (noted (noted S undef i 9 (-1) ii 0) undef i 10 (-1) ii (m.stuck q).1)
   else (waiting (noted S undef i 9 (-1) ii 0) i (thrI S i) 2 6 j,.wait j q rest ii ans)
def back (i:Nat) (m:Mc) (rest:List Cl) (ii:Nat) (ans:List (Int×Int)) (a:Int×Int) (S:TS) (K:List (Nat×Int)):TS×List (Nat×Int)×Ph :=
 ((flow i m rest (ii+1) (a.1==4) (ans.set ii a) (noted S undef i 10 (-1) ii a.1)).1,K,(flow i m rest (ii+1) (a.1==4) (ans.set ii a) (noted S undef i 10 (-1) ii a.1)).2)
def on (i:Nat) (m:Mc) (rest:List Cl) (ii:Nat) (ans:List (Int×Int)) (S:TS) (K:List (Nat×Int)):Nx→TS×List (Nat×Int)×Ph
 |.ans e x=>back i m rest ii ans (e,x) S K
 |.turn op j q=>(waiting S i (thrI S i) 1 op j,K,.turn op j q rest ii ans)
 |.wait j q=>if S.stk then back i m rest ii ans (m.stuck q) S K else (waiting S i (thrI S i) 2 6 j,K,.wait j q rest ii ans)
def resume (i:Nat) (m:Mc):Ph→TS→List (Nat×Int)→TS×List (Nat×Int)×Ph
 |.turn _ j q rest ii ans,S,K=>on i m rest ii ans (didS S undef i (thrI S i) (m.turn q (cellAt K j).2).1.1 (m.turn q (cellAt K j).2).1.2) (K.set j ((cellAt K j).1,(m.turn q (cellAt K j).2).2.1)) (m.turn q (cellAt K j).2).2.2
 |.wait j q rest ii ans,S,K=>if S.stk then back i m rest ii ans (m.stuck q) S K else on i m rest ii ans (noted S undef i 6 j 0 0) K (m.woke q)
 |p,S,K=>(S,K,p)
theorem flow_cons (i:Nat) (m:Mc) (c:Cl) (rest:List Cl) (ii:Nat) (ans:List (Int×Int)) (S:TS) (K:List (Nat×Int)):flow i m (c :: rest) ii false ans S=((on i m rest ii ans (noted S undef i 9 (-1) ii 0) K (m.start i c)).1,(on i m rest ii ans (noted S undef i 9 (-1) ii 0) K (m.start i c)).2.2):=by
 unfold flow
 cases h:m.start i c with
 |ans e x=>rfl
 |turn op j q=>rfl
 |wait j q =>
  show (if S.stk then _ else _)=((if S.stk then _ else _:TS×List (Nat×Int)×Ph).1,(if S.stk then _ else _:TS×List (Nat×Int)×Ph).2.2)
  split<;>rfl
theorem resume_turn (i:Nat) (m:Mc) (op:Int) (j:Nat) (q:Q) (rest:List Cl) (ii:Nat) (ans:List (Int×Int)) (S:TS) (K:List (Nat×Int)):resume i m (.turn op j q rest ii ans) S K=on i m rest ii ans (didS S undef i (thrI S i) (m.turn q (cellAt K j).2).1.1 (m.turn q (cellAt K j).2).1.2) (K.set j ((cellAt K j).1,(m.turn q (cellAt K j).2).2.1)) (m.turn q (cellAt K j).2).2.2:=rfl
theorem resume_wait (i:Nat) (m:Mc) (j:Nat) (q:Q) (rest:List Cl) (ii:Nat) (ans:List (Int×Int)) (S:TS) (K:List (Nat×Int)):resume i m (.wait j q rest ii ans) S K=if S.stk then back i m rest ii ans (m.stuck q) S K else on i m rest ii ans (noted S undef i 6 j 0 0) K (m.woke q):=rfl
theorem on_wait (i:Nat) (m:Mc) (j:Nat) (q:Q) (rest:List Cl) (ii:Nat) (ans:List (Int×Int)) (S:TS) (K:List (Nat×Int)):on i m rest ii ans S K (.wait j q)=if S.stk then back i m rest ii ans (m.stuck q) S K else (waiting S i (thrI S i) 2 6 j,K,.wait j q rest ii ans):=rfl
section
variable {S:TS} {i:Nat} {m:Mc}
theorem thrI_of {t:Thr} (h:S.thr[i]? = some t):thrI S i=t:=by unfold thrI;rw [h];rfl
theorem nv_did (tv:Value) (t:Thr) (b a:Int):nv (didS S tv i t b a)=didS (nv S) undef i t b a:=by
 show nv (if b≠a∧0≤t.ce∧t.ce<S.chg.length then _ else _)=if b≠a∧0≤t.ce∧t.ce<S.chg.length then _ else _
 split<;>rfl
structure Sta (i:Nat) (S S':TS):Prop where
 wb:S'.wb=S.wb
 bk:S'.bk=S.bk
 base:S'.base=S.base
 us:S'.us=S.us
 la:S'.la=S.la
 sc:S'.sc=S.sc
 cv:S'.cv=S.cv
 ths:S'.ths=S.ths
 sched:S'.sched=S.sched
 stk:S'.stk=S.stk
 ran:S'.ran=S.ran
 n:S.n≤S'.n
 chg:S'.chg.length=S.chg.length
 len:S'.thr.length=S.thr.length
 oth:∀ j,j≠i→S'.thr[j]? = S.thr[j]?
 own:∀ t,S.thr[i]? = some t→∃ t',S'.thr[i]? = some t'∧t'.tb=t.tb∧t'.gc=t.gc
theorem Sta.refl (i:Nat) (S:TS):Sta i S S:=⟨rfl,rfl,rfl,rfl,rfl,rfl,rfl,rfl,rfl,rfl,rfl,Nat.le_refl _,rfl,rfl,fun _ _=>rfl,fun t h=>⟨t,h,rfl,rfl⟩⟩
theorem Sta.trans {S S' S'':TS} (h:Sta i S S') (k:Sta i S' S''):Sta i S S'':=by
 refine ⟨k.wb.trans h.wb,k.bk.trans h.bk,k.base.trans h.base,k.us.trans h.us,k.la.trans h.la,k.sc.trans h.sc,k.cv.trans h.cv,k.ths.trans h.ths,k.sched.trans h.sched,k.stk.trans h.stk,k.ran.trans h.ran,Nat.le_trans h.n k.n,k.chg.trans h.chg,k.len.trans h.len,fun j hj=>(k.oth j hj).trans (h.oth j hj),fun t ht=>?_⟩
 obtain ⟨t1,h1,h2,h3⟩:=h.own t ht
 obtain ⟨t2,k1,k2,k3⟩:=k.own t1 h1
 exact ⟨t2,k1,k2.trans h2,k3.trans h3⟩
theorem sta_noted (S:TS) (tv:Value) (op ce ol ne:Int):Sta i S (noted S tv i op ce ol ne):=⟨rfl,rfl,rfl,rfl,rfl,rfl,rfl,rfl,rfl,rfl,rfl,Nat.le_succ _,rfl,rfl,fun _ _=>rfl,fun t h=>⟨t,h,rfl,rfl⟩⟩
theorem sta_set (S:TS) (t':Thr) (h1:∀ t,S.thr[i]? = some t→t'.tb=t.tb∧t'.gc=t.gc):Sta i S { S with thr:=S.thr.set i t' }:=by
 refine ⟨rfl,rfl,rfl,rfl,rfl,rfl,rfl,rfl,rfl,rfl,rfl,Nat.le_refl _,rfl,by simp,fun j hj=>?_,fun t h=>⟨t',?_,h1 t h⟩⟩
 ·show (S.thr.set i t')[j]? = _
  rw [List.getElem?_set,if_neg (fun e=>hj e.symm)]
 ·have hi:i<S.thr.length:=(List.getElem?_eq_some_iff.1 h).1
  show (S.thr.set i t')[i]? = _
  rw [List.getElem?_set,if_pos rfl,if_pos hi]
theorem sta_wait (S:TS) (s o c:Int):Sta i S (waiting S i (thrI S i) s o c):=sta_set S _ (fun t h=>by rw [thrI_of h];exact ⟨rfl,rfl⟩)
theorem sta_ended (S:TS):Sta i S (ended S i (thrI S i)):=sta_set S _ (fun t h=>by rw [thrI_of h];exact ⟨rfl,rfl⟩)
theorem sta_did (S:TS) (tv:Value) (t:Thr) (b a:Int):Sta i S (didS S tv i t b a):=by
 unfold didS
 split
 ·exact ⟨rfl,rfl,rfl,rfl,rfl,rfl,rfl,rfl,rfl,rfl,rfl,Nat.le_succ _,by simp [counted,noted],rfl,fun _ _=>rfl,fun t h=>⟨t,h,rfl,rfl⟩⟩
 ·exact sta_noted _ _ _ _ _ _
theorem flow_sta (i:Nat) (m:Mc):∀ (rest:List Cl) (ii:Nat) (sk:Bool) (ans:List (Int×Int)) (S:TS),Sta i S (flow i m rest ii sk ans S).1
 | [],ii,sk,ans,S=>by cases sk<;>exact sta_ended S
 |c :: rest,ii,true,ans,S=>flow_sta i m rest (ii+1) true _ S
 |c :: rest,ii,false,ans,S=>by
  unfold flow
  split
  ·exact ((sta_noted S _ _ _ _ _).trans (sta_noted _ _ _ _ _ _)).trans (flow_sta i m rest (ii+1) _ _ _)
  ·exact (sta_noted S _ _ _ _ _).trans (sta_wait (noted S undef i 9 (-1) ii 0) _ _ _)
  ·split
   ·exact ((sta_noted S _ _ _ _ _).trans (sta_noted _ _ _ _ _ _)).trans (flow_sta i m rest (ii+1) _ _ _)
   ·exact (sta_noted S _ _ _ _ _).trans (sta_wait (noted S undef i 9 (-1) ii 0) _ _ _)
theorem back_sta (rest:List Cl) (ii:Nat) (ans:List (Int×Int)) (a:Int×Int) (K:List (Nat×Int)) (S:TS):Sta i S (back i m rest ii ans a S K).1 :=
 (sta_noted S _ _ _ _ _).trans (flow_sta i m rest (ii+1) _ _ _)
theorem on_sta (rest:List Cl) (ii:Nat) (ans:List (Int×Int)) (K:List (Nat×Int)) (S:TS) (x:Nx):Sta i S (on i m rest ii ans S K x).1:=by
 cases x with
 |ans e x=>exact back_sta _ _ _ _ _ _
 |turn op j q=>exact sta_wait S _ _ _
 |wait j q =>
  rw [on_wait]
  split
  ·exact back_sta _ _ _ _ _ _
  ·exact sta_wait S _ _ _
theorem resume_sta (i:Nat) (m:Mc) (l:Ph) (S:TS) (K:List (Nat×Int)):Sta i S (resume i m l S K).1:=by
 match l with
 |.done ans=>exact Sta.refl _ _
 |.turn op j q rest ii ans=>exact (sta_did S _ _ _ _).trans (on_sta _ _ _ _ _ _)
 |.wait j q rest ii ans =>
  rw [resume_wait]
  split
  ·exact back_sta _ _ _ _ _ _
  ·exact (sta_noted S _ _ _ _ _).trans (on_sta _ _ _ _ _ _)
end
def arow (ans:List (Int×Int)):List Value:=ans.flatMap fun a=>[I a.1,I a.2]
theorem arow_len (ans:List (Int×Int)):(arow ans).length=ans.length*2:=by
 induction ans with
 |nil=>rfl
 |cons a l ih=>simp only [arow,List.flatMap_cons,List.length_append,List.length_cons,List.length_nil] at ih ⊢;omega
theorem arow_get:∀ (ans:List (Int×Int)) (k:Nat) (a:Int×Int),ans[k]? = some a→(arow ans)[k*2]? = some (I a.1)∧(arow ans)[k*2+1]? = some (I a.2)
 |b :: l,0,a,h=>by obtain rfl:b=a:=by simpa using h
                   exact ⟨rfl,rfl⟩
 |b :: l,k+1,a,h=>by
  have:=arow_get l k a (by simpa using h)
  have e:arow (b :: l)=I b.1 :: I b.2 :: arow l:=rfl
  rw [e,show (k+1)*2=(k*2+1)+1 by omega,show (k*2+1)+1+1=(k*2+1+1)+1 by omega]
  simpa using this
theorem arow_set:∀ (ans:List (Int×Int)) (k:Nat) (e x:Int),k<ans.length→arow (ans.set k (e,x))=((arow ans).set (k*2) (I e)).set (k*2+1) (I x)
 |b :: l,0,e,x,_=>rfl
 |b :: l,k+1,e,x,h=>by
  have:=arow_set l k e x (by simpa using h)
  have e1:∀ (b:Int×Int) (l:List (Int×Int)),arow (b :: l)=I b.1 :: I b.2 :: arow l:=fun _ _=>rfl
  rw [List.set_cons_succ,e1,this,e1,show (k+1)*2=(k*2+1)+1 by omega,show (k*2+1)+1+1=(k*2+1+1)+1 by omega]
  simp only [List.set_cons_succ]
variable {mc:Mc}
def roOf:Option Addr→Nat
 |some a=>a.off
 |none=>0
structure Fix (mc:Mc) where
 h:Nat
 i:Nat
 tb:Nat
 gc:Nat
 bb:Nat
 calls:List Cl
 pc:Option Addr
 rb:Nat
 cap:Nat
 asl:Value
 ab:Nat
 cap2:Nat
 aty:TypeId
 fid:FuncId
 caps:Array Value
 pk:Nat→Option Obj
 kb:List Nat
namespace Fix
def csl (X:Fix mc):Value:=.slice X.pc X.calls.length X.cap
abbrev ro (X:Fix mc):Nat:=roOf X.pc
abbrev F (X:Fix mc):Value:=.func (.func X.fid) (mc.bn X.caps) (mc.fr X.caps)
abbrev Pr (X:Fix mc) (b:Nat):Prop:=b=X.bb∨b=X.rb∨b=X.ab∨X.pk b≠none
structure Ok (X:Fix mc):Prop where
 h:0<X.h
 n:(X.calls.length:Int)<9223372036854775808
 ca:∀ c∈X.calls,-9223372036854775808≤c.ca∧c.ca<9223372036854775808
 pc:0<X.calls.length→X.pc=some ⟨X.rb,X.ro,none⟩
 asl:0<X.calls.length→X.asl=.slice (some ⟨X.ab,0,none⟩) X.calls.length X.cap2
 e0:X.calls.length=0→X.rb=X.bb∧X.ab=X.bb
 ne:0<X.calls.length→X.ab≠X.bb∧X.ab≠X.rb∧X.pk X.ab=none
 pk:∀ b o,X.pk b=some o→∃ c e f,o=.cells c e f
end Fix
def Has (M:Nat→Option Obj) (v:World):Prop:=∀ b o,M b=some o→v.heap[b]? = some o
structure PM (X:Fix mc) (ans:List (Int×Int)) (v:World):Prop where
 box:v.cell? ⟨X.bb,0,none⟩=some (Pt X.tb 0)
 call:∀ (k:Nat) (c:Cl),X.calls[k]? = some c→v.cell? ⟨X.rb,X.ro+k*4,none⟩=some (I c.po)∧v.cell? ⟨X.rb,X.ro+k*4+1,none⟩=some (I c.ca)∧v.cell? ⟨X.rb,X.ro+k*4+2,none⟩=some (I c.cb)∧v.cell? ⟨X.rb,X.ro+k*4+3,none⟩=some (I c.cc)
 row:0<X.calls.length→v.heap[X.ab]? = some (.cells (arow ans).toArray X.aty (0,0))
 len:ans.length=X.calls.length
 pk:Has X.pk v
theorem PM.stay {X:Fix mc} {ans:List (Int×Int)} {v v':World} (h:PM X ans v) (hs:∀ b,X.Pr b→v'.heap[b]? = v.heap[b]?):PM X ans v':=by
 have hc:∀ (a:Addr) (x:Value),X.Pr a.block→v.cell? a=some x→v'.cell? a=some x:=fun a x hb ha=>by rw [World.cell?_of_block (hs a.block hb)];exact ha
 refine ⟨hc _ _ (.inl rfl) h.box,fun k c hk=>?_,fun h0=>by rw [hs X.ab (.inr (.inr (.inl rfl)))];exact h.row h0,h.len,fun b o hb=>by rw [hs b (.inr (.inr (.inr (by rw [hb];simp))))];exact h.pk b o hb⟩
 have:=h.call k c hk
 exact ⟨hc _ _ (.inr (.inl rfl)) this.1,hc _ _ (.inr (.inl rfl)) this.2.1,hc _ _ (.inr (.inl rfl)) this.2.2.1,hc _ _ (.inr (.inl rfl)) this.2.2.2⟩
structure Sees (X:Fix mc) (E:Nat→Prop) (M:Nat→Option Obj) (ans:List (Int×Int)):Prop where
 ex:∀ b,E b→M b≠none
 dom:∀ b,M b≠none→X.Pr b∨E b
 apart:∀ b,E b→¬ X.Pr b
 pm:∀ v,Has M v→PM X ans v
 pr:∀ b,X.Pr b→M b≠none
 row:∀ b o,M b=some o→∃ c e f,o=.cells c e f
def Gv (X:Fix mc) (z:Nat→Option Nat) (Ch:Nat→Prop) (S:TS) (K:List (Nat×Int)) (v:World) (E:Nat→Prop) (σ:TS) (κ:List (Nat×Int)) (M':Nat→Option Obj) (w':World):Prop :=
 ∃ v' S',Rel z v' w'∧NoRow Ch v'∧nv S'=σ∧EvoP (fun b=>b=X.ab∨E b) z S K v S' κ v'∧Has M' v'∧∀ b,M' b≠none→¬ Own S' κ b
noncomputable def seatOf (X:Fix mc) (Hm:Ph→(Nat→Prop)→(Nat→Option Obj)→Goroutine→Prop):Ph→(Nat→Prop)→(Nat→Option Obj)→Option Seat
 |.done _,_,_=>none
 |l,E,M=>some (seatT X.gc (Hm l E M))
def Gives (X:Fix mc) (Hm:Ph→(Nat→Prop)→(Nat→Option Obj)→Goroutine→Prop) (z:Nat→Option Nat) (cont:Addr→Value) (Ch:Nat→Prop) (S:TS) (K:List (Nat×Int)) (v:World) (E:Nat→Prop) (σ:TS) (κ:List (Nat×Int)) (l':Ph) (E':Nat→Prop) (M':Nat→Option Obj) (g':Goroutine) (w':World):Prop :=
 Sees X E' M' l'.ans∧(∀ b,E' b→E b∨v.heap.size≤b)∧Lift.AtGive Tryd.prog (KC (ScZ z) cont) (StillC (ScZ z)) X.h S.bk (.agg #[]) (seatOf X Hm l' E' M') (Gv X z Ch S K v E σ κ M') g' w'
def Fits (X:Fix mc):Ph→Thr→Prop
 |.turn op j _ _ _ _,t=>t.op=op∧t.ce=j
 |_,_=>True
def Home (X:Fix mc):Nat→Ph→(Nat→Prop)→(Nat→Option Obj)→Goroutine→Prop
 |0,_,_,_,_=>True
 |n+1,l,E,M,g=>∀ (z:Nat→Option Nat) (Ch:Nat→Prop) (Stop:Goroutine→World→Prop) (cont:Addr→Value) (y:Value) (w v:World) (S:TS) (K:List (Nat×Int)) (t:Thr),Rel z v w→NoRow Ch v→Mem z S K v→S.thr[X.i]? = some t→t.tb=X.tb→t.gc=X.gc→Fits X l t→K.map (·.1)=X.kb→z X.tb=some 2→cont ⟨X.tb,2,none⟩=.chan (some X.gc) →
    Has M v→(∀ b,M b≠none→¬ Own S K b)→(resume X.i mc l (nv S) K).1.n*40≤140737488355328 →
    (∀ g' w' E' M',Gives X (Home X n) z cont Ch S K v E (resume X.i mc l (nv S) K).1 (resume X.i mc l (nv S) K).2.1 (resume X.i mc l (nv S) K).2.2 E' M' g' w'→Stop g' w') →
    GoesI Tryd.prog (X.h==0) (DT (ScZ z) Ch) Stop (Go.Conc.served g y) w
theorem atGive_mono {K:World→Prop} {Still:Loc→Prop} {h c:Nat} {v:Value} {o:Option Seat} {F F':World→Prop} {a:Goroutine} {w:World} (hF:F w→F' w) (hg:Lift.AtGive Tryd.prog K Still h c v o F a w):Lift.AtGive Tryd.prog K Still h c v o F' a w :=
 ⟨hg.1,hF hg.2.1,hg.2.2⟩
section
variable {Pr Pr':Nat→Prop} {z:Nat→Option Nat} {S S' S'':TS} {K K' K'':List (Nat×Int)} {v v' v'':World}
theorem _root_.Go.Proofs.YtfjjoohflcchnaaDoor.EvoP.join (h:EvoP Pr z S K v S' K' v') (k:EvoP Pr' z S' K' v' S'' K'' v'') (hp:∀ b,Pr' b→Pr b∨v.heap.size≤b):EvoP Pr z S K v S'' K'' v'':=by
 refine ⟨k.mem,k.blks.trans h.blks,⟨k.fr.os.trans h.fr.os,k.fr.output.trans h.fr.output,Nat.le_trans h.fr.size k.fr.size,fun x hx hs=>?_⟩,fun b hb=>?_⟩
 ·rw [k.fr.block x (Nat.lt_of_lt_of_le hx h.fr.size) (fun hi=>?_),h.fr.block x hx hs]
  rcases hi with hi|hi
  ·exact (h.new x hi).elim (fun h=>hs (.inl h)) (fun hle=>by omega)
  ·exact (hp x hi).elim (fun h=>hs (.inr h)) (fun hle=>by omega)
 ·rcases k.new b hb with h1|h1
  ·exact h.new b h1
  ·exact .inr (Nat.le_trans h.fr.size h1)
theorem _root_.Go.Proofs.YtfjjoohflcchnaaDoor.EvoP.grows (h:EvoP Pr z S K v S' K' v') {u:World} (g:Grows v' u) (k:EvoP Pr' z S' K' u S'' K'' v'') (hp:∀ b,Pr' b→Pr b∨v.heap.size≤b):EvoP Pr z S K v S'' K'' v'':=by
 refine ⟨k.mem,k.blks.trans h.blks,⟨(k.fr.os.trans g.os).trans h.fr.os,(k.fr.output.trans g.output).trans h.fr.output,Nat.le_trans h.fr.size (Nat.le_trans g.size k.fr.size),fun x hx hs=>?_⟩,fun b hb=>?_⟩
 ·have hx':=Nat.lt_of_lt_of_le hx h.fr.size
  rw [k.fr.block x (Nat.lt_of_lt_of_le hx' g.size) (fun hi=>?_),g.old x hx',h.fr.block x hx hs]
  rcases hi with hi|hi
  ·exact (h.new x hi).elim (fun h=>hs (.inl h)) (fun hle=>by omega)
  ·exact (hp x hi).elim (fun h=>hs (.inr h)) (fun hle=>by omega)
 ·rcases k.new b hb with h1|h1
  ·exact h.new b h1
  ·exact .inr (Nat.le_trans h.fr.size (Nat.le_trans g.size h1))
theorem _root_.Go.Proofs.YtfjjoohflcchnaaDoor.EvoP.keeps (h:EvoP Pr z S K v S' K' v') {b:Nat} (hb:b<v.heap.size) (ho:¬ Own S K b) (hp:¬ Pr b):v'.heap[b]? = v.heap[b]?∧¬ Own S' K' b :=
 ⟨h.fr.block b hb (fun hi=>hi.elim ho hp),fun hi=>(h.new b hi).elim ho (fun hle=>by omega)⟩
theorem Gives.join {X:Fix mc} {Hm:Ph→(Nat→Prop)→(Nat→Option Obj)→Goroutine→Prop} {cont:Addr→Value} {Ch:Nat→Prop} {E E1 E':Nat→Prop} {M':Nat→Option Obj} {σ:TS} {κ:List (Nat×Int)} {l':Ph} {g':Goroutine} {w':World}
 (h:EvoP (fun b=>b=X.ab∨E b) z S K v S' K' v') (hbk:S'.bk=S.bk) (he:∀ b,E1 b→E b∨v.heap.size≤b) (k:Gives X Hm z cont Ch S' K' v' E1 σ κ l' E' M' g' w'):Gives X Hm z cont Ch S K v E σ κ l' E' M' g' w':=by
 obtain ⟨k1,k2,k3⟩:=k
 rw [hbk] at k3
 refine ⟨k1,fun b hb=>?_,atGive_mono (fun hF=>?_) k3⟩
 ·rcases k2 b hb with h1|h1
  ·exact he b h1
  ·exact .inr (Nat.le_trans h.fr.size h1)
 ·obtain ⟨v2,S2,q1,q2,q3,q4,q5⟩:=hF
  refine ⟨v2,S2,q1,q2,q3,h.join q4 (fun b hb=>?_),q5⟩
  rcases hb with rfl|hb
  ·exact .inl (.inl rfl)
  ·exact (he b hb).imp .inr id
end
def mind (X:Fix mc) (v:World) (b:Nat):Option Obj:=if X.Pr b then v.heap[b]? else none
def mindO (X:Fix mc) (v:World) (Mo:Nat→Option Obj) (b:Nat):Option Obj:=if Mo b≠none then Mo b else mind X v b
def CarryEnds (X:Fix mc) (cs:List Frame):Prop :=
 ∀ (z:Nat→Option Nat) (Ch:Nat→Prop) (Stop:Goroutine→World→Prop) (cont:Addr→Value) (w v:World) (S:TS) (K:List (Nat×Int)) (t:Thr) (sk:Bool) (u:Nat→Value),Rel z v w→NoRow Ch v→Mem z S K v→S.thr[X.i]? = some t→t.tb=X.tb→v.cell? ⟨X.bb,0,none⟩=some (Pt X.tb 0)→¬ Own S K X.bb →
   (∀ g w',GiveE z cont X.h S.bk (Then z Ch S K v (ended S X.i t) K) g w'→Stop g w') →
   GoesI Tryd.prog (X.h==0) (DT (ScZ z) Ch) Stop (G (cFr X.tb X.csl X.F X.asl X.calls.length X.calls.length sk u) cs) w
def Answers (X:Fix mc) (cs:List Frame) (ii:Nat) (ans:List (Int×Int)) (cu:Value→Goroutine):Prop :=
 ∀ (z:Nat→Option Nat) (Ch:Nat→Prop) (Stop:Goroutine→World→Prop) (w v:World) (S:TS) (K:List (Nat×Int)) (t:Thr) (e x:Int),Rel z v w→NoRow Ch v→Mem z S K v→S.thr[X.i]? = some t→t.tb=X.tb→(S.n+1)*40≤140737488355328→PM X ans v→(∀ b,X.Pr b→¬ Own S K b) →
   (∀ v' w' tv u',Rel z v' w'→NoRow Ch v'→EvoP (fun b=>b=X.ab) z S K v (noted S tv X.i 10 (-1) ii e) K v'→PM X (ans.set ii (e,x)) v'→GoesI Tryd.prog (X.h==0) (DT (ScZ z) Ch) Stop (G (cFr X.tb X.csl X.F X.asl X.calls.length (ii+1) (e==4) u') cs) w') →
   GoesI Tryd.prog (X.h==0) (DT (ScZ z) Ch) Stop (cu (.agg #[I e,I x])) w
section
variable {X:Fix mc} {ans:List (Int×Int)} {v v':World}
theorem row_of_cell {a:Addr} {x:Value} (h:v.cell? a=some x):∃ c e f,v.heap[a.block]? = some (.cells c e f):=by
 unfold World.cell? at h
 cases hh:v.heap[a.block]? with
 |none=>rw [hh] at h;cases h
 |some o =>
  rw [hh] at h
  cases o with
  |cells c e f=>exact ⟨c,e,f,rfl⟩
  |_=>cases h
theorem PM.isrow (h:PM X ans v) (ok:X.Ok) {b:Nat} (hb:X.Pr b):∃ c e f,v.heap[b]? = some (.cells c e f):=by
 have hbb:=row_of_cell h.box
 rcases hb with rfl|rfl|rfl|hb
 ·exact hbb
 ·by_cases hc:X.calls.length=0
  ·rw [(ok.e0 hc).1];exact hbb
  ·have h0:0<X.calls.length:=by omega
   exact row_of_cell (h.call 0 (X.calls[0]) (by simp [h0])).1
 ·by_cases hc:X.calls.length=0
  ·rw [(ok.e0 hc).2];exact hbb
  ·exact ⟨_,_,_,h.row (by omega)⟩
 ·obtain ⟨o,ho⟩:=Option.ne_none_iff_exists'.1 hb
  obtain ⟨c,e,f,rfl⟩:=ok.pk b o ho
  exact ⟨c,e,f,h.pk b _ ho⟩
theorem PM.lt (h:PM X ans v) (ok:X.Ok) {b:Nat} (hb:X.Pr b):b<v.heap.size:=by
 obtain ⟨c,e,f,hh⟩:=h.isrow ok hb
 exact (Array.getElem?_eq_some_iff.1 hh).1
theorem mind_row (h:PM X ans v) (ok:X.Ok) {b:Nat} {o:Obj} (hb:mind X v b=some o):∃ c e f,o=.cells c e f:=by
 unfold mind at hb
 split at hb
 ·rename_i hp
  obtain ⟨c,e,f,hh⟩:=h.isrow ok hp
  rw [hh] at hb
  cases hb
  exact ⟨c,e,f,rfl⟩
 ·cases hb
theorem PM.set (h:PM X ans v) {ii:Nat} (hi:ii<X.calls.length) (e x:Int) (hab:v'.heap[X.ab]? = ((v.setCell ⟨X.ab,ii*2,none⟩ (I e)).setCell ⟨X.ab,ii*2+1,none⟩ (I x)).heap[X.ab]?) (hs:∀ b,X.Pr b→b≠X.ab→v'.heap[b]? = v.heap[b]?) (hne:X.ab≠X.bb∧X.ab≠X.rb∧X.pk X.ab=none):PM X (ans.set ii (e,x)) v':=by
 have h0:0<X.calls.length:=by omega
 have hc:∀ (a:Addr) (y:Value),X.Pr a.block→a.block≠X.ab→v.cell? a=some y→v'.cell? a=some y:=fun a y hb hn ha=>by rw [World.cell?_of_block (hs a.block hb hn)];exact ha
 refine ⟨hc _ _ (.inl rfl) (Ne.symm hne.1) h.box,fun k c hk=>?_,fun _=>?_,by simpa using h.len,fun b o hb=>by rw [hs b (.inr (.inr (.inr (by rw [hb];simp)))) (fun e=>by rw [e,hne.2.2] at hb;cases hb)];exact h.pk b o hb⟩
 ·have:=h.call k c hk
  exact ⟨hc _ _ (.inr (.inl rfl)) (Ne.symm hne.2.1) this.1,hc _ _ (.inr (.inl rfl)) (Ne.symm hne.2.1) this.2.1,hc _ _ (.inr (.inl rfl)) (Ne.symm hne.2.1) this.2.2.1,hc _ _ (.inr (.inl rfl)) (Ne.symm hne.2.1) this.2.2.2⟩
 ·rw [hab,heap_setCell_same (heap_setCell_same (h.row h0) (I e)) (I x),arow_set _ _ _ _ (by rw [h.len];exact hi)]
  simp
theorem PM.cells (h:PM X ans v) {ii:Nat} (hi:ii<X.calls.length):∃ y0 y1,v.cell? ⟨X.ab,ii*2,none⟩=some (I y0)∧v.cell? ⟨X.ab,ii*2+1,none⟩=some (I y1)∧v.frozen? ⟨X.ab,ii*2,none⟩=false∧v.frozen? ⟨X.ab,ii*2+1,none⟩=false:=by
 have h0:=h.row (by omega)
 have hl:ii<ans.length:=by rw [h.len];exact hi
 have:=arow_get ans ii ans[ii] (by simp [hl])
 refine ⟨ans[ii].1,ans[ii].2,?_,?_,?_,?_⟩
 ·simp [World.cell?,h0,this.1]
 ·simp [World.cell?,h0,this.2]
 ·simp [World.frozen?,h0]
 ·simp [World.frozen?,h0]
theorem has_mind (hl:∀ b,X.Pr b→b<v.heap.size) {M:Nat→Option Obj} (hM:∀ b o,mind X v b=some o→M b=some o) (h:Has M v'):∀ b,X.Pr b→v'.heap[b]? = v.heap[b]?:=fun b hb=>by
 have e:v.heap[b]? = some v.heap[b]!:=by simp [hl b hb]
 rw [e]
 exact h b _ (hM b _ (by unfold mind;rw [if_pos hb,e]))
theorem sees_mind (h:PM X ans v) (ok:X.Ok):Sees X (fun _=>False) (mind X v) ans:=by
 refine ⟨fun _ h=>h.elim,fun b hb=>?_,fun _ h=>h.elim,fun v' hM=>h.stay (has_mind (fun b hb=>h.lt ok hb) (fun _ _ h=>h) hM),fun b hb=>?_,fun b o hb=>mind_row h ok hb⟩
 ·unfold mind at hb
  split at hb
  ·exact .inl ‹_›
  ·exact absurd rfl hb
 ·unfold mind
  rw [if_pos hb]
  simp [h.lt ok hb]
theorem sees_mindO (h:PM X ans v) (ok:X.Ok) {Mo:Nat→Option Obj} (h1:∀ b,Mo b≠none→¬ X.Pr b) (h2:∀ b o,Mo b=some o→∃ c e f,o=.cells c e f):Sees X (fun b=>Mo b≠none) (mindO X v Mo) ans:=by
 refine ⟨fun b hb=>?_,fun b hb=>?_,fun b hb hp=>h1 b hb hp,fun v' hM=>h.stay (has_mind (fun b hb=>h.lt ok hb) (fun b o hb=>?_) hM),fun b hb=>?_,fun b o hb=>?_⟩
 ·unfold mindO;rw [if_pos hb];exact hb
 ·unfold mindO at hb
  split at hb
  ·exact .inr ‹_›
  ·unfold mind at hb
   split at hb
   ·exact .inl ‹_›
   ·exact absurd rfl hb
 ·unfold mindO
  have hpr:X.Pr b:=by
   unfold mind at hb
   split at hb
   ·assumption
   ·cases hb
  rw [if_neg (fun e=>h1 b e hpr)]
  exact hb
 ·unfold mindO mind
  rw [if_neg (fun e=>h1 b e hb),if_pos hb]
  simp [h.lt ok hb]
 ·unfold mindO at hb
  split at hb
  ·exact h2 b o hb
  ·exact mind_row h ok hb
end
end Go.Proofs.YtfjjoohflcchnaaDoor.Gen
namespace Go.Proofs.YtfjjoohflcchnaaDoor.Gen
open Go Go.Lift Go.Conc Go.RowKit
open Go.ConcN (upd upd_same upd_ne)
variable {mc:Mc}
def FitsN:Ph→Thr→Prop
 |.turn op j _ _ _ _,t=>t.op=op∧t.ce=j
 |.wait _ _ _ _ _,_=>True
 |.done _,t=>t.st=3
theorem FitsN.fits {X:Fix mc} {l:Ph} {t:Thr} (h:FitsN l t):Fits X l t:=by
 match l,h with
 |.turn _ _ _ _ _ _,h=>exact h
 |.wait _ _ _ _ _,_=>trivial
 |.done _,_=>trivial
def StN:Ph→Thr→Prop
 |.turn _ _ _ _ _ _,t=>t.st=1
 |.wait _ _ _ _ _,t=>t.st=2
 |.done _,t=>t.st=3
theorem set_get {S:TS} {i:Nat} {t t':Thr} (ht:S.thr[i]? = some t):(S.thr.set i t')[i]? = some t':=by
 have hi:i<S.thr.length:=(List.getElem?_eq_some_iff.1 ht).1
 rw [List.getElem?_set,if_pos rfl,if_pos hi]
theorem did_thr {S:TS} {i:Nat} {tv:Value} {t t0:Thr} {b a:Int} (ht:S.thr[i]? = some t0):(didS S tv i t b a).thr[i]? = some t0:=by
 unfold didS
 split<;>exact ht
theorem flow_fs (i:Nat) (m:Mc):∀ (rest:List Cl) (ii:Nat) (sk:Bool) (ans:List (Int×Int)) (S:TS) (t:Thr),S.thr[i]? = some t→∃ t',(flow i m rest ii sk ans S).1.thr[i]? = some t'∧FitsN (flow i m rest ii sk ans S).2 t'∧StN (flow i m rest ii sk ans S).2 t'
 | [],ii,sk,ans,S,t,ht=>⟨{ thrI S i with st:=3 },set_get ht,rfl,rfl⟩
 |c :: rest,ii,true,ans,S,t,ht=>flow_fs i m rest (ii+1) true _ S t ht
 |c :: rest,ii,false,ans,S,t,ht=>by
  unfold flow
  split
  ·exact flow_fs i m rest (ii+1) _ _ _ t ht
  ·exact ⟨_,set_get (S:=noted S undef i 9 (-1) ii 0) ht,⟨rfl,rfl⟩,rfl⟩
  ·split
   ·exact flow_fs i m rest (ii+1) _ _ _ t ht
   ·exact ⟨_,set_get (S:=noted S undef i 9 (-1) ii 0) ht,trivial,rfl⟩
theorem on_fs (i:Nat) (m:Mc) (rest:List Cl) (ii:Nat) (ans:List (Int×Int)) (S:TS) (K:List (Nat×Int)) (x:Nx) (t:Thr) (ht:S.thr[i]? = some t):∃ t',(on i m rest ii ans S K x).1.thr[i]? = some t'∧FitsN (on i m rest ii ans S K x).2.2 t'∧StN (on i m rest ii ans S K x).2.2 t':=by
 cases x with
 |ans e x=>exact flow_fs i m rest (ii+1) _ _ (noted S undef i 10 (-1) ii e) t ht
 |turn op j q=>exact ⟨_,set_get ht,⟨rfl,rfl⟩,rfl⟩
 |wait j q =>
  rw [on_wait]
  split
  ·exact flow_fs i m rest (ii+1) _ _ (noted S undef i 10 (-1) ii _) t ht
  ·exact ⟨_,set_get ht,trivial,rfl⟩
theorem resume_fs (i:Nat) (m:Mc) (S:TS) (K:List (Nat×Int)) (t:Thr) (ht:S.thr[i]? = some t) (l:Ph) (hl:∀ a,l≠.done a):∃ t',(resume i m l S K).1.thr[i]? = some t'∧FitsN (resume i m l S K).2.2 t'∧StN (resume i m l S K).2.2 t':=by
 match l,hl with
 |.turn op j q rest ii ans,_=>rw [resume_turn];exact on_fs _ _ _ _ _ _ _ _ t (did_thr ht)
 |.wait j q rest ii ans,_ =>
  rw [resume_wait]
  split
  ·exact flow_fs i m rest (ii+1) _ _ (noted S undef i 10 (-1) ii _) t ht
  ·exact on_fs _ _ _ _ _ _ _ _ t ht
 |.done a,hl=>exact absurd rfl (hl a)
structure PSt where
 S:TS
 K:List (Nat×Int)
 l:Nat→Ph
def nextI (S:TS):Nat:=((rdyIds S S.thr.length)[pickAt S (rdyIds S S.thr.length)]?).getD 0
def pturn (nk:Mc) (p:PSt):Option PSt :=
 if rdyIds p.S p.S.thr.length=[] then
  if waits2 p.S p.S.thr.length then some ⟨stuckS p.S undef,p.K,p.l⟩ else none
 else
  some ⟨(resume (nextI p.S) nk (p.l (nextI p.S)) (going p.S (nextI p.S) (thrI p.S (nextI p.S))) p.K).1,(resume (nextI p.S) nk (p.l (nextI p.S)) (going p.S (nextI p.S) (thrI p.S (nextI p.S))) p.K).2.1,upd p.l (nextI p.S) (resume (nextI p.S) nk (p.l (nextI p.S)) (going p.S (nextI p.S) (thrI p.S (nextI p.S))) p.K).2.2⟩
section
variable {z:Nat→Option Nat} {Ch:Nat→Prop} {cont:Addr→Value} {v w:World} {c:Nat}
theorem kc_chan (hz:z c=none) (h:KC (ScZ z) cont w) (cap:Nat) (buf:Array Value) (cl:Bool) (a b:Nat) (tm:Bool):KC (ScZ z) cont (w.setChan c cap buf cl a b tm):=fun x hx=>by
 have hne:c≠x.block:=fun e=>by rw [e,hx.2] at hz;cases hz
 rw [World.cell?_of_block (heap_setChan_ne w cap buf cl a b tm hne)]
 exact h x hx
theorem rel_chan (hr:Rel z v w) (hz:z c=none) (cap:Nat) (buf:Array Value) (cl:Bool) (a b:Nat) (tm:Bool) (d:Nat):Rel z (v.setChan c cap buf cl a b tm) ((w.at d).setChan c cap buf cl a b tm):=by
 refine ⟨fun r=>?_,fun r n x e f hzr hh=>?_,fun r n hzr=>by simpa [World.setChan] using hr.low r n hzr,hr.os,hr.output⟩
 ·by_cases e:c=r
  ·subst e
   rw [hz]
   have hs:=hr.size
   by_cases hlt:c<v.heap.size
   ·have hlw:c<(w.at d).heap.size:=by show c<w.heap.size;omega
    rw [heap_setChan_self (w.at d) (Array.getElem?_eq_getElem hlw),heap_setChan_self v (Array.getElem?_eq_getElem hlt)]
    rfl
   ·have:¬ c<w.heap.size:=by omega
    simp [World.setChan,World.at,hlt,this]
  ·rw [heap_setChan_ne _ _ _ _ _ _ _ e,heap_setChan_ne _ _ _ _ _ _ _ e]
   exact hr.heap r
 ·have hne:c≠r:=fun e=>by rw [e,hzr] at hz;cases hz
  rw [heap_setChan_ne _ _ _ _ _ _ _ hne] at hh
  exact hr.kept r n x e f hzr hh
theorem has_chan {M:Nat→Option Obj} (h:Has M v) (hrow:∀ b o,M b=some o→∃ x e f,o=.cells x e f) (hc:∃ o,v.heap[c]? = some o∧∀ x e f,o≠.cells x e f) (cap:Nat) (buf:Array Value) (cl:Bool) (a b:Nat) (tm:Bool):Has M (v.setChan c cap buf cl a b tm):=fun y o ho=>by
 have hne:c≠y:=fun e=>by
  subst e
  obtain ⟨x,e,f,rfl⟩:=hrow _ o ho
  obtain ⟨o',h1,h2⟩:=hc
  rw [h _ _ ho] at h1
  cases h1
  exact h2 _ _ _ rfl
 rw [heap_setChan_ne _ _ _ _ _ _ _ hne]
 exact h y o ho
end
variable {mc:Mc}
section
variable {Wr:Nat→Prop} {z:Nat→Option Nat} {S S':TS} {K K':List (Nat×Int)} {v v':World}
theorem _root_.Go.Proofs.YtfjjoohflcchnaaDoor.Mem.row (h:Mem z S K v) {b:Nat} (hb:Own S K b):∃ c e f,v.heap[b]? = some (.cells c e f):=by
 have own:∀ {base:Nat} {e:TypeId} {size:Nat} {x:Value} {n:Nat} {xs:List Value},v.ownsRow base e size x n xs→x.ownBlock=some b→∃ c e f,v.heap[b]? = some (.cells c e f):=fun {base e size x n xs} ho hx=>by
  rcases ho.2 with ⟨rfl,_⟩|⟨g,cap,cur,rfl,_,h3,_⟩
  ·cases hx
  ·cases Option.some.inj hx
   exact ⟨_,_,_,h3⟩
 rcases hb with ⟨k,hk⟩|⟨j,c,hc,rfl⟩
 ·match k,hk with
  |0,hk=>cases hk;exact ⟨_,_,_,h.rep.wor⟩
  |1,hk=>exact own h.rep.chg hk
  |2,hk=>exact own h.rep.ths hk
  |3,hk=>exact own h.rep.own hk
  |4,hk=>exact own h.rep.sch hk
  |k+5,hk =>
   simp only [blk,Option.map_eq_some_iff] at hk
   obtain ⟨t,ht,rfl⟩:=hk
   exact ⟨_,_,_,h.rep.thr k t ht⟩
 ·exact ⟨_,_,_,h.cel j c hc⟩
theorem keepM (he:EvoP Wr z S K v S' K' v') {M:Nat→Option Obj} (hM:Has M v) (hfar:∀ b,M b≠none→¬ Own S K b) (hd:∀ b,M b≠none→¬ Wr b):Has M v'∧∀ b,M b≠none→¬ Own S' K' b:=by
 have k:∀ b o,M b=some o→v'.heap[b]? = v.heap[b]?∧¬ Own S' K' b:=fun b o hb=>he.keeps (Array.getElem?_eq_some_iff.1 (hM b o hb)).1 (hfar b (by rw [hb];simp)) (hd b (by rw [hb];simp))
 refine ⟨fun b o hb=>by rw [(k b o hb).1];exact hM b o hb,fun b hb=>?_⟩
 obtain ⟨o,ho⟩:=Option.ne_none_iff_exists'.1 hb
 exact (k b o ho).2
theorem Has.lt {M:Nat→Option Obj} (hM:Has M v) {b:Nat} (hb:M b≠none):b<v.heap.size:=by
 obtain ⟨o,ho⟩:=Option.ne_none_iff_exists'.1 hb
 exact (Array.getElem?_eq_some_iff.1 (hM b o ho)).1
end
structure Keep where
 M:Nat→Option Obj
 os:Os
 out:Array (Nat×ByteArray)
theorem has_ne {v:World} {M:Nat→Option Obj} {c:Nat} (h:Has M v) (hne:∀ b,M b≠none→b≠c) (cap:Nat) (buf:Array Value) (cl:Bool) (a b:Nat) (tm:Bool):Has M (v.setChan c cap buf cl a b tm):=fun y o ho=>by
 rw [heap_setChan_ne _ _ _ _ _ _ _ (fun e=>hne y (by rw [ho];simp) e.symm)]
 exact h y o ho
def Open (v:World) (c:Nat):Prop:=∃ cap n,v.heap[c]? = some (.chan cap #[] false n n false)
structure Crew (k:Nat) (X:Nat→Fix mc) (l:Nat→Ph) (E:Nat→Nat→Prop) (M:Nat→Nat→Option Obj) (Mm:Keep) (z:Nat→Option Nat) (cont:Addr→Value) (Ch:Nat→Prop) (S:TS) (K:List (Nat×Int)) (v:World) (gsz:Nat):Prop where
 len:k≤S.thr.length
 ok:∀ i,i<k→(X i).Ok∧(X i).i=i∧K.map (·.1)=(X i).kb
 thr:∀ i,i<k→∃ t,S.thr[i]? = some t∧t.tb=(X i).tb∧t.gc=(X i).gc∧FitsN (l i) t
 hinj:∀ i j,i<k→j<k→(X i).h=(X j).h→i=j
 ginj:∀ i j,i<k→j<k→(X i).gc=(X j).gc→i=j
 gbk:∀ i,i<k→(X i).gc≠S.bk
 hlt:∀ i,i<k→(X i).h<gsz
 zs:∀ i,i<k→z (X i).tb=some 2∧cont ⟨(X i).tb,2,none⟩=.chan (some (X i).gc)∧Ch (X i).gc
 z0:z S.wb=some 8∧cont ⟨S.wb,8,none⟩=.chan (some S.bk)∧Ch S.bk
 zc:∀ c,Ch c→z c=none
 opn:∀ c,Ch c→Open v c
 sees:∀ i,i<k→Sees (X i) (E i) (M i) (l i).ans∧Has (M i) v∧∀ b,M i b≠none→¬ Own S K b
 apart:∀ i j,i<k→j<k→i≠j→∀ b,M j b≠none→¬ (b=(X i).ab∨E i b)
 mine:Has Mm.M v∧(∀ b,Mm.M b≠none→¬ Own S K b)∧(∀ b,Mm.M b≠none→¬ Ch b)∧(∀ i,i<k→∀ b,Mm.M b≠none→¬ (b=(X i).ab∨E i b))∧v.os=Mm.os∧v.output=Mm.out
section
variable {k:Nat} {X:Nat→Fix mc} {l:Nat→Ph} {E:Nat→Nat→Prop} {M:Nat→Nat→Option Obj} {Mm:Keep} {z:Nat→Option Nat} {cont:Addr→Value} {Ch:Nat→Prop} {S S':TS} {K K':List (Nat×Int)} {v v':World} {gsz:Nat}
theorem Crew.noRow (h:Crew k X l E M Mm z cont Ch S K v gsz):NoRow Ch v:=fun c hc=>by
 obtain ⟨cap,n,hh⟩:=h.opn c hc
 exact ⟨_,hh,fun _ _ _ e=>by cases e⟩
theorem Crew.abM (h:Crew k X l E M Mm z cont Ch S K v gsz) {i:Nat} (hi:i<k) {b:Nat} (hb:b=(X i).ab∨E i b):M i b≠none:=by
 rcases hb with rfl|hb
 ·exact (h.sees i hi).1.pr _ (.inr (.inr (.inl rfl)))
 ·exact (h.sees i hi).1.ex _ hb
theorem open_stay {Wr:Nat→Prop} (hm:Mem z S K v) (he:EvoP Wr z S K v S' K' v') {c:Nat} (ho:Open v c) (hw:∀ b,Wr b→∃ x e f,v.heap[b]? = some (.cells x e f)):Open v' c:=by
 obtain ⟨cap,n,hh⟩:=ho
 refine ⟨cap,n,?_⟩
 rw [(he.keeps (b:=c) (Array.getElem?_eq_some_iff.1 hh).1 (fun h=>?_) (fun h=>?_)).1,hh]
 ·obtain ⟨x,e,f,h1⟩:=hm.row h
  rw [hh] at h1;cases h1
 ·obtain ⟨x,e,f,h1⟩:=hw c h
  rw [hh] at h1;cases h1
theorem Crew.chan (h:Crew k X l E M Mm z cont Ch S K v gsz) {c:Nat} (hc:Ch c) (cap n:Nat):Crew k X l E M Mm z cont Ch S K (v.setChan c cap #[] false n n false) gsz:=by
 obtain ⟨o,ho,hno⟩:=h.noRow c hc
 refine ⟨h.len,h.ok,h.thr,h.hinj,h.ginj,h.gbk,h.hlt,h.zs,h.z0,h.zc,fun c' hc'=>?_,fun i hi=>?_,h.apart,?_⟩
 ·by_cases e:c=c'
  ·subst e
   exact ⟨cap,n,heap_setChan_self v ho cap #[] false n n false⟩
  ·obtain ⟨cp,m,hh⟩:=h.opn c' hc'
   exact ⟨cp,m,by rw [heap_setChan_ne _ _ _ _ _ _ _ e];exact hh⟩
 ·have:=h.sees i hi
  exact ⟨this.1,has_chan this.2.1 this.1.row ⟨o,ho,hno⟩ cap #[] false n n false,this.2.2⟩
 ·exact ⟨has_ne h.mine.1 (fun b hb e=>h.mine.2.2.1 b hb (e▸hc)) cap #[] false n n false,h.mine.2⟩
theorem Crew.main (h:Crew k X l E M Mm z cont Ch S K v gsz) (hm:Mem z S K v) (he:Evo z S K v S' K v') (hwb:S'.wb=S.wb) (hbk:S'.bk=S.bk) (hlen:S'.thr.length=S.thr.length)
 (ht:∀ (i:Nat) (t:Thr),S.thr[i]? = some t→∃ t':Thr,S'.thr[i]? = some t'∧t'.tb=t.tb∧t'.gc=t.gc∧t'.op=t.op∧t'.ce=t.ce∧(t.st=3→t'.st=3)):Crew k X l E M Mm z cont Ch S' K v' gsz:=by
 have hp:EvoP (fun _=>False) z S K v S' K v':=he.toP
 refine ⟨by rw [hlen];exact h.len,h.ok,fun i hi=>?_,h.hinj,h.ginj,fun i hi=>by rw [hbk];exact h.gbk i hi,h.hlt,h.zs,by rw [hwb,hbk];exact h.z0,h.zc,fun c hc=>open_stay hm hp (h.opn c hc) (fun _ h=>h.elim),fun i hi=>?_,h.apart,?_⟩
 ·obtain ⟨t,h1,h2,h3,h4⟩:=h.thr i hi
  obtain ⟨t',k1,k2,k3,k4,k5,k6⟩:=ht i t h1
  refine ⟨t',k1,k2.trans h2,k3.trans h3,?_⟩
  match hl:l i,h4 with
  |.turn _ _ _ _ _ _,h4=>exact ⟨k4.trans h4.1,k5.trans h4.2⟩
  |.wait _ _ _ _ _,h4=>exact h4
  |.done _,h4=>exact k6 h4
 ·have:=h.sees i hi
  exact ⟨this.1,keepM hp this.2.1 this.2.2 (fun _ _ h=>h)⟩
 ·have:=keepM hp h.mine.1 h.mine.2.1 (fun _ _ h=>h)
  exact ⟨this.1,this.2,h.mine.2.2.1,h.mine.2.2.2.1,he.fr.os.trans h.mine.2.2.2.2.1,he.fr.output.trans h.mine.2.2.2.2.2⟩
theorem Crew.thread (h:Crew k X l E M Mm z cont Ch S K v gsz) (hm:Mem z S K v) {i:Nat} (hi:i<k) (he:EvoP (fun b=>b=(X i).ab∨E i b) z S K v S' K' v') (hst:Sta i S S') {l':Ph} {E':Nat→Prop} {M':Nat→Option Obj}
 (hfit:∃ t',S'.thr[i]? = some t'∧FitsN l' t') (hs:Sees (X i) E' M' l'.ans) (hM':Has M' v') (hfar:∀ b,M' b≠none→¬ Own S' K' b) (hnew:∀ b,E' b→E i b∨v.heap.size≤b) :
 Crew k X (upd l i l') (upd E i E') (upd M i M') Mm z cont Ch S' K' v' gsz:=by
 have hlt:∀ j,j<k→∀ b,M j b≠none→b<v.heap.size:=fun j hj b hb=>(h.sees j hj).2.1.lt hb
 have hrow:∀ b,(b=(X i).ab∨E i b)→∃ x e f,v.heap[b]? = some (.cells x e f):=fun b hb=>by
  obtain ⟨o,ho⟩:=Option.ne_none_iff_exists'.1 (h.abM hi hb)
  obtain ⟨x,e,f,rfl⟩:=(h.sees i hi).1.row b o ho
  exact ⟨x,e,f,(h.sees i hi).2.1 b _ ho⟩
 have hdom:∀ b,M' b≠none→M i b≠none∨v.heap.size≤b:=fun b hb=>by
  rcases hs.dom b hb with h1|h1
  ·exact .inl ((h.sees i hi).1.pr b h1)
  ·rcases hnew b h1 with h2|h2
   ·exact .inl ((h.sees i hi).1.ex b h2)
   ·exact .inr h2
 refine ⟨by rw [hst.len];exact h.len,fun j hj=>⟨(h.ok j hj).1,(h.ok j hj).2.1,he.blks.trans (h.ok j hj).2.2⟩,fun j hj=>?_,h.hinj,h.ginj,fun j hj=>by rw [hst.bk];exact h.gbk j hj,h.hlt,h.zs,by rw [hst.wb,hst.bk];exact h.z0,h.zc,fun c hc=>open_stay hm he (h.opn c hc) hrow,fun j hj=>?_,fun a j ha hj hne b hb hx=>?_,?_⟩
 ·obtain ⟨t,h1,h2,h3,h4⟩:=h.thr j hj
  by_cases e:j=i
  ·subst e
   obtain ⟨t',k1,k2⟩:=hfit
   obtain ⟨t2,q1,q2,q3⟩:=hst.own t h1
   rw [k1] at q1
   cases q1
   exact ⟨t',k1,q2.trans h2,q3.trans h3,by rw [upd_same];exact k2⟩
  ·exact ⟨t,by rw [hst.oth j e];exact h1,h2,h3,by rw [upd_ne _ _ e];exact h4⟩
 ·by_cases e:j=i
  ·subst e
   rw [upd_same,upd_same,upd_same]
   exact ⟨hs,hM',hfar⟩
  ·rw [upd_ne _ _ e,upd_ne _ _ e,upd_ne _ _ e]
   have:=h.sees j hj
   exact ⟨this.1,keepM he this.2.1 this.2.2 (h.apart i j hi hj (fun e'=>e e'.symm))⟩
 ·by_cases e1:j=i
  ·subst e1
   rw [upd_same] at hb
   have hne':a≠j:=hne
   rw [upd_ne _ _ hne'] at hx
   rcases hdom b hb with h1|h1
   ·exact h.apart a j ha hj hne b h1 hx
   ·have:=hlt a ha b (h.abM ha hx)
    omega
  ·rw [upd_ne _ _ e1] at hb
   by_cases e2:a=i
   ·subst e2
    rw [upd_same] at hx
    rcases hx with h1|h1
    ·exact h.apart a j ha hj hne b hb (.inl h1)
    ·rcases hnew b h1 with h2|h2
     ·exact h.apart a j ha hj hne b hb (.inr h2)
     ·have:=hlt j hj b hb;omega
   ·rw [upd_ne _ _ e2] at hx
    exact h.apart a j ha hj hne b hb hx
 ·have:=keepM he h.mine.1 h.mine.2.1 (h.mine.2.2.2.1 i hi)
  refine ⟨this.1,this.2,h.mine.2.2.1,fun a ha b hb hx=>?_,he.fr.os.trans h.mine.2.2.2.2.1,he.fr.output.trans h.mine.2.2.2.2.2⟩
  by_cases e2:a=i
  ·subst e2
   rw [upd_same] at hx
   rcases hx with h1|h1
   ·exact h.mine.2.2.2.1 a ha b hb (.inl h1)
   ·rcases hnew b h1 with h2|h2
    ·exact h.mine.2.2.2.1 a ha b hb (.inr h2)
    ·have:=h.mine.1.lt hb;omega
  ·rw [upd_ne _ _ e2] at hx
   exact h.mine.2.2.2.1 a ha b hb hx
end
structure Seats (k N:Nat) (X:Nat→Fix mc) (l:Nat→Ph) (E:Nat→Nat→Prop) (M:Nat→Nat→Option Obj) (bk:Nat) (Inb:Nat→Option Seat):Prop where
 seat:∀ i,i<k→∃ n,N≤n∧Inb (X i).h=seatOf (X i) (Home (X i) n) (l i) (E i) (M i)
 none:∀ g,g≠0→(∀ i,i<k→(X i).h≠g)→Inb g=none
 main:∀ s c,Inb 0=some s→s.has c→c=bk
section
variable {k N:Nat} {X:Nat→Fix mc} {l:Nat→Ph} {E:Nat→Nat→Prop} {M:Nat→Nat→Option Obj} {bk:Nat} {Inb:Nat→Option Seat}
theorem seatOf_has {Y:Fix mc} {Hm:Ph→(Nat→Prop)→(Nat→Option Obj)→Goroutine→Prop} {p:Ph} {e:Nat→Prop} {m:Nat→Option Obj} {s:Seat} (h:seatOf Y Hm p e m=some s):s=seatT Y.gc (Hm p e m)∧∀ a,p≠.done a:=by
 cases p with
 |turn=>cases h;exact ⟨rfl,fun _ h=>by cases h⟩
 |wait=>cases h;exact ⟨rfl,fun _ h=>by cases h⟩
 |done=>cases h
theorem Seats.who (h:Seats k N X l E M bk Inb) {g:Nat} {s:Seat} {c:Nat} (hg:Inb g=some s) (hc:s.has c):(g=0∧c=bk)∨∃ i,i<k∧(X i).h=g∧c=(X i).gc:=by
 by_cases e0:g=0
 ·subst e0
  exact .inl ⟨rfl,h.main s c hg hc⟩
 ·by_cases hx:∃ i,i<k∧(X i).h=g
  ·obtain ⟨i,hi,rfl⟩:=hx
   obtain ⟨n,_,hs⟩:=h.seat i hi
   rw [hs] at hg
   obtain ⟨rfl,_⟩:=seatOf_has hg
   exact .inr ⟨i,hi,rfl,Seat.one_has.1 hc⟩
  ·rw [h.none g e0 (fun i hi e=>hx ⟨i,hi,e⟩)] at hg
   cases hg
end
variable {mc:Mc}
def HomeT (wb:Nat) (cs:List Frame) (g:Goroutine):Prop:=∀ (z:Nat→Option Nat) (Ch:Nat→Prop) (Stop:Goroutine→World→Prop) (x:Value) (w:World),(∀ u,GoesI Tryd.prog true (DT (ScZ z) Ch) Stop (G (tFr wb u) cs) w)→GoesI Tryd.prog true (DT (ScZ z) Ch) Stop (Go.Conc.served g x) w
theorem atGive_at {K:World→Prop} {Still:Loc→Prop} {h c:Nat} {v:Value} {o:Option Seat} {F:World→Prop} {a:Goroutine} {w:World} (hF:∀ d,F w→F (w.at d)) (hg:Lift.AtGive Tryd.prog K Still h c v o F a w) (d:Nat):Lift.AtGive Tryd.prog K Still h c v o F a (w.at d):=by
 obtain ⟨h1,h2,a₂,z,es,nh,B₀,hB,hs,rest⟩:=hg
 exact ⟨h1,hF d h2,a₂,z,es,nh,B₀,hB,fun d'=>hs d',rest⟩
structure Holds (k N:Nat) (X:Nat→Fix mc) (l:Nat→Ph) (E:Nat→Nat→Prop) (M:Nat→Nat→Option Obj) (Mm:Keep) (z:Nat→Option Nat) (cont:Addr→Value) (Ch:Nat→Prop) (S:TS) (K:List (Nat×Int)) (v:World) (B:Nat) (Mb:Nat→Prop) (Inb:Nat→Option Seat) (h:Nat) (T:Trace) (gs:Array Goroutine) (w:World) (q:Nat→Nat):Prop where
 ring:Ring Tryd.prog (KC (ScZ z) cont) (StillC (ScZ z)) B Mb Inb h T gs w q
 mb:Mb h
 b:B≤w.heap.size
 rel:Rel z v w
 mem:Mem z S K v
 crew:Crew k X l E M Mm z cont Ch S K v gs.size
 seats:Seats k N X l E M S.bk Inb
 len:S.thr.length=k
 stt:∀ i,i<k→∀ t,S.thr[i]? = some t→StN (l i) t
section
variable {k N:Nat} {X:Nat→Fix mc} {l:Nat→Ph} {E:Nat→Nat→Prop} {M:Nat→Nat→Option Obj} {Mm:Keep} {z:Nat→Option Nat} {cont:Addr→Value} {Ch:Nat→Prop} {S:TS} {K:List (Nat×Int)} {v:World} {B:Nat} {Mb:Nat→Prop} {Inb:Nat→Option Seat} {h:Nat} {T:Trace} {gs:Array Goroutine} {w:World} {q:Nat→Nat}
theorem seat_ch {gsz:Nat} (cr:Crew k X l E M Mm z cont Ch S K v gsz) (st:Seats k N X l E M S.bk Inb):∀ g s c,Inb g=some s→s.has c→Ch c:=fun g s c hg hc=>by
 rcases st.who hg hc with ⟨_,rfl⟩|⟨i,hi,_,rfl⟩
 ·exact cr.z0.2.2
 ·exact (cr.zs i hi).2.2
theorem open_rel {v' w':World} (hr:Rel z v' w') (hn:NoRow Ch v') {c:Nat} (hc:Ch c) (ho:Open v' c):∃ cap k,w'.heap[c]? = some (.chan cap #[] false k k false):=by
 obtain ⟨cap,n,hh⟩:=ho
 exact ⟨cap,n,by rw [noRow_rel hr hn hc];exact hh⟩
theorem rdy_mem {i:Nat} (hi:(rdyIds S S.thr.length)[pickAt S (rdyIds S S.thr.length)]? = some i):i<S.thr.length∧(S.thr[i]?).any (rdy S)=true:=by
 have:=List.mem_of_getElem? hi
 unfold rdyIds at this
 rw [List.mem_filter,List.mem_range] at this
 exact this
theorem round_go {u:Nat→Value} {cs:List Frame} (H:Holds k (N+1) X l E M Mm z cont Ch S K v B Mb Inb 0 T gs w q) (hg:gs[0]? = some (G (tFr S.wb u) cs)) (h8:k≤8) (hsl:S.sched.length≤4611686018427387904) (hsc:∀ x∈S.sched,-9223372036854775808≤x∧x<9223372036854775808)
 {i:Nat} (hi:(rdyIds S S.thr.length)[pickAt S (rdyIds S S.thr.length)]? = some i) (sl:Option (Nat×Nat)) (hl:(resume i mc (l i) (nv (going S i (thrI S i))) K).1.n*40≤140737488355328) :
 ∃ (N':Nat) (gs':Array Goroutine) (w':World) (sl':Option (Nat×Nat)) (T':Trace) (q':Nat→Nat) (B':Nat) (Mb':Nat→Prop) (Inb':Nat→Option Seat) (S':TS) (v':World) (E':Nat→Nat→Prop) (M':Nat→Nat→Option Obj) (u':Nat→Value),
   runNT Tryd.prog N' (crowd gs w sl) T=(.next (crowd gs' w' sl'),T')∧gs'.size=gs.size∧gs'[0]? = some (G (tFr S'.wb u') cs)∧nv S'=(resume i mc (l i) (nv (going S i (thrI S i))) K).1 ∧
   Holds k N X (upd l i (resume i mc (l i) (nv (going S i (thrI S i))) K).2.2) E' M' Mm z cont Ch S' (resume i mc (l i) (nv (going S i (thrI S i))) K).2.1 v' B' Mb' Inb' 0 T' gs' w' q':=by
 have cr:=H.crew
 have st:=H.seats
 obtain ⟨hik,hrd⟩:=rdy_mem hi
 rw [H.len] at hik
 obtain ⟨t,ht,htb,hgc,hfit⟩:=cr.thr i hik
 obtain ⟨ok,hXi,hXk⟩:=cr.ok i hik
 have hst3:t.st≠3:=by
  rw [ht] at hrd
  simp only [Option.any_some] at hrd
  intro e
  unfold rdy at hrd
  rw [e] at hrd
  simp at hrd
 have eth:thrI S i=t:=thrI_of ht
 rw [eth] at hl ⊢
 have h0h:0≠(X i).h:=fun e=>by have:=ok.h;omega
 obtain ⟨n,hn,hseat⟩:=st.seat i hik
 obtain ⟨n',rfl⟩:∃ n',n=n'+1:=⟨n - 1,by omega⟩
 have hcons:∀ a,l i≠.done a:=fun a e=>by rw [e] at hfit;exact hst3 hfit
 have hseat':Inb (X i).h=some (seatT (X i).gc (Home (X i) (n'+1) (l i) (E i) (M i))):=by
  rw [hseat]
  match hli:l i,hcons with
  |.turn _ _ _ _ _ _,_=>rfl
  |.wait _ _ _ _ _,_=>rfl
  |.done a,hc=>exact absurd rfl (hc a)
 have hG:GoesI Tryd.prog ((0:Nat)==0) (DT (ScZ z) Ch) (Lift.AtGive Tryd.prog (KC (ScZ z) cont) (StillC (ScZ z)) 0 t.gc (.agg #[]) (some (Seat.one S.bk (.agg #[]) false (HomeT S.wb cs))) (Then z Ch S K v (going S i t) K)) (G (tFr S.wb u) cs) w :=
  turn_in u cs (fun bd ad od qd rd oe kd hoe hT hF code hcode=>turn50_goes cs (HomeT S.wb cs) hoe (fun g hb z Ch Stop x w h=>hb _ Stop x w (dt_idle _ _) (hT z Ch Stop w h)) H.rel cr.noRow H.mem (by rw [H.len];exact h8) hsl hsc (List.length_pos_of_mem (List.mem_of_getElem? hi)) hi ht cr.z0.1 cr.z0.2.1 (fun g w' hg=>hg) code hcode)
 rw [hgc] at hG
 have hch0:=seat_ch cr st
 have hup0:∀ g s c,upd Inb 0 (some (Seat.one S.bk (.agg #[]) false (HomeT S.wb cs))) g=some s→s.has c→Ch c:=fun g s c hg hc=>by
  by_cases e:g=0
  ·subst e;rw [upd_same] at hg;cases hg
   rw [Seat.one_has.1 hc];exact cr.z0.2.2
  ·rw [upd_ne _ _ e] at hg;exact hch0 g s c hg hc
 obtain ⟨N1,gs1,w1,g₂,d,kk,cap,sl1,T1,q1,B1,r1,⟨v1,hr1,hn1,he1⟩,z1,h1,hh,hch,⟨hB1,hB1b,hB1c⟩,C1⟩:=pass_on (Inb:=Inb) (Mem:=Mb) (h:=0) (j:=(X i).h) (c:=(X i).gc) (kk:=0) (z:=.agg #[]) (fun w d h=>kc_at w d h)
  (fun s hs=>by
    cases hs
    refine ⟨Seat.one_wf _ _ _ _,fun g s' c hg hs' hc hc'=>?_,fun w' hF c hc=>?_⟩
    ·rw [Seat.one_has.1 hc'] at hc
     rcases st.who hs' hc with ⟨e,_⟩|⟨j,hj,_,e⟩
     ·exact hg e
     ·exact cr.gbk j hj e.symm
    ·obtain ⟨v1,k1,k2,k3⟩:=hF
     rw [Seat.one_has.1 hc]
     exact open_rel k1 k2 cr.z0.2.2 (open_stay H.mem (Evo.toP (Pr:=fun _=>False) k3) (cr.opn _ cr.z0.2.2) (fun _ h=>h.elim)))
  (fun w g s c cap buf cl a b tm hg hc hK=>kc_chan (cr.zc c (hup0 g s c hg hc)) hK cap buf cl a b tm)
  (fun w g s c cap buf cl a b tm hg hc hK=>kc_chan (cr.zc c (hch0 g s c hg hc)) hK cap buf cl a b tm)
  (dh_of_dt hch0) (Ne.symm h0h) hseat' rfl H.mb hG gs sl T q B (cr.hlt i hik) hg H.ring
 have hgCh:=(cr.zs i hik).2.2
 have hS1:(going S i t).wb=S.wb∧(going S i t).bk=S.bk∧(going S i t).thr=S.thr.set i { t with st:=0 }:=by
  unfold going picked
  split<;>exact ⟨rfl,rfl,rfl⟩
 have ht1:(going S i t).thr[i]? = some { t with st:=0 }:=by rw [hS1.2.2];exact set_get ht
 have cr1:Crew k X l E M Mm z cont Ch (going S i t) K v1 gs.size:=cr.main H.mem he1 hS1.1 hS1.2.1 (by rw [hS1.2.2,List.length_set]) (fun j t0 hj=>by
  rw [hS1.2.2]
  by_cases e:j=i
  ·subst e
   rw [ht] at hj
   cases hj
   exact ⟨_,set_get ht,rfl,rfl,rfl,rfl,fun h=>absurd h hst3⟩
  ·exact ⟨t0,by rw [List.getElem?_set,if_neg (fun e'=>e e'.symm)];exact hj,rfl,rfl,rfl,rfl,id⟩)
 have hno1:∀ (x:Array Value) (e:TypeId) (f:Nat×Nat),Obj.chan cap #[] false kk kk false≠Obj.cells x e f:=fun _ _ _ h=>by cases h
 have hv1c:v1.heap[(X i).gc]? = some (.chan cap #[] false kk kk false):=by rw [←noRow_rel hr1 hn1 hgCh];exact hch
 have cr2:=cr1.chan hgCh cap (kk+1)
 have hm2:Mem z (going S i t) K (v1.setChan (X i).gc cap #[] false (kk+1) (kk+1) false):=he1.mem.chan hv1c hno1 cap #[] false (kk+1) (kk+1) false
 have hr2:=rel_chan hr1 (cr.zc _ hgCh) cap #[] false (kk+1) (kk+1) false d
 generalize hv2:v1.setChan (X i).gc cap #[] false (kk+1) (kk+1) false=v2 at cr2 hm2 hr2
 generalize hw2:(w1.at d).setChan (X i).gc cap #[] false (kk+1) (kk+1) false=w2 at hr2 C1 r1
 have hw2s:w2.heap.size=w1.heap.size:=by rw [←hw2];simp [World.setChan,World.at]
 have eR:resume (X i).i mc (l i) (nv (going S i t)) K=resume i mc (l i) (nv (going S i t)) K:=by rw [hXi]
 have hfit1:FitsN (l i) { t with st:=0 }:=by
  match hli:l i,hcons,hfit with
  |.turn _ _ _ _ _ _,_,hf=>exact hf
  |.wait _ _ _ _ _,_,hf=>exact hf
  |.done a,hc,_=>exact absurd rfl (hc a)
 have hG2:GoesI Tryd.prog ((X i).h==0) (DT (ScZ z) Ch) (fun g' w'=>∃ E' M',Gives (X i) (Home (X i) n') z cont Ch (going S i t) K v2 (E i) (resume i mc (l i) (nv (going S i t)) K).1 (resume i mc (l i) (nv (going S i t)) K).2.1 (resume i mc (l i) (nv (going S i t)) K).2.2 E' M' g' w') (Go.Conc.served g₂ (commResult (seatT (X i).gc (Home (X i) (n'+1) (l i) (E i) (M i))).cases (seatT (X i).gc (Home (X i) (n'+1) (l i) (E i) (M i))).shape ((0:Nat):Int) (.agg #[]) true)) w2:=by
  have hhome:Home (X i) (n'+1) (l i) (E i) (M i) g₂:=hh
  refine hhome z Ch _ cont _ w2 v2 (going S i t) K { t with st:=0 } hr2 cr2.noRow hm2 (by rw [hXi];exact ht1) htb hgc hfit1.fits hXk (cr.zs i hik).1 (cr.zs i hik).2.1 (cr2.sees i hik).2.1 (cr2.sees i hik).2.2 (by rw [eR];exact hl) (fun g' w' E' M' hgv=>⟨E',M',?_⟩)
  rw [eR] at hgv
  exact hgv
 generalize hR:resume i mc (l i) (nv (going S i t)) K=R at hG2 hl ⊢
 have st1:Seats k (N+1) X l E M S.bk (upd Inb 0 (some (Seat.one S.bk (.agg #[]) false (HomeT S.wb cs)))):=by
  refine ⟨fun j hj=>?_,fun g hg0 hgn=>by rw [upd_ne _ _ hg0];exact st.none g hg0 hgn,fun s c hs hc=>?_⟩
  ·rw [upd_ne _ _ (fun e=>by have:=(cr.ok j hj).1.h;omega)]
   exact st.seat j hj
  ·rw [upd_same] at hs;cases hs
   exact Seat.one_has.1 hc
 obtain ⟨N2,gs2,a2,w3,sl2,T2,q2,B2,r2,z2,h2,⟨E',M',hs',hnew',hat⟩,⟨hB2,hB2b,hB2c⟩,C2⟩:=hold_goes (fun w d h=>kc_at w d h) (dh_of_dt hup0) hG2 gs1 sl1 T1 q1 B1 h1 C1
 have hbk1:(going S i t).bk=S.bk:=hS1.2.1
 rw [hbk1] at hat
 have hwbk:Ch S.bk:=cr.z0.2.2
 have hupd2:∀ g s c,upd (upd Inb 0 (some (Seat.one S.bk (.agg #[]) false (HomeT S.wb cs)))) (X i).h (seatOf (X i) (Home (X i) n') R.2.2 E' M') g=some s→s.has c→Ch c:=fun g s c hg hc=>by
  by_cases e:g=(X i).h
  ·subst e;rw [upd_same] at hg
   obtain ⟨rfl,_⟩:=seatOf_has hg
   rw [Seat.one_has.1 hc];exact hgCh
  ·rw [upd_ne _ _ e] at hg;exact hup0 g s c hg hc
 have hrow2:∀ b,(b=(X i).ab∨E i b)→∃ x e f,v2.heap[b]? = some (.cells x e f):=fun b hb=>by
  obtain ⟨o,ho⟩:=Option.ne_none_iff_exists'.1 (cr2.abM hik hb)
  obtain ⟨x,e,f,rfl⟩:=(cr2.sees i hik).1.row b o ho
  exact ⟨x,e,f,(cr2.sees i hik).2.1 b _ ho⟩
 have hMi:Mb (X i).h:=(H.ring.mem _ _ hseat').1
 obtain ⟨N3,gs3,w4,g₃,d3,kk3,cap3,sl3,T3,q3,B3,r3,hF3,z3,h3,hh3,hch3,⟨hB3,hB3b,hB3c⟩,C3⟩:=pass_on (Inb:=upd Inb 0 (some (Seat.one S.bk (.agg #[]) false (HomeT S.wb cs)))) (h:=(X i).h) (j:=0) (c:=S.bk) (kk:=0) (z:=.agg #[]) (s:=Seat.one S.bk (.agg #[]) false (HomeT S.wb cs)) (fun w d h=>kc_at w d h)
  (fun s hs=>by
    obtain ⟨rfl,_⟩:=seatOf_has hs
    refine ⟨Seat.one_wf _ _ _ _,fun g s' c hg hs'' hc hc'=>?_,fun w' hF c hc=>?_⟩
    ·have ec:c=(X i).gc:=Seat.one_has.1 hc'
     rw [ec] at hc
     rcases st1.who hs'' hc with ⟨_,e⟩|⟨j,hj,hjg,e⟩
     ·exact cr.gbk i hik e
     ·exact hg (by rw [←hjg,cr.ginj i j hik hj e])
    ·obtain ⟨v3,S',k1,k2,k3,k4,k5⟩:=hF
     rw [show c=(X i).gc from Seat.one_has.1 hc]
     exact open_rel k1 k2 hgCh (open_stay hm2 k4 (cr2.opn _ hgCh) hrow2))
  (fun w g s c cap buf cl a b tm hg hc hK=>kc_chan (cr.zc c (hupd2 g s c hg hc)) hK cap buf cl a b tm)
  (fun w g s c cap buf cl a b tm hg hc hK=>kc_chan (cr.zc c (hup0 g s c hg hc)) hK cap buf cl a b tm)
  (D:=DT (ScZ z) Ch) (dh_of_dt hup0) h0h (upd_same _ _ _) rfl ⟨hMi,.inr rfl⟩
  (GoesI.stop (fun d=>atGive_at (fun d hF=>by obtain ⟨v3,S',k1,k2⟩:=hF;exact ⟨v3,S',k1.re rfl rfl rfl rfl rfl rfl,k2⟩) hat d)) gs2 sl2 T2 q2 B2 (by have:=(Array.getElem?_eq_some_iff.1 hg).1;omega) h2 C2
 obtain ⟨v3,S',hr3,hn3,hS',he3,hM3,hfar3⟩:=hF3
 have sR:=resume_sta i mc (l i) (nv (going S i t)) K
 rw [hR,←hS'] at sR
 have sR':Sta i (going S i t) S':=⟨sR.wb,sR.bk,sR.base,sR.us,sR.la,sR.sc,sR.cv,sR.ths,sR.sched,sR.stk,sR.ran,sR.n,sR.chg,sR.len,sR.oth,sR.own⟩
 have hfit':∃ t',S'.thr[i]? = some t'∧FitsN R.2.2 t':=by
  obtain ⟨t',k1,k2,_⟩:=resume_fs i mc (nv (going S i t)) K { t with st:=0 } ht1 (l i) hcons
  rw [hR,←hS'] at k1
  rw [hR] at k2
  exact ⟨t',k1,k2⟩
 have cr3:=cr2.thread hm2 hik he3 sR' hfit' hs' hM3 hfar3 hnew'
 have hwb':S'.wb=S.wb:=sR'.wb.trans hS1.1
 have hbk':S'.bk=S.bk:=sR'.bk.trans hS1.2.1
 have hv3c:v3.heap[S.bk]? = some (.chan cap3 #[] false kk3 kk3 false):=by rw [←noRow_rel hr3 hn3 hwbk];exact hch3
 have cr4:=cr3.chan hwbk cap3 (kk3+1)
 have hm4:Mem z S' R.2.1 (v3.setChan S.bk cap3 #[] false (kk3+1) (kk3+1) false):=he3.mem.chan hv3c (fun _ _ _ h=>by cases h) cap3 #[] false (kk3+1) (kk3+1) false
 have hr4:=rel_chan hr3 (cr.zc _ hwbk) cap3 #[] false (kk3+1) (kk3+1) false d3
 generalize hv4:v3.setChan S.bk cap3 #[] false (kk3+1) (kk3+1) false=v4 at cr4 hm4 hr4
 generalize hw5:(w4.at d3).setChan S.bk cap3 #[] false (kk3+1) (kk3+1) false=w5 at hr4 C3 r3
 have hw5s:w5.heap.size=w4.heap.size:=by rw [←hw5];simp [World.setChan,World.at]
 have hG4:GoesI Tryd.prog ((0:Nat)==0) (DT (ScZ z) Ch) (fun g w'=>(∃ u,g=G (tFr S.wb u) cs)∧Rel z v4 w') (Go.Conc.served g₃ (commResult (Seat.one S.bk (.agg #[]) false (HomeT S.wb cs)).cases (Seat.one S.bk (.agg #[]) false (HomeT S.wb cs)).shape ((0:Nat):Int) (.agg #[]) true)) w5:=by
  have hhome:HomeT S.wb cs g₃:=hh3
  exact hhome z Ch _ _ w5 (fun u=>GoesI.stop fun d=>⟨⟨u,rfl⟩,hr4.re rfl rfl rfl rfl rfl rfl⟩)
 obtain ⟨N4,gs4,a4,w6,sl4,T4,q4,B4,r4,z4,h4,⟨⟨u4,rfl⟩,hr6⟩,⟨hB4,hB4b,hB4c⟩,C4⟩:=hold_goes (fun w d h=>kc_at w d h) (dh_of_dt hupd2) hG4 gs3 sl3 T3 q3 B3 h3 C3
 have hsz:gs4.size=gs.size:=by omega
 refine ⟨N1+N2+N3+N4,gs4,w6,sl4,T4,q4,B4,_,_,S',v4,upd E i E',upd M i M',u4,runNT_then (runNT_then (runNT_then r1 r2) r3) r4,hsz,by rw [hwb'];exact h4,hS',⟨C4,⟨⟨H.mb,.inl (by rw [upd_same];simp)⟩,.inr rfl⟩,?_,hr6,hm4,by rw [hsz];exact cr4,?_,by rw [sR'.len,hS1.2.2,List.length_set];exact H.len,fun j hj t0 hj0=>?_⟩⟩
 ·have:=H.b
  omega
 ·rw [hbk']
  refine ⟨fun j hj=>?_,fun g hg0 hgn=>?_,fun s c hs hc=>?_⟩
  ·by_cases e:j=i
   ·subst e
    exact ⟨n',by omega,by rw [upd_same,upd_same,upd_same,upd_same]⟩
   ·have hne:(X j).h≠(X i).h:=fun e'=>e (cr.hinj j i hj hik e')
    obtain ⟨m,hm,hsm⟩:=st1.seat j hj
    exact ⟨m,by omega,by rw [upd_ne _ _ hne,upd_ne _ _ e,upd_ne _ _ e,upd_ne _ _ e];exact hsm⟩
  ·rw [upd_ne _ _ (fun e=>hgn i hik e.symm)]
   exact st1.none g hg0 hgn
  ·rw [upd_ne _ _ h0h] at hs
   exact st1.main s c hs hc
 ·by_cases e:j=i
  ·subst e
   obtain ⟨t',k1,_,k2⟩:=resume_fs j mc (nv (going S j t)) K { t with st:=0 } ht1 (l j) hcons
   rw [hR,←hS'] at k1
   rw [hR] at k2
   have e2:some t0=some t':=hj0.symm.trans k1
   cases e2
   rw [upd_same]
   exact k2
  ·rw [upd_ne _ _ e]
   rw [sR'.oth j e,hS1.2.2,List.getElem?_set,if_neg (fun e'=>e e'.symm)] at hj0
   exact H.stt j hj t0 hj0
end
end Go.Proofs.YtfjjoohflcchnaaDoor.Gen
