/- Of the proof of OnceLinear. Part 14 of 30. (Joined, by program, and written short, of: GPlay, GLit, GObj, GEnd, GLoneX, GMeas.) -/
import Derived.Test.YtaofjdoielmobaaDoorOnceLinear12
import Derived.Test.YtaofjdoielmobaaDoorOnceLinear13
set_option linter.unusedSimpArgs false
set_option linter.unusedVariables false
set_option maxHeartbeats 4000000
set_option maxRecDepth 100000
namespace Go.Proofs.YtaofjdoielmobaaDoor.Gen
open Go Go.Lift Go.Conc Go.RowKit
def Gp (S:TS) (cv:Value) (k:Nat):TS:={ S with cv:=cv,chg:=List.replicate k 0 }
structure Cel (z:Nat->Option Nat) (S:TS) (K:List (Nat×Int)) (v:World) (S':TS) (K':List (Nat×Int)) (v':World):Prop where
 mem:Mem z S' K' v'
 fr:Fr (Own S K) v v'
 own:∀ b,Own S' K' b->Own S K b∨v.heap.size≤b
section
variable {z:Nat->Option Nat}{S S1 S2:TS}{K K1 K2:List (Nat×Int)}{v v1 v2:World}
theorem Cel.refl (h:Mem z S K v):Cel z S K v S K v:=⟨h,Fr.refl _ _,fun b h=>.inl h⟩
theorem Cel.trans (h:Cel z S K v S1 K1 v1) (k:Cel z S1 K1 v1 S2 K2 v2):Cel z S K v S2 K2 v2:=by
 refine ⟨k.mem,⟨k.fr.os.trans h.fr.os,k.fr.output.trans h.fr.output,Nat.le_trans h.fr.size k.fr.size,fun b hb hs=>?_⟩,fun b hb=>?_⟩
 ·rw[k.fr.block b (Nat.lt_of_lt_of_le hb h.fr.size) (fun e=>(h.own b e).elim hs (fun e=>by omega)),h.fr.block b hb hs]
 ·rcases k.own b hb with e|e
  ·exact h.own b e
  ·exact .inr (Nat.le_trans h.fr.size e)
theorem Cel.push (h:Cel z S K v S1 K1 v1) {o:Obj}(e:v2.heap=v1.heap.push o) (e1:v2.os=v1.os) (e2:v2.output=v1.output):Cel z S K v S1 K1 v2:=by
 have g:Grows v1 v2:=⟨by rw[e];simp,fun b hb=>by rw[e,Array.getElem?_push,if_neg (by omega)],e1,e2⟩
 exact h.trans ⟨(h.mem.grows g).mem,⟨e1,e2,g.size,fun b hb _=>g.old b hb⟩,fun b hb=>.inl hb⟩
theorem Cel.same (h:Cel z S K v S1 K1 v1) (e:v2.heap=v1.heap) (e1:v2.os=v1.os) (e2:v2.output=v1.output):Cel z S K v S1 K1 v2:=by
 have g:Grows v1 v2:=⟨by rw[e];exact Nat.le_refl _,fun b hb=>by rw[e],e1,e2⟩
 exact h.trans ⟨(h.mem.grows g).mem,⟨e1,e2,g.size,fun b hb _=>g.old b hb⟩,fun b hb=>.inl hb⟩
theorem Cel.from (h:Cel z S K v1 S1 K1 v2) (e:v1.heap=v.heap) (e1:v1.os=v.os) (e2:v1.output=v.output):Cel z S K v S1 K1 v2 :=
 ⟨h.mem,⟨h.fr.os.trans e1,h.fr.output.trans e2,by rw[←e];exact h.fr.size,fun b hb hs=>by rw[h.fr.block b (by rw[e];exact hb) hs,e]⟩,fun b hb=>by rw[←e];exact h.own b hb⟩
end
structure Asked (v:World) (S:TS) (n sb so:Nat) (pc:Nat->Option Addr) (ln cp rb:Nat->Nat) (cl:Nat->List Cl):Prop where
 len:∀ j,j<n->(cl j).length=ln j∧ln j≤64
 row:∀ k,k<n->v.cell? ⟨sb,so+k,none⟩=some (.slice (pc k) (ln k) (cp k))
 far:¬ Own S [] sb
 pq:∀ j,j<n->0<ln j->pc j=some ⟨rb j,roOf (pc j),none⟩∧¬ Own S [] (rb j)
 call:∀ j,j<n->∀ (k:Nat) (c:Cl),(cl j)[k]? = some c->v.cell? ⟨rb j,roOf (pc j)+k*4,none⟩=some (I c.po)∧v.cell? ⟨rb j,roOf (pc j)+k*4+1,none⟩=some (I c.ca)∧v.cell? ⟨rb j,roOf (pc j)+k*4+2,none⟩=some (I c.cb)∧v.cell? ⟨rb j,roOf (pc j)+k*4+3,none⟩=some (I c.cc)
 ca:∀ j,j<n->∀ c∈cl j,-9223372036854775808≤c.ca∧c.ca<9223372036854775808
structure Objs (v:World) (S:TS) (xs:List Int) (pk:Nat->Option Obj) (S1:TS) (K:List (Nat×Int)) (u:World):Prop where
 cel:Cel zn S [] v S1 K u
 vals:K.map (·.2)=xs
 st:∃ cv,S1=Gp S cv xs.length
 has:Has pk u
 new:∀ b,pk b≠none->(v.heap.size≤b∨b≠S.bk)∧¬ Own S1 K b
 row:∀ b o,pk b=some o->∃ c e f,o=.cells c e f
theorem Objs.same {v:World}{S:TS}{xs:List Int}{pk:Nat->Option Obj}{S1:TS}{K:List (Nat×Int)}{u u':World}(h:Objs v S xs pk S1 K u) (e:u'.heap=u.heap) (e1:u'.os=u.os) (e2:u'.output=u.output):Objs v S xs pk S1 K u' :=
 ⟨h.cel.same e e1 e2,h.vals,h.st,fun b o hb=>by rw[e];exact h.has b o hb,h.new,h.row⟩
section
variable {v u:World}{S S1:TS}{K:List (Nat×Int)}{n sb so:Nat}{pc:Nat->Option Addr}{ln cp rb:Nat->Nat}{cl:Nat->List Cl}{xs:List Int}{pk:Nat->Option Obj}
theorem told_of (hm:Mem zn S [] v) (hb:Open v S.bk) (t:Asked v S n sb so pc ln cp rb cl) (o:Objs v S xs pk S1 K u) :
 Told u S1 K pk n pc ln cp rb cl∧(∀ k,k<n->u.cell? ⟨sb,so+k,none⟩=some (.slice (pc k) (ln k) (cp k)))∧Open u S.bk∧v.heap.size≤u.heap.size ∧
  ∀ b,b<v.heap.size->¬ Own S [] b->u.heap[b]? = v.heap[b]?∧¬ Own S1 K b:=by
 have no:∀ b,b<v.heap.size->¬ Own S [] b->¬ Own S1 K b:=fun b hb ho h=>(o.cel.own b h).elim ho (fun h=>by omega)
 have same:∀ b,b<v.heap.size->¬ Own S [] b->u.heap[b]? = v.heap[b]?:=fun b hb ho=>o.cel.fr.block b hb ho
 have hcell:∀ (a:Addr) (x:Value),¬ Own S [] a.block->v.cell? a=some x->u.cell? a=some x:=fun a x ho ha=>by
  rw[World.cell?_of_block (w:=v) (w':=u) (same a.block (World.block_lt_of_cell? _ _ ha) ho)]
  exact ha
 have hbkl:S.bk<v.heap.size:=by obtain ⟨c,m,h⟩:=hb;exact (Array.getElem?_eq_some_iff.1 h).1
 have hbk:¬ Own S [] S.bk:=fun h=>by
  obtain ⟨c,m,hh⟩:=hb
  obtain ⟨x,e,f,h1⟩:=hm.row h
  rw[h1] at hh;cases hh
 have hO:Open u S.bk:=by
  obtain ⟨c,m,hh⟩:=hb
  exact ⟨c,m,by rw[same _ hbkl hbk];exact hh⟩
 have e1:S1.bk=S.bk:=by obtain ⟨cv,rfl⟩:=o.st;rfl
 refine ⟨⟨o.has,fun b hb=>⟨(o.new b hb).2,by have:=(o.new b hb).1;rw[e1];rcases this with h|h;omega;exact h⟩,o.row,t.len,fun j hj h0=>?_,fun j hj k c hc=>?_,t.ca⟩,fun k hk=>hcell _ _ t.far (t.row k hk),hO,o.cel.fr.size,fun b hb ho=>⟨same b hb ho,no b hb ho⟩⟩
 ·have h1:=t.pq j hj h0
  obtain ⟨c,hc⟩:∃ c,(cl j)[0]? = some c:=⟨_,List.getElem?_eq_getElem (by have:=t.len j hj;omega)⟩
  have hl:=World.block_lt_of_cell? _ _ (t.call j hj 0 c hc).1
  exact ⟨h1.1,no _ hl h1.2⟩
 ·have h0:0<ln j:=by have:=(List.getElem?_eq_some_iff.1 hc).1;have:=t.len j hj;omega
  have ho:=(t.pq j hj h0).2
  have h4:=t.call j hj k c hc
  exact ⟨hcell _ _ ho h4.1,hcell _ _ ho h4.2.1,hcell _ _ ho h4.2.2.1,hcell _ _ ho h4.2.2.2⟩
end
structure GOut (w:World) (S:TS) (n:Nat) (ln:Nat->Nat) (N:Nat) (S':TS) (K':List (Nat×Int)) (l:Nat->Ph) (w':World):Prop where
 mem:Mem zn S' K' w'
 size:w.heap.size≤w'.heap.size
 low:w.heap.size≤N
 old:∀ b,b<w.heap.size->¬ Own S [] b->b≠S.bk->w'.heap[b]? = w.heap[b]?∧¬ Own S' K' b
 rows:∀ j,j<n->w'.cell? ⟨N+1,j,none⟩=some (.slice (some ⟨N+4+3*j+2,0,none⟩) (ln j) (ln j))
 ans:∀ j,j<n->(l j).ans.length=ln j∧(0<ln j->w'.heap[N+4+3*j+2]? = some (.cells (arow (l j).ans).toArray 38 (0,0)))∧∃ a,l j=.done a
 os:w'.os=w.os
 out:w'.output=w.output
section
variable {mc:Mc}{fid:FuncId}{S:TS}{n sb so:Nat}{pc:Nat->Option Addr}{ln cp rb:Nat->Nat}{cl:Nat->List Cl}{xs:List Int}
theorem gplay_all (P:Pkg mc fid) {Q:Array Value->(Nat->Option Obj)->List (Nat×Int)->Prop}(hQ:∀ caps pk K,Q caps pk K->∀ X:Fix mc,X.fid=fid->X.caps=caps->X.pk=pk->X.kb=K.map (·.1)->P.Mine X) (hQk:∀ caps pk K,Q caps pk K->KOk mc K)
 {cap:Nat} {cs:List Frame} {bc:Frame} {ac:Act} {ops:Array Oper} {q0:Nat} {rest:List Nat} {oc:Oper} {k0:List Item} {w:World} {T:Trace} {gs:Array Goroutine} {q:Nat->Nat} (sl:Option (Nat×Nat)) (NT:Nat) (A:Alone gs w T q) {g0:Goroutine} (hg:gs[0]? = some g0)
 (hG:GoesI Tryd.prog true (DT (ScZ zn) (fun _=>False)) (fun g w'=>∃ (bd:Frame) (ad:Act) (od:Array Oper) (qd:Nat) (rd:List Nat) (oe:Oper) (kd:List Item) (caps:Array Value) (pk:Nat->Option Obj) (S1:TS) (K:List (Nat×Int)),Objs w S xs pk S1 K w'∧Q caps pk K∧od[qd]? = some oe ∧
   (∀ (Ch:Nat->Prop) (Stop:Goroutine->World->Prop) (w1:World) (x:Value),(∀ d,GoesI Tryd.prog true (DT (ScZ zn) Ch) Stop (G (bc.at (ac.put oc.dst (.tuple #[x,I 0])) (.inRegion ops rest :: k0)) cs) (w1.at d))->GoesI Tryd.prog true (DT (ScZ zn) Ch) Stop (G (bd.at (ad.put oe.dst x) (.inRegion od rd :: kd)) (bc.at ac (.inRegion ops (q0 :: rest) :: k0) :: cs)) w1) ∧
   g=G ((base 24).at { tmps:=#[Pt S.wb 0,.slice (some ⟨sb,so,none⟩) n cap,.func (.func fid) (mc.bn caps) (mc.fr caps)]++Array.replicate 36 undef,defers:=[] } [.code B20]) (bd.at ad (.inRegion od (qd :: rd) :: kd) :: bc.at ac (.inRegion ops (q0 :: rest) :: k0) :: cs)) g0 w)
 (hm:Mem zn S [] w) (hthr:S.thr=[]) (hran:S.ran=false) (hbk:Open w S.bk) (t:Asked w S n sb so pc ln cp rb cl) (hn8:0<n∧n≤8)
 (hlen:∀ caps pk N K,S.n+2*lens (scrs mc fid caps pk N n K pc ln cp rb cl)≤1000000) (hsl:S.sched.length≤4611686018427387904) (hsc:∀ x∈S.sched,-9223372036854775808≤x∧x<9223372036854775808) (l0:Nat->Ph)
 (hturn:∀ (caps:Array Value) (pk:Nat->Option Obj) (N:Nat) (cv:Value) (K:List (Nat×Int)),K.map (·.2)=xs->∀ S1 l1,Hires mc 0 (scrs mc fid caps pk N n K pc ln cp rb cl) (nv { Gp S cv xs.length with ran:=true }) l0 S1 l1->∃ m p',m≤NT∧Turns mc m ⟨S1,K,l1⟩ p'∧p'.S.n*40≤140737488355328) :
 ∃ (N':Nat) (gs':Array Goroutine) (w':World) (sl':Option (Nat×Nat)) (T':Trace) (q':Nat->Nat) (caps:Array Value) (pk:Nat->Option Obj) (N:Nat) (cv:Value) (K:List (Nat×Int)) (S':TS) (S1:TS) (l1:Nat->Ph) (m:Nat) (p':PSt),
   runNT Tryd.prog N' (crowd gs w sl) T=(.next (crowd gs' w' sl'),T')∧gs'.size=gs.size+n∧gs'[0]? = some (G (bc.at (ac.put oc.dst (.tuple #[.slice (some ⟨N+1,0,none⟩) n n,I 0])) (.inRegion ops rest :: k0)) cs) ∧
   Alone gs' w' T' q'∧K.map (·.2)=xs∧nv S'=p'.S∧Hires mc 0 (scrs mc fid caps pk N n K pc ln cp rb cl) (nv { Gp S cv xs.length with ran:=true }) l0 S1 l1∧Turns mc m ⟨S1,K,l1⟩ p'∧GOut w S n ln N S' p'.K p'.l w':=by
 obtain ⟨N1,gs1,a1,w1,sl1,T1,q1,r1,z1,h1,⟨bd,ad,od,qd,rd,oe,kd,caps,pk,S1,K,ho,hq,hoe,hback,rfl⟩,A1⟩:=Dj A hg sl hG
 obtain ⟨t1,hs1,hbk1,hsz1,hold1⟩:=told_of hm hbk t ho
 obtain ⟨cv,rfl⟩:=ho.st
 have hsb:sb<w1.heap.size:=World.block_lt_of_cell? _ _ (hs1 0 hn8.1)
 obtain ⟨N2,gs2,w2,sl2,T2,q2,S2,S3,l1,m,p',r2,z2,h2,A2,hnv,hH,hT,O⟩:=run20_all P (hQ caps pk K hq) (hQk caps pk K hq) (S:=Gp S cv xs.length) (K:=K) hoe sl1 NT A1 h1 ho.cel.mem hthr hran hbk1 t1 hs1 hsb hn8.2 (hlen _ _ _ _) hsl hsc l0 (hturn _ _ _ cv K ho.vals)
 obtain ⟨N3,gs3,a3,w3,sl3,T3,q3,r3,z3,h3,⟨rfl,d3,rfl⟩,A3⟩:=Dj A2 h2 sl2 (hback (fun _=>False) (fun g w'=>g=G (bc.at (ac.put oc.dst (.tuple #[.slice (some ⟨w1.heap.size+1,0,none⟩) n n,I 0])) (.inRegion ops rest :: k0)) cs∧∃ d,w'=w2.at d) w2 _ (fun d=>GoesI.stop fun d'=>⟨rfl,d',rfl⟩))
 refine ⟨N1+N2+N3,gs3,w2.at d3,sl3,T3,q3,caps,pk,w1.heap.size,cv,K,S2,S3,l1,m,p',runNT_then (runNT_then r1 r2) r3,by omega,h3,A3,ho.vals,hnv,hH,hT,⟨(O.mem.grows (v':=w2.at d3) ⟨Nat.le_refl _,fun _ _=>rfl,rfl,rfl⟩).mem,Nat.le_trans hsz1 O.size,hsz1,fun b hb hob hk=>?_,O.rows,O.ans,O.os.trans ho.cel.fr.os,O.out.trans ho.cel.fr.output⟩⟩
 have h5:=hold1 b hb hob
 have h6:=O.old b (by omega) h5.2 hk
 exact ⟨h6.1.trans h5.1,h6.2⟩
end
def lits (u:Nat->Value):Nat->Nat->List Value
 |_,0=>[]
 |s,n+1=>u s :: lits u (s+1) n
theorem lits_get (u:Nat->Value):∀ (n s i:Nat),(lits u s n)[i]? = if i<n then some (u (s+i)) else none
 |0,s,i=>by simp[lits]
 |n+1,s,0=>by simp[lits]
 |n+1,s,i+1=>by
  have:=lits_get u n (s+1) i
  simp only[lits,List.getElem?_cons_succ,this,Nat.add_lt_add_iff_right]
  rw[show s+1+i=s+(i+1) by omega]
theorem litN {n:Nat} {a:Act} (h:a.tmps.size=n) (hd:a.defers=[]):∃ u:Nat->Value,a={ tmps:=(lits u 0 n).toArray,defers:=[] }∧∀ i,a.tmps.getD i undef=u i:=by
 obtain ⟨⟨l⟩,ds⟩:=a
 simp only at hd h
 subst hd
 refine ⟨fun i=>(Array.mk l).getD i undef,?_,fun i=>rfl⟩
 have e:l=lits (fun i=>(Array.mk l).getD i undef) 0 n:=by
  apply List.ext_getElem?
  intro i
  rw[lits_get]
  have hl:l.length=n:=h
  by_cases hi:i<n
  ·rw[if_pos hi,List.getElem?_eq_getElem (by omega)]
   simp[Array.getD,hl,hi]
  ·rw[if_neg hi,List.getElem?_eq_none (by omega)]
 exact congrArg (fun x=>({ tmps:=x.toArray,defers:=[] }:Act)) e
def Fl (n:Nat) (l:List (Nat×Value)) (a:Act):Prop:=a.tmps.size=n∧a.defers=[]∧∀ p∈l,a.tmps.getD p.1 undef=p.2
theorem Fl.sub {n:Nat}{l l':List (Nat×Value)}{a:Act}(h:Fl n l a) (hs:∀ p∈l',p∈l):Fl n l' a:=⟨h.1,h.2.1,fun p hp=>h.2.2 p (hs p hp)⟩
theorem Fl.at {n:Nat}{l:List (Nat×Value)}{a:Act}(h:Fl n l a) (k:Nat) (v:Value) (hs:(k,v)∈l):a.eval (.tmp k)=v:=h.2.2 (k,v) hs
def padd (pk:Nat->Option Obj) (b:Nat) (o:Obj):Nat->Option Obj:=fun x=>if x=b then some o else pk x
theorem D6 (pk:Nat->Option Obj) (b:Nat) (o:Obj):padd pk b o b=some o:=by unfold padd;rw[if_pos rfl]
theorem Cp {pk:Nat->Option Obj}{b x:Nat}{o:Obj}(h:x≠b):padd pk b o x=pk x:=by unfold padd;rw[if_neg h]
theorem cell_of {v:World}{b j:Nat}{c:Array Value}{t:TypeId}{f:Nat×Nat}{x:Value}(h:v.heap[b]? = some (.cells c t f)) (hj:c[j]? = some x):v.cell? ⟨b,j,none⟩=some x:=by
 unfold World.cell?
 rw[h]
 exact hj
section
variable {v u u':World}{S S1:TS}{K:List (Nat×Int)}{xs:List Int}{pk:Nat->Option Obj}
theorem Objs.start (hm:Mem zn S [] v) (hch:S.chg=[]):Objs v S [] (fun _=>none) S [] v :=
 ⟨Cel.refl hm,rfl,⟨S.cv,by unfold Gp;rw[List.length_nil,List.replicate_zero,←hch]⟩,fun b o h=>(by cases h),fun b h=>absurd rfl h,fun b o h=>(by cases h)⟩
theorem Objs.startG (hm:Mem zn S [] v) (hch:S.chg=[]) (hpk:Has pk v) (hf:∀ b,pk b≠none->¬ Own S [] b∧b≠S.bk) (hr:∀ b o,pk b=some o->∃ c e f,o=.cells c e f):Objs v S [] pk S [] v :=
 ⟨Cel.refl hm,rfl,⟨S.cv,by unfold Gp;rw[List.length_nil,List.replicate_zero,←hch]⟩,hpk,fun b h=>⟨.inr (hf b h).2,(hf b h).1⟩,hr⟩
theorem Objs.push (h:Objs v S xs pk S1 K u) {c:Array Value}{t:TypeId}(e:u'.heap=u.heap.push (.cells c t)) (e1:u'.os=u.os) (e2:u'.output=u.output):Objs v S xs (padd pk u.heap.size (.cells c t)) S1 K u':=by
 refine ⟨h.cel.push e e1 e2,h.vals,h.st,fun b o hb=>?_,fun b hb=>?_,fun b o hb=>?_⟩
 ·by_cases hbu:b=u.heap.size
  ·subst hbu
   rw[D6] at hb
   cases hb
   rw[e]
   exact Array.getElem?_push_size
  ·rw[Cp hbu] at hb
   have:=h.has b o hb
   have hl:=(Array.getElem?_eq_some_iff.1 this).1
   rw[e,Array.getElem?_push,if_neg (by omega)]
   exact this
 ·by_cases hbu:b=u.heap.size
  ·subst hbu
   exact ⟨.inl h.cel.fr.size,fun ho=>by have:=h.cel.mem.lt ho;omega⟩
  ·rw[Cp hbu] at hb
   exact h.new b hb
 ·by_cases hbu:b=u.heap.size
  ·subst hbu
   rw[D6] at hb
   cases hb
   exact ⟨_,_,_,rfl⟩
  ·rw[Cp hbu] at hb
   exact h.row b o hb
theorem Objs.more (h:Objs v S xs pk S1 K u) {S2:TS}{K2:List (Nat×Int)}{ys:List Int}(c:Cel zn S1 K u S2 K2 u') (hv:K2.map (·.2)=ys) (hs:∃ cv,S2=Gp S cv ys.length):Objs v S ys pk S2 K2 u':=by
 have hl:∀ b o,pk b=some o->b<u.heap.size:=fun b o hb=>(Array.getElem?_eq_some_iff.1 (h.has b o hb)).1
 refine ⟨h.cel.trans c,hv,hs,fun b o hb=>?_,fun b hb=>?_,h.row⟩
 ·rw[c.fr.block b (hl b o hb) (h.new b (by rw[hb];simp)).2]
  exact h.has b o hb
 ·obtain ⟨o,ho⟩:=Option.ne_none_iff_exists'.1 hb
  refine ⟨(h.new b hb).1,fun ho'=>?_⟩
  rcases c.own b ho' with e|e
  ·exact (h.new b hb).2 e
  ·have:=hl b o ho;omega
theorem Objs.cell (h:Objs v S xs pk S1 K u) (x:Int) (hl:xs.length≤1000000):Calls Tryd.prog 43 #[Pt S.wb 0,I x] u (fun e w'=>∃ cb,e=.returned (Pt cb 0)∧u.heap.size≤w'.heap.size∧∃ S2,Objs v S (xs++[x]) pk S2 (K++[(cb,x)]) w'):=by
 obtain ⟨cv,rfl⟩:=h.st
 have h10:=(body10 h.cel.mem x (by show (List.replicate xs.length (0:Int)).length≤_;simp;omega)).calls Tryd.func43 rfl
 refine h10.mono ?_
 rintro e w' ⟨r,rfl,cb,cv',rfl,hm1,hf1,hn1⟩
 refine ⟨cb,rfl,hf1.size,_,h.more ⟨hm1,hf1,hn1⟩ (by rw[List.map_append,h.vals];rfl) ⟨cv',?_⟩⟩
 unfold El Gp
 simp only[List.length_append,List.length_cons,List.length_nil,Nat.zero_add,List.replicate_succ']
end
theorem goesI_retZ {Ch:Nat->Prop}{Stop:Goroutine->World->Prop}{main:Bool}{f:FuncId}{c:Code}{act:Act}{more:List Item}{cs:List Frame}{v w:World}{Q:Act->World->Prop}(hvw:Rel zn v w) (hn:Ah Ch v) (hc:As Tryd.prog true LV c) (ha:act.defers=[])
 (hwp:∀ τ,c.wp Tryd.prog (fun e a w'=>e=.ret∧Q a w') act (Ap v τ 0))
 (h:∀ a' v' w' todo,Q a' v'->a'.defers=[]->Rel zn v' w'->Ah Ch v'->GoesI Tryd.prog main (DT (ScZ zn) Ch) Stop (G { (base f).at a' todo with mode:=.returning } cs) w') :
 GoesI Tryd.prog main (DT (ScZ zn) Ch) Stop (G ((base f).at act (.code c :: more)) cs) w:=by
 have hfin:=Hc (P:=Tryd.prog) (z:=zn) (wr:=true) (L:=LV) (D:=DT (ScZ zn) Ch) (I:=Ah Ch) (main:=main) (b:=base f) (k:=more) (cs:=cs) hE Gy Al (fun v v' w w' es hi hr ho he=>Az v v' w w' es hi hr ho he) hvw hc ha (by simp[base]) hn
  (Q:=fun e a w'=>e=.ret∧Q a w') hwp (fun e a w hq=>.inr hq.1)
 refine hfin.then ?_
 rintro g w' ⟨a',v',hr,hiv,hd,⟨⟨hq,_⟩,_⟩|⟨⟨_,hQ⟩,todo,rfl⟩⟩
 ·cases hq
 ·exact h a' v' w' todo hQ hd hr hiv
theorem _root_.Go.Proofs.YtaofjdoielmobaaDoor.Grows.toAt {W v w:World}(h:Grows W v) (hr:Rel zn v w) (d:Nat):Grows W (w.at d):=by
 have e:(w.at d).heap=v.heap:=hr.eq
 exact ⟨by rw[e];exact h.size,fun b hb=>by rw[e];exact h.old b hb,hr.os.trans h.os,hr.output.trans h.output⟩
theorem _root_.Go.Proofs.YtaofjdoielmobaaDoor.Grows.andThen {W v w:World}(h:Grows W v) (k:Grows v w):Grows W w:=⟨Nat.le_trans h.size k.size,fun b hb=>by rw[k.old b (by have:=h.size;omega),h.old b hb],k.os.trans h.os,k.output.trans h.output⟩
def PostT (W:World) (r:Value) (w':World):Prop:=r=.bool true∧Grows W w'
end Go.Proofs.YtaofjdoielmobaaDoor.Gen
namespace Go.Proofs.YtaofjdoielmobaaDoor
open Go Go.Lift Go.Conc Go.RowKit
def plainX3:List FuncId:=[26,71,74,77,73,82,57,116,45,75,76,78,47,48,51,8,14,43,17,23,70,35,10,16,29,22,11,12,18,13,15,27,28,39,40,41,42,65,66,67,68,69,110,111,112,126,127]
def LX3 (f:FuncId):Prop:=f∈plainX3
theorem Bl:∀ f∈plainX3,Dr Tryd.prog LX3 f:=by
 intro f hf
 have hf':=hf
 simp only[plainX3,List.mem_cons,List.not_mem_nil,or_false] at hf
 rcases hf with rfl|rfl|rfl|rfl|rfl|rfl|rfl|rfl|rfl|rfl|rfl|rfl|rfl|rfl|rfl|rfl|rfl|rfl|rfl|rfl|rfl|rfl|rfl|rfl|rfl|rfl|rfl|rfl|rfl|rfl|rfl|rfl|rfl|rfl|rfl|rfl|rfl|rfl|rfl|rfl|rfl|rfl|rfl|rfl|rfl|rfl|rfl
 ·exact ⟨hf',Tryd.f26,Tryd.func26,by kernel_rfl,by kernel_rfl⟩
 ·exact ⟨hf',Tryd.f71,Tryd.func71,by kernel_rfl,by kernel_rfl⟩
 ·exact ⟨hf',Tryd.f74,Tryd.func74,by kernel_rfl,by kernel_rfl⟩
 ·exact ⟨hf',Tryd.f77,Tryd.func77,by kernel_rfl,by kernel_rfl⟩
 ·exact ⟨hf',Tryd.f73,Tryd.func73,by kernel_rfl,by kernel_rfl⟩
 ·exact ⟨hf',Tryd.f82,Tryd.func82,by kernel_rfl,by kernel_rfl⟩
 ·exact ⟨hf',Tryd.f57,Tryd.func57,by kernel_rfl,by kernel_rfl⟩
 ·exact ⟨hf',Tryd.f116,Tryd.func116,by kernel_rfl,by kernel_rfl⟩
 ·exact ⟨hf',Tryd.f45,Tryd.func45,by kernel_rfl,by kernel_rfl⟩
 ·exact ⟨hf',Tryd.f75,Tryd.func75,by kernel_rfl,by kernel_rfl⟩
 ·exact ⟨hf',Tryd.f76,Tryd.func76,by kernel_rfl,by kernel_rfl⟩
 ·exact ⟨hf',Tryd.f78,Tryd.func78,by kernel_rfl,by kernel_rfl⟩
 ·exact ⟨hf',Tryd.f47,Tryd.func47,by kernel_rfl,by kernel_rfl⟩
 ·exact ⟨hf',Tryd.f48,Tryd.func48,by kernel_rfl,by kernel_rfl⟩
 ·exact ⟨hf',Tryd.f51,Tryd.func51,by kernel_rfl,by kernel_rfl⟩
 ·exact ⟨hf',Tryd.f8,Tryd.func8,by kernel_rfl,by kernel_rfl⟩
 ·exact ⟨hf',Tryd.f14,Tryd.func14,by kernel_rfl,by kernel_rfl⟩
 ·exact ⟨hf',Tryd.f43,Tryd.func43,by kernel_rfl,by kernel_rfl⟩
 ·exact ⟨hf',Tryd.f17,Tryd.func17,by kernel_rfl,by kernel_rfl⟩
 ·exact ⟨hf',Tryd.f23,Tryd.func23,by kernel_rfl,by kernel_rfl⟩
 ·exact ⟨hf',Tryd.f70,Tryd.func70,by kernel_rfl,by kernel_rfl⟩
 ·exact ⟨hf',Tryd.f35,Tryd.func35,by kernel_rfl,by kernel_rfl⟩
 ·exact ⟨hf',Tryd.f10,Tryd.func10,by kernel_rfl,by kernel_rfl⟩
 ·exact ⟨hf',Tryd.f16,Tryd.func16,by kernel_rfl,by kernel_rfl⟩
 ·exact ⟨hf',Tryd.f29,Tryd.func29,by kernel_rfl,by kernel_rfl⟩
 ·exact ⟨hf',Tryd.f22,Tryd.func22,by kernel_rfl,by kernel_rfl⟩
 ·exact ⟨hf',Tryd.f11,Tryd.func11,by kernel_rfl,by kernel_rfl⟩
 ·exact ⟨hf',Tryd.f12,Tryd.func12,by kernel_rfl,by kernel_rfl⟩
 ·exact ⟨hf',Tryd.f18,Tryd.func18,by kernel_rfl,by kernel_rfl⟩
 ·exact ⟨hf',Tryd.f13,Tryd.func13,by kernel_rfl,by kernel_rfl⟩
 ·exact ⟨hf',Tryd.f15,Tryd.func15,by kernel_rfl,by kernel_rfl⟩
 ·exact ⟨hf',Tryd.f27,Tryd.func27,by kernel_rfl,by kernel_rfl⟩
 ·exact ⟨hf',Tryd.f28,Tryd.func28,by kernel_rfl,by kernel_rfl⟩
 ·exact ⟨hf',Tryd.f39,Tryd.func39,by kernel_rfl,by kernel_rfl⟩
 ·exact ⟨hf',Tryd.f40,Tryd.func40,by kernel_rfl,by kernel_rfl⟩
 ·exact ⟨hf',Tryd.f41,Tryd.func41,by kernel_rfl,by kernel_rfl⟩
 ·exact ⟨hf',Tryd.f42,Tryd.func42,by kernel_rfl,by kernel_rfl⟩
 ·exact ⟨hf',Tryd.f65,Tryd.func65,by kernel_rfl,by kernel_rfl⟩
 ·exact ⟨hf',Tryd.f66,Tryd.func66,by kernel_rfl,by kernel_rfl⟩
 ·exact ⟨hf',Tryd.f67,Tryd.func67,by kernel_rfl,by kernel_rfl⟩
 ·exact ⟨hf',Tryd.f68,Tryd.func68,by kernel_rfl,by kernel_rfl⟩
 ·exact ⟨hf',Tryd.f69,Tryd.func69,by kernel_rfl,by kernel_rfl⟩
 ·exact ⟨hf',Tryd.f110,Tryd.func110,by kernel_rfl,by kernel_rfl⟩
 ·exact ⟨hf',Tryd.f111,Tryd.func111,by kernel_rfl,by kernel_rfl⟩
 ·exact ⟨hf',Tryd.f112,Tryd.func112,by kernel_rfl,by kernel_rfl⟩
 ·exact ⟨hf',Tryd.f126,Tryd.func126,by kernel_rfl,by kernel_rfl⟩
 ·exact ⟨hf',Tryd.f127,Tryd.func127,by kernel_rfl,by kernel_rfl⟩
theorem fineX3:∀ f,LX3 f->Do Tryd.prog true LX3 f:=by
 intro f hf
 simp only[LX3,plainX3,List.mem_cons,List.not_mem_nil,or_false] at hf
 rcases hf with rfl|rfl|rfl|rfl|rfl|rfl|rfl|rfl|rfl|rfl|rfl|rfl|rfl|rfl|rfl|rfl|rfl|rfl|rfl|rfl|rfl|rfl|rfl|rfl|rfl|rfl|rfl|rfl|rfl|rfl|rfl|rfl|rfl|rfl|rfl|rfl|rfl|rfl|rfl|rfl|rfl|rfl|rfl|rfl|rfl|rfl|rfl
 ·exact Ai Bl extT Tryd.func26 (c:=Tryd.f26.body.getD .skip) (by rfl) (by kernel_rfl)
 ·exact Ai Bl extT Tryd.func71 (c:=Tryd.f71.body.getD .skip) (by rfl) (by kernel_rfl)
 ·exact Ai Bl extT Tryd.func74 (c:=Tryd.f74.body.getD .skip) (by rfl) (by kernel_rfl)
 ·exact Ai Bl extT Tryd.func77 (c:=Tryd.f77.body.getD .skip) (by rfl) (by kernel_rfl)
 ·exact Ai Bl extT Tryd.func73 (c:=Tryd.f73.body.getD .skip) (by rfl) (by kernel_rfl)
 ·exact Ai Bl extT Tryd.func82 (c:=Tryd.f82.body.getD .skip) (by rfl) (by kernel_rfl)
 ·exact Ai Bl extT Tryd.func57 (c:=Tryd.f57.body.getD .skip) (by rfl) (by kernel_rfl)
 ·exact Ai Bl extT Tryd.func116 (c:=Tryd.f116.body.getD .skip) (by rfl) (by kernel_rfl)
 ·exact Ai Bl extT Tryd.func45 (c:=Tryd.f45.body.getD .skip) (by rfl) (by kernel_rfl)
 ·exact Ai Bl extT Tryd.func75 (c:=Tryd.f75.body.getD .skip) (by rfl) (by kernel_rfl)
 ·exact Ai Bl extT Tryd.func76 (c:=Tryd.f76.body.getD .skip) (by rfl) (by kernel_rfl)
 ·exact Ai Bl extT Tryd.func78 (c:=Tryd.f78.body.getD .skip) (by rfl) (by kernel_rfl)
 ·exact Ai Bl extT Tryd.func47 (c:=Tryd.f47.body.getD .skip) (by rfl) (by kernel_rfl)
 ·exact Ai Bl extT Tryd.func48 (c:=Tryd.f48.body.getD .skip) (by rfl) (by kernel_rfl)
 ·exact Ai Bl extT Tryd.func51 (c:=Tryd.f51.body.getD .skip) (by rfl) (by kernel_rfl)
 ·exact Ai Bl extT Tryd.func8 (c:=Tryd.f8.body.getD .skip) (by rfl) (by kernel_rfl)
 ·exact Ai Bl extT Tryd.func14 (c:=Tryd.f14.body.getD .skip) (by rfl) (by kernel_rfl)
 ·exact Ai Bl extT Tryd.func43 (c:=Tryd.f43.body.getD .skip) (by rfl) (by kernel_rfl)
 ·exact Ai Bl extT Tryd.func17 (c:=Tryd.f17.body.getD .skip) (by rfl) (by kernel_rfl)
 ·exact Ai Bl extT Tryd.func23 (c:=Tryd.f23.body.getD .skip) (by rfl) (by kernel_rfl)
 ·exact Ai Bl extT Tryd.func70 (c:=Tryd.f70.body.getD .skip) (by rfl) (by kernel_rfl)
 ·exact Ai Bl extT Tryd.func35 (c:=Tryd.f35.body.getD .skip) (by rfl) (by kernel_rfl)
 ·exact Ai Bl extT Tryd.func10 (c:=Tryd.f10.body.getD .skip) (by rfl) (by kernel_rfl)
 ·exact Ai Bl extT Tryd.func16 (c:=Tryd.f16.body.getD .skip) (by rfl) (by kernel_rfl)
 ·exact Ai Bl extT Tryd.func29 (c:=Tryd.f29.body.getD .skip) (by rfl) (by kernel_rfl)
 ·exact Ai Bl extT Tryd.func22 (c:=Tryd.f22.body.getD .skip) (by rfl) (by kernel_rfl)
 ·exact Ai Bl extT Tryd.func11 (c:=Tryd.f11.body.getD .skip) (by rfl) (by kernel_rfl)
 ·exact Ai Bl extT Tryd.func12 (c:=Tryd.f12.body.getD .skip) (by rfl) (by kernel_rfl)
 ·exact Ai Bl extT Tryd.func18 (c:=Tryd.f18.body.getD .skip) (by rfl) (by kernel_rfl)
 ·exact Ai Bl extT Tryd.func13 (c:=Tryd.f13.body.getD .skip) (by rfl) (by kernel_rfl)
 ·exact Ai Bl extT Tryd.func15 (c:=Tryd.f15.body.getD .skip) (by rfl) (by kernel_rfl)
 ·exact Ai Bl extT Tryd.func27 (c:=Tryd.f27.body.getD .skip) (by rfl) (by kernel_rfl)
 ·exact Ai Bl extT Tryd.func28 (c:=Tryd.f28.body.getD .skip) (by rfl) (by kernel_rfl)
 ·exact Ai Bl extT Tryd.func39 (c:=Tryd.f39.body.getD .skip) (by rfl) (by kernel_rfl)
 ·exact Ai Bl extT Tryd.func40 (c:=Tryd.f40.body.getD .skip) (by rfl) (by kernel_rfl)
 ·exact Ai Bl extT Tryd.func41 (c:=Tryd.f41.body.getD .skip) (by rfl) (by kernel_rfl)
 ·exact Ai Bl extT Tryd.func42 (c:=Tryd.f42.body.getD .skip) (by rfl) (by kernel_rfl)
 ·exact Ai Bl extT Tryd.func65 (c:=Tryd.f65.body.getD .skip) (by rfl) (by kernel_rfl)
 ·exact Ai Bl extT Tryd.func66 (c:=Tryd.f66.body.getD .skip) (by rfl) (by kernel_rfl)
 ·exact Ai Bl extT Tryd.func67 (c:=Tryd.f67.body.getD .skip) (by rfl) (by kernel_rfl)
 ·exact Ai Bl extT Tryd.func68 (c:=Tryd.f68.body.getD .skip) (by rfl) (by kernel_rfl)
 ·exact Ai Bl extT Tryd.func69 (c:=Tryd.f69.body.getD .skip) (by rfl) (by kernel_rfl)
 ·exact Ai Bl extT Tryd.func110 (c:=Tryd.f110.body.getD .skip) (by rfl) (by kernel_rfl)
 ·exact Ai Bl extT Tryd.func111 (c:=Tryd.f111.body.getD .skip) (by rfl) (by kernel_rfl)
 ·exact Ai Bl extT Tryd.func112 (c:=Tryd.f112.body.getD .skip) (by rfl) (by kernel_rfl)
 ·exact Ai Bl extT Tryd.func126 (c:=Tryd.f126.body.getD .skip) (by rfl) (by kernel_rfl)
 ·exact Ai Bl extT Tryd.func127 (c:=Tryd.f127.body.getD .skip) (by rfl) (by kernel_rfl)
end Go.Proofs.YtaofjdoielmobaaDoor
namespace Go.Proofs.YtaofjdoielmobaaDoor.Gen
open Go Go.Lift Go.Conc Go.RowKit
theorem goesI_retX {Ch:Nat->Prop}{Stop:Goroutine->World->Prop}{main:Bool}{f:FuncId}{c:Code}{act:Act}{more:List Item}{cs:List Frame}{v w:World}{Q:Act->World->Prop}(hvw:Rel zn v w) (hn:Ah Ch v) (hc:As Tryd.prog true LX3 c) (ha:act.defers=[])
 (hwp:∀ τ,c.wp Tryd.prog (fun e a w'=>e=.ret∧Q a w') act (Ap v τ 0))
 (h:∀ a' v' w' todo,Q a' v'->a'.defers=[]->Rel zn v' w'->Ah Ch v'->GoesI Tryd.prog main (DT (ScZ zn) Ch) Stop (G { (base f).at a' todo with mode:=.returning } cs) w') :
 GoesI Tryd.prog main (DT (ScZ zn) Ch) Stop (G ((base f).at act (.code c :: more)) cs) w:=by
 have hfin:=Hc (P:=Tryd.prog) (z:=zn) (wr:=true) (L:=LX3) (D:=DT (ScZ zn) Ch) (I:=Ah Ch) (main:=main) (b:=base f) (k:=more) (cs:=cs) hE fineX3 Al (fun v v' w w' es hi hr ho he=>Az v v' w w' es hi hr ho he) hvw hc ha (by simp[base]) hn
  (Q:=fun e a w'=>e=.ret∧Q a w') hwp (fun e a w hq=>.inr hq.1)
 refine hfin.then ?_
 rintro g w' ⟨a',v',hr,hiv,hd,⟨⟨hq,_⟩,_⟩|⟨⟨_,hQ⟩,todo,rfl⟩⟩
 ·cases hq
 ·exact h a' v' w' todo hQ hd hr hiv
end Go.Proofs.YtaofjdoielmobaaDoor.Gen
namespace Go.Proofs.YtaofjdoielmobaaDoor.Gen
open Go Go.Lift Go.Conc Go.RowKit
open Go.ConcN (upd upd_same upd_ne)
def seatOk (L:Nat) (lev:Q->Nat) (cl:Q->Nat) (wq:Q->Prop):Nx->Prop
 |.ans _ _=>True
 |.turn _ j q=>1≤lev q∧lev q≤L∧j=cl q
 |.wait _ q=>1≤lev q∧lev q≤L∧wq q
def nlev (lev:Q->Nat):Nx->Nat
 |.ans _ _=>0
 |.turn _ _ q=>lev q
 |.wait _ q=>lev q
structure Met (mc:Mc) where
 L:Nat
 hL:1≤L
 lev:Q->Nat
 ws:Q->Int->Nat
 cl:Q->Nat
 wq:Q->Prop
 ws_le:∀ q x,ws q x≤3
 gq:Nat->Q->Int->Prop:=fun _ _ _=>True
 start:∀ i c,seatOk L lev cl wq (mc.start i c)
 nt:∀ q x,mc.nts q x=[]∨((mc.nts q x).length=1∧∃ op j q',(mc.turn q x).2.2=.turn op j q'∧lev q'<lev q):=by intro q x;exact .inl rfl
 stuck:∀ q,1≤lev q->lev q≤L->wq q->seatOk L lev cl wq (mc.stuck q)∧nlev lev (mc.stuck q)<lev q:=by intro q h _ _;exact ⟨trivial,h⟩
 turn:∀ i q x,gq i q x->1≤lev q->lev q≤L->seatOk L lev cl wq (mc.turn q x).2.2∧(nlev lev (mc.turn q x).2.2<lev q∨((mc.turn q x).1.1=(mc.turn q x).1.2∧(mc.turn q x).2.1=x∧nlev lev (mc.turn q x).2.2=lev q ∧
  match (mc.turn q x).2.2 with
  |.ans _ _=>False
  |.turn _ _ q'=>cl q'=cl q∧ws q' x+1≤ws q x
  |.wait _ _=>1≤ws q x))
 woke:∀ q,1≤lev q->lev q≤L->wq q->seatOk L lev cl wq (mc.woke q)∧(nlev lev (mc.woke q)<lev q∨(nlev lev (mc.woke q)=lev q ∧
  match mc.woke q with
  |.ans _ _=>False
  |.turn _ _ q'=>∀ y,ws q' y≤1
  |.wait _ _=>True))
section
variable {mc:Mc}(M:Met mc)
def tot:Ph->Nat
 |.turn _ _ q rest _ _=>M.L*rest.length+M.lev q
 |.wait _ q rest _ _=>M.L*rest.length+M.lev q
 |.done _=>0
def sw (S:TS) (K:List (Nat×Int)) (t:Thr):Ph->Nat
 |.turn _ j q _ _ _=>M.ws q (cellAt K j).2
 |.wait _ _ _ _ _=>if B0 S.chg t.ce=t.se then 0 else 2
 |.done _=>0
def sits:Ph->Prop
 |.turn _ j q _ _ _=>1≤M.lev q∧M.lev q≤M.L∧j=M.cl q
 |.wait _ q _ _ _=>1≤M.lev q∧M.lev q≤M.L∧M.wq q
 |.done _=>True
theorem sw_le (S:TS) (K:List (Nat×Int)) (t:Thr) (l:Ph):sw M S K t l≤3:=by
 cases l with
 |turn op j q r i a=>exact M.ws_le _ _
 |wait j q r i a=>show (if _ then 0 else 2)≤3;split<;>omega
 |done a=>exact Nat.zero_le _
def wtI (p:PSt) (i:Nat):Nat:=32*tot M (p.l i)+sw M p.S p.K (thrI p.S i) (p.l i)
def mu (p:PSt):Nat:=(if p.S.stk then 0 else 1)+((List.range p.S.thr.length).map (wtI M p)).sum
structure Gd (p:PSt):Prop where
 len:p.S.thr.length≤8
 sit:∀ i t,p.S.thr[i]? = some t->FitsN (p.l i) t∧StN (p.l i) t∧sits M (p.l i)
theorem set_ok {stk:Bool}{x:Nx}(h:seatOk M.L M.lev M.cl M.wq x):seatOk M.L M.lev M.cl M.wq (mc.set stk x)∧nlev M.lev (mc.set stk x)≤nlev M.lev x∧(mc.set stk x=x∨∃ j q,x=.wait j q∧stk=true∧mc.set stk x=mc.stuck q∧nlev M.lev (mc.stuck q)<M.lev q):=by
 cases x with
 |ans e y=>exact ⟨h,Nat.le_refl _,.inl rfl⟩
 |turn op j q=>exact ⟨h,Nat.le_refl _,.inl rfl⟩
 |wait j q =>
  cases stk with
  |false=>exact ⟨h,Nat.le_refl _,.inl rfl⟩
  |true =>
   obtain ⟨h1,h2,h3⟩:=h
   obtain ⟨k1,k2⟩:=M.stuck q h1 h2 h3
   exact ⟨k1,Nat.le_of_lt k2,.inr ⟨j,q,rfl,rfl,rfl,k2⟩⟩
theorem sum_le (f g:Nat->Nat) (e:Nat):∀ k,(∀ j,j<k->g j≤f j+e)->((List.range k).map g).sum≤((List.range k).map f).sum+e*k
 |0,_=>by simp
 |k+1,h=>by
  have:=sum_le f g e k (fun j hj=>h j (by omega))
  have h1:=h k (by omega)
  rw[List.range_succ,List.map_append,List.map_append,List.sum_append,List.sum_append,Nat.mul_succ]
  simp only[List.map_cons,List.map_nil,List.sum_cons,List.sum_nil]
  omega
theorem sum_drop (f g:Nat->Nat) (e d i:Nat):∀ k,i<k->(∀ j,j<k->j≠i->g j≤f j+e)->g i+d≤f i->((List.range k).map g).sum+d≤((List.range k).map f).sum+e*k
 |k+1,hi,h,hd=>by
  rw[List.range_succ,List.map_append,List.map_append,List.sum_append,List.sum_append,Nat.mul_succ]
  simp only[List.map_cons,List.map_nil,List.sum_cons,List.sum_nil]
  by_cases hk:i=k
  ·subst hk
   have:=sum_le f g e i (fun j hj=>h j (by omega) (by omega))
   omega
  ·have:=sum_drop f g e d i k (by omega) (fun j hj hn=>h j (by omega) hn) hd
   have h1:=h k (by omega) (fun e=>hk e.symm)
   omega
theorem flow_tot (i:Nat):∀ (rest:List Cl) (ii:Nat) (sk:Bool) (ans:List (Int×Int)) (S:TS),tot M (flow i mc rest ii sk ans S).2≤M.L*rest.length∧(flow i mc rest ii sk ans S).1.n+2*tot M (flow i mc rest ii sk ans S).2≤S.n+2*(M.L*rest.length)+1∧(flow i mc rest ii sk ans S).1.chg=S.chg∧sits M (flow i mc rest ii sk ans S).2
 | [],ii,sk,ans,S=>by cases sk<;>exact ⟨Nat.zero_le _,by show S.n+2*0≤_;omega,rfl,trivial⟩
 |c :: rest,ii,true,ans,S=>by
  have:=flow_tot i rest (ii+1) true (ans.set ii (4,0)) S
  have e:flow i mc (c :: rest) ii true ans S=flow i mc rest (ii+1) true (ans.set ii (4,0)) S:=rfl
  have hL:=M.hL
  rw[e,List.length_cons,Nat.mul_succ]
  exact ⟨by omega,by omega,this.2.2⟩
 |c :: rest,ii,false,ans,S=>by
  have hs:=(set_ok M (stk:=S.stk) (M.start i c)).1
  have hL:=M.hL
  rw[List.length_cons,Nat.mul_succ]
  unfold flow
  cases h:mc.set S.stk (mc.start i c) with
  |ans e x =>
   have:=flow_tot i rest (ii+1) (e==4) (ans.set ii (e,x)) (Be (Be S undef i 9 (-1) ii 0) undef i 10 (-1) ii e)
   have en:(Be (Be S undef i 9 (-1) ii 0) undef i 10 (-1) ii e).n=S.n+2:=rfl
   rw[en] at this
   simp only
   exact ⟨by omega,by omega,this.2.2⟩
  |turn op j q =>
   rw[h] at hs
   obtain ⟨h1,h2,h3⟩:=hs
   refine ⟨?_,?_,rfl,h1,h2,h3⟩
   ·show M.L*rest.length+M.lev q≤_
    omega
   ·show S.n+1+2*(M.L*rest.length+M.lev q)≤_
    omega
  |wait j q =>
   rw[h] at hs
   obtain ⟨h1,h2,h3⟩:=hs
   refine ⟨?_,?_,rfl,h1,h2,h3⟩
   ·show M.L*rest.length+M.lev q≤_
    omega
   ·show S.n+1+2*(M.L*rest.length+M.lev q)≤_
    omega
theorem did_n (S:TS) (tv:Value) (i:Nat) (t:Thr) (b a:Int):(didS S tv i t b a).n=S.n+1:=by
 unfold didS;split<;>rfl
theorem did_same (S:TS) (tv:Value) (i:Nat) (t:Thr) (b:Int):didS S tv i t b b=Be S tv i t.op t.ce b b:=by
 unfold didS;rw[if_neg (fun h=>h.1 rfl)]
theorem set_cell (K:List (Nat×Int)) (j:Nat):K.set j ((cellAt K j).1,(cellAt K j).2)=K:=by
 apply List.ext_getElem?
 intro k
 rw[List.getElem?_set]
 split
 ·rename_i e
  subst e
  split
  ·rename_i h
   unfold cellAt
   rw[List.getElem?_eq_getElem h]
   rfl
  ·rename_i h
   rw[List.getElem?_eq_none (by omega)]
 ·rfl
def Pro (i:Nat) (l:Ph) (S:TS) (K:List (Nat×Int)) (w:Nat) (R:TS×List (Nat×Int)×Ph):Prop :=
 sits M R.2.2∧((R.1.chg=S.chg∧R.2.1=K∧R.1.n≤S.n+1∧tot M R.2.2=tot M l∧sw M R.1 K (thrI R.1 i) R.2.2+1≤w) ∨
  (tot M R.2.2+1≤tot M l∧R.1.n+2*tot M R.2.2≤S.n+2*tot M l+1))
theorem back_pro (i:Nat) (l:Ph) (S S1:TS) (K K1:List (Nat×Int)) (w:Nat) (rest:List Cl) (ii:Nat) (ans:List (Int×Int)) (a:Int×Int) (hl:M.L*rest.length+1≤tot M l) (hn:S1.n≤S.n+1):Pro M i l S K w (back i mc rest ii ans a S1 K1):=by
 have:=flow_tot M i rest (ii+1) (a.1==4) (ans.set ii a) (Be S1 undef i 10 (-1) ii a.1)
 have en:(Be S1 undef i 10 (-1) ii a.1).n=S1.n+1:=rfl
 rw[en] at this
 obtain ⟨h1,h2,h3,h4⟩:=this
 exact ⟨h4,.inr ⟨by show tot M (flow i mc rest (ii+1) (a.1==4) (ans.set ii a) (Be S1 undef i 10 (-1) ii a.1)).2+1≤_;omega,by show (flow i mc rest (ii+1) (a.1==4) (ans.set ii a) (Be S1 undef i 10 (-1) ii a.1)).1.n+2*tot M (flow i mc rest (ii+1) (a.1==4) (ans.set ii a) (Be S1 undef i 10 (-1) ii a.1)).2≤_;omega⟩⟩
theorem on_pro (i:Nat) (l:Ph) (S S1:TS) (K K1:List (Nat×Int)) (w:Nat) (rest:List Cl) (ii:Nat) (ans:List (Int×Int)) (x:Nx) (hx:seatOk M.L M.lev M.cl M.wq x) (hl:M.L*rest.length+nlev M.lev x+1≤tot M l) (hn:S1.n≤S.n+2) (hna:∀ e y,x=.ans e y->S1.n≤S.n+1):Pro M i l S K w (on i mc rest ii ans S1 K1 x):=by
 cases x with
 |ans e y=>exact back_pro M i l S S1 K K1 w rest ii ans (e,y) (by have:nlev M.lev (.ans e y)=0:=rfl;omega) (hna e y rfl)
 |turn op j q =>
  obtain ⟨k1,k2,k3⟩:=hx
  have hl:M.L*rest.length+M.lev q+1≤tot M l:=hl
  exact ⟨⟨k1,k2,k3⟩,.inr ⟨hl,by show S1.n+2*(M.L*rest.length+M.lev q)≤_;omega⟩⟩
 |wait j q =>
  obtain ⟨k1,k2,k3⟩:=hx
  have hl:M.L*rest.length+M.lev q+1≤tot M l:=hl
  exact ⟨⟨k1,k2,k3⟩,.inr ⟨hl,by show S1.n+2*(M.L*rest.length+M.lev q)≤_;omega⟩⟩
theorem resume_pro (i:Nat) (l:Ph) (S:TS) (K:List (Nat×Int)) (t:Thr) (ht:S.thr[i]? = some t) (hl:∀ a,l≠.done a) (hs:sits M l) (hr:∀ j q r k a,l=.wait j q r k a->S.stk=true∨B0 S.chg t.ce≠t.se) (hq:∀ op j q r k a,l=.turn op j q r k a->M.gq i q (cellAt K j).2):Pro M i l S K (sw M S K t l) (resume i mc l S K):=by
 have eth:thrI S i=t:=Cn ht
 match l,hl,hs,hr,hq with
 |.done a,hl,_,_,_=>exact absurd rfl (hl a)
 |.turn op j q rest ii ans,_,hs,_,hq =>
  obtain ⟨s1,s2,s3⟩:=hs
  have hg:=hq op j q rest ii ans rfl
  rw[Gb]
  generalize hxx:(cellAt K j).2=x at *
  obtain ⟨hok,hp⟩:=M.turn i q x hg s1 s2
  have hsw:sw M S K t (.turn op j q rest ii ans)=M.ws q x:=by show M.ws q (cellAt K j).2=_;rw[hxx]
  rw[hsw]
  have hnn:(Gw i (mc.nts q x) (didS S undef i (thrI S i) (mc.turn q x).1.1 (mc.turn q x).1.2)).n=S.n+1+(mc.nts q x).length:=by rw[notes_n,did_n]
  obtain ⟨w1,w2,w3⟩:=set_ok M (stk:=S.stk) hok
  rcases hp with hp|⟨e1,e2,e3,e4⟩
  · -- less is left
   refine on_pro M i _ S _ K _ _ rest ii ans _ w1 ?_ ?_ ?_
   ·show M.L*rest.length+nlev M.lev (mc.set S.stk (mc.turn q x).2.2)+1≤M.L*rest.length+M.lev q
    omega
   ·rw[hnn]
    rcases M.nt q x with h|⟨h,_⟩<;>rw[h]
    ·show S.n+1+0≤_;omega
    ·omega
   ·intro e y hey
    rw[hnn]
    rcases M.nt q x with h|⟨h,op',j',q',h1,h2⟩
    ·rw[h];show S.n+1+0≤_;omega
    ·rw[h1] at hey
     cases hey
  ·have hnt:mc.nts q x=[]:=by
    rcases M.nt q x with h|⟨h,op',j',q',h1,h2⟩
    ·exact h
    ·rw[h1] at e3
     have e3:M.lev q'=M.lev q:=e3
     omega
   rw[hnt] at hnn ⊢
   have hnn:(Gw i [] (didS S undef i (thrI S i) (mc.turn q x).1.1 (mc.turn q x).1.2)).n=S.n+1:=hnn
   rcases w3 with w3|⟨j',q',w4,w5,w6,w7⟩
   ·rw[w3]
    cases hnx:(mc.turn q x).2.2 with
    |ans e y=>rw[hnx] at e4;exact e4.elim
    |turn op' j' q' =>
     rw[hnx] at hok e3 e4
     obtain ⟨k1,k2,k3⟩:=hok
     refine ⟨⟨k1,k2,k3⟩,?_⟩
     left
     have ek:K.set j ((cellAt K j).1,(mc.turn q x).2.1)=K:=by rw[e2,←hxx];exact set_cell K j
     have e3:M.lev q'=M.lev q:=e3
     refine ⟨?_,ek,?_,?_,?_⟩
     ·show (didS S undef i (thrI S i) (mc.turn q x).1.1 (mc.turn q x).1.2).chg=_
      rw[e1,did_same]
      rfl
     ·show (didS S undef i (thrI S i) (mc.turn q x).1.1 (mc.turn q x).1.2).n≤_
      rw[did_n]
      exact Nat.le_refl _
     ·show M.L*rest.length+M.lev q'=M.L*rest.length+M.lev q
      rw[e3]
     ·show M.ws q' (cellAt K j').2+1≤_
      rw[k3,e4.1,←s3,hxx]
      exact e4.2
    |wait j' q' =>
     rw[hnx] at hok e3 e4
     obtain ⟨k1,k2,kq⟩:=hok
     refine ⟨⟨k1,k2,kq⟩,?_⟩
     left
     have ek:K.set j ((cellAt K j).1,(mc.turn q x).2.1)=K:=by rw[e2,←hxx];exact set_cell K j
     have e3:M.lev q'=M.lev q:=e3
     refine ⟨?_,ek,?_,?_,?_⟩
     ·show (didS S undef i (thrI S i) (mc.turn q x).1.1 (mc.turn q x).1.2).chg=_
      rw[e1,did_same]
      rfl
     ·show (didS S undef i (thrI S i) (mc.turn q x).1.1 (mc.turn q x).1.2).n≤_
      rw[did_n]
      exact Nat.le_refl _
     ·show M.L*rest.length+M.lev q'=M.L*rest.length+M.lev q
      rw[e3]
     ·have e6:∀ S':TS,S'.thr[i]? = some t->sw M (waiting S' i (thrI S' i) 2 6 j') K (thrI (waiting S' i (thrI S' i) 2 6 j') i) (.wait j' q' rest ii ans)=0:=fun S' h'=>by
       have e7:thrI (waiting S' i (thrI S' i) 2 6 j') i={ t with st:=2,ce:=j',op:=6,se:=B0 S'.chg j' }:=by
        rw[Cn h']
        exact Cn (Er h')
       rw[e7]
       exact if_pos rfl
      have:=e6 _ (G3 (tv:=undef) (t:=thrI S i) (b:=(mc.turn q x).1.1) (a:=(mc.turn q x).1.2) ht)
      show sw M (waiting (didS S undef i (thrI S i) (mc.turn q x).1.1 (mc.turn q x).1.2) i (thrI (didS S undef i (thrI S i) (mc.turn q x).1.1 (mc.turn q x).1.2) i) 2 6 j') K (thrI (waiting (didS S undef i (thrI S i) (mc.turn q x).1.1 (mc.turn q x).1.2) i (thrI (didS S undef i (thrI S i) (mc.turn q x).1.1 (mc.turn q x).1.2) i) 2 6 j') i) (.wait j' q' rest ii ans)+1≤_
      rw[this]
      omega
   ·rw[w6]
    rw[w4] at e3
    have e3:M.lev q'=M.lev q:=e3
    refine on_pro M i _ S _ K _ _ rest ii ans _ (by rw[←w6];exact w1) ?_ (by rw[hnn];omega) (fun _ _ _=>by rw[hnn];exact Nat.le_refl _)
    show M.L*rest.length+nlev M.lev (mc.stuck q')+1≤M.L*rest.length+M.lev q
    omega
 |.wait j q rest ii ans,_,hs,hr,_ =>
  obtain ⟨s1,s2,sq⟩:=hs
  rw[E8]
  split
  ·obtain ⟨k1,k2⟩:=M.stuck q s1 s2 sq
   refine on_pro M i _ S _ K _ _ rest ii ans _ k1 ?_ (by omega) (fun _ _ _=>Nat.le_succ _)
   show M.L*rest.length+nlev M.lev (mc.stuck q)+1≤M.L*rest.length+M.lev q
   omega
  ·rename_i hst
   have h2:sw M S K t (.wait j q rest ii ans)=2:=if_neg ((hr _ _ _ _ _ rfl).resolve_left (by simpa using hst))
   rw[h2]
   obtain ⟨hok,hp⟩:=M.woke q s1 s2 sq
   have hn1:(Be S undef i 6 j 0 0).n=S.n+1:=rfl
   rcases hp with hp|⟨e3,e5⟩
   ·refine on_pro M i _ S _ K _ _ rest ii ans _ hok ?_ (by rw[hn1];omega) (fun _ _ _=>Nat.le_refl _)
    show M.L*rest.length+nlev M.lev (mc.woke q)+1≤M.L*rest.length+M.lev q
    omega
   ·cases hnx:mc.woke q with
    |ans e y=>rw[hnx] at e5;exact e5.elim
    |turn op' j' q' =>
     rw[hnx] at hok e3 e5
     obtain ⟨k1,k2,k3⟩:=hok
     refine ⟨⟨k1,k2,k3⟩,?_⟩
     left
     have e3:M.lev q'=M.lev q:=e3
     refine ⟨rfl,rfl,Nat.le_refl _,?_,?_⟩
     ·show M.L*rest.length+M.lev q'=M.L*rest.length+M.lev q
      rw[e3]
     ·show M.ws q' (cellAt K j').2+1≤2
      have:=e5 (cellAt K j').2
      omega
    |wait j' q' =>
     rw[hnx] at hok e3 e5
     obtain ⟨k1,k2,kq⟩:=hok
     refine ⟨⟨k1,k2,kq⟩,?_⟩
     left
     have e3:M.lev q'=M.lev q:=e3
     refine ⟨rfl,rfl,Nat.le_refl _,?_,?_⟩
     ·show M.L*rest.length+M.lev q'=M.L*rest.length+M.lev q
      rw[e3]
     ·have e7:thrI (waiting (Be S undef i 6 j 0 0) i (thrI (Be S undef i 6 j 0 0) i) 2 6 j') i={ t with st:=2,ce:=j',op:=6,se:=B0 S.chg j' }:=by
       rw[show thrI (Be S undef i 6 j 0 0) i=t from Cn ht]
       exact Cn (Er (S:=Be S undef i 6 j 0 0) ht)
      show (if B0 S.chg (thrI (waiting (Be S undef i 6 j 0 0) i (thrI (Be S undef i 6 j 0 0) i) 2 6 j') i).ce=(thrI (waiting (Be S undef i 6 j 0 0) i (thrI (Be S undef i 6 j 0 0) i) 2 6 j') i).se then 0 else 2)+1≤2
      rw[e7,if_pos rfl]
      decide
def Meets (p:PSt):Prop:=∀ (i:Nat) (t:Thr),p.S.thr[i]? = some t->∀ op j q r k a,p.l i=.turn op j q r k a->M.gq i q (cellAt p.K j).2
theorem nextI_in {S:TS}(h:Ar S S.thr.length≠[]):∃ t,S.thr[Cz S]? = some t∧rdy S t=true:=by
 have h0:0<(Ar S S.thr.length).length:=List.length_pos_iff.2 h
 have h1:=pickAt_lt S h0
 have h2:Cz S∈Ar S S.thr.length:=by
  unfold Cz
  rw[List.getElem?_eq_getElem h1]
  exact List.getElem_mem h1
 unfold Ar at h2
 rw[List.mem_filter] at h2
 cases h3:S.thr[Cz S]? with
 |none=>rw[h3] at h2;cases h2.2
 |some t=>rw[h3] at h2;exact ⟨t,rfl,h2.2⟩
theorem going_thr {S:TS}{i:Nat}{t:Thr}(ht:S.thr[i]? = some t):(going S i t).thr[i]? = some { t with st:=0 }:=by
 have e:(picked S).thr=S.thr:=by unfold picked;split<;>rfl
 show ((picked S).thr.set i _)[i]? = _
 rw[e]
 exact Er ht
theorem going_oth {S:TS}{i:Nat}{t:Thr}{j:Nat}(hj:j≠i):(going S i t).thr[j]? = S.thr[j]?:=by
 have e:(picked S).thr=S.thr:=by unfold picked;split<;>rfl
 show ((picked S).thr.set i _)[j]? = _
 rw[e,List.getElem?_set,if_neg (fun e=>hj e.symm)]
theorem going_len {S:TS}{i:Nat}{t:Thr}:(going S i t).thr.length=S.thr.length:=by
 have e:(picked S).thr=S.thr:=by unfold picked;split<;>rfl
 show ((picked S).thr.set i _).length=_
 rw[e,List.length_set]
theorem going_keeps {S:TS}{i:Nat}{t:Thr}:(going S i t).chg=S.chg∧(going S i t).stk=S.stk∧(going S i t).n=S.n∧(going S i t).tr=S.tr:=by
 have e:(picked S).chg=S.chg∧(picked S).stk=S.stk∧(picked S).n=S.n∧(picked S).tr=S.tr:=by unfold picked;split<;>exact ⟨rfl,rfl,rfl,rfl⟩
 exact e
theorem pturn_mu {p p1:PSt}(g:Gd M p) (hq:Meets M p) (e:D5 mc p=some p1):Gd M p1∧mu M p1<mu M p∧p1.S.n+mu M p1≤p.S.n+mu M p:=by
 unfold D5 at e
 split at e
 ·rename_i h0
  split at e
  ·rename_i hw
   cases e
   unfold Cc at hw
   rw[List.any_eq_true] at hw
   obtain ⟨i,hi,hst⟩:=hw
   cases ht:p.S.thr[i]? with
   |none=>rw[ht] at hst;cases hst
   |some t =>
    rw[ht] at hst
    have hst:t.st=2:=by simpa using hst
    have hs:p.S.stk=false:=by
     cases hs:p.S.stk with
     |false=>rfl
     |true =>
      have:i∈Ar p.S p.S.thr.length:=by
       unfold Ar
       rw[List.mem_filter]
       exact ⟨hi,by rw[ht];simp[rdy,hst,hs]⟩
      rw[h0] at this;cases this
    have hmu:mu M ⟨Id p.S undef,p.K,p.l⟩+1=mu M p:=by
     unfold mu
     rw[hs]
     show 0+((List.range p.S.thr.length).map (wtI M ⟨Id p.S undef,p.K,p.l⟩)).sum+1=1+_
     have:wtI M ⟨Id p.S undef,p.K,p.l⟩=wtI M p:=rfl
     rw[this];omega
    refine ⟨⟨g.len,g.sit⟩,by omega,?_⟩
    show p.S.n+1+_≤_
    omega
  ·cases e
 ·rename_i h0
  obtain ⟨t,ht,hrd⟩:=nextI_in h0
  generalize hi:Cz p.S=i at ht e
  have eth:thrI p.S i=t:=Cn ht
  rw[eth] at e
  obtain ⟨hfit,hst,hsi⟩:=g.sit i t ht
  have hl:∀ a,p.l i≠.done a:=fun a ha=>by
   rw[ha] at hst
   have:t.st=3:=hst
   simp[rdy,this] at hrd
  have hk:=going_keeps (S:=p.S) (i:=i) (t:=t)
  have hgt:=going_thr ht
  have hw:∀ j q r k a,p.l i=.wait j q r k a->(going p.S i t).stk=true∨B0 (going p.S i t).chg ({ t with st:=0 }:Thr).ce≠({ t with st:=0 }:Thr).se:=fun j q r k a hpl=>by
   rw[hpl] at hst
   have hst:t.st=2:=hst
   rw[hk.1,hk.2.1]
   have:p.S.stk=true∨¬ B0 p.S.chg t.ce=t.se:=by simpa [rdy,hst] using hrd
   exact this
  have hm:=resume_pro M i (p.l i) (going p.S i t) p.K { t with st:=0 } hgt hl hsi hw (hq i t ht)
  have hg:=resume_fs i mc (going p.S i t) p.K { t with st:=0 } hgt (p.l i) hl
  have sta:=Ez i mc (p.l i) (going p.S i t) p.K
  generalize resume i mc (p.l i) (going p.S i t) p.K=R at e hm hg sta
  cases e
  have hilt:i<p.S.thr.length:=(List.getElem?_eq_some_iff.1 ht).1
  have hlen:R.1.thr.length=p.S.thr.length:=by rw[sta.len,going_len]
  have hoth:∀ j,j≠i->R.1.thr[j]? = p.S.thr[j]?:=fun j hj=>by rw[sta.oth j hj,going_oth hj]
  have hstk:R.1.stk=p.S.stk:=by rw[sta.stk,hk.2.1]
  have hwi:wtI M ⟨R.1,R.2.1,upd p.l i R.2.2⟩ i=32*tot M R.2.2+sw M R.1 R.2.1 (thrI R.1 i) R.2.2:=by
   show 32*tot M (upd p.l i R.2.2 i)+sw M R.1 R.2.1 (thrI R.1 i) (upd p.l i R.2.2 i)=_
   rw[upd_same]
  have hwi0:wtI M p i=32*tot M (p.l i)+sw M p.S p.K t (p.l i):=by unfold wtI;rw[eth]
  have hwt:sw M (going p.S i t) p.K { t with st:=0 } (p.l i)=sw M p.S p.K t (p.l i):=by
   cases p.l i with
   |turn _ _ _ _ _ _=>rfl
   |done _=>rfl
   |wait _ _ _ _ _=>show (if B0 (going p.S i t).chg t.ce=t.se then 0 else 2)=if _ then 0 else 2;rw[hk.1]
  rw[hwt] at hm
  obtain ⟨hsit,hm⟩:=hm
  have hj:∀ j,j≠i->thrI R.1 j=thrI p.S j:=fun j hne=>by unfold thrI;rw[hoth j hne]
  have key:∃ d,1≤d∧R.1.n≤p.S.n+d∧((List.range R.1.thr.length).map (wtI M ⟨R.1,R.2.1,upd p.l i R.2.2⟩)).sum+d≤((List.range p.S.thr.length).map (wtI M p)).sum:=by
   rw[hlen]
   rcases hm with ⟨m1,m2,m3,m4,m5⟩|⟨m1,m3⟩
   ·refine ⟨1,Nat.le_refl _,by rw[hk.2.2.1] at m3;exact m3,?_⟩
    have:=sum_drop (wtI M p) (wtI M ⟨R.1,R.2.1,upd p.l i R.2.2⟩) 0 1 i p.S.thr.length hilt (fun j _ hne=>by
     show 32*tot M (upd p.l i R.2.2 j)+sw M R.1 R.2.1 (thrI R.1 j) (upd p.l i R.2.2 j)≤_
     rw[upd_ne _ _ hne,hj j hne,m2]
     have e3:sw M R.1 p.K (thrI p.S j) (p.l j)=sw M p.S p.K (thrI p.S j) (p.l j):=by
      cases p.l j with
      |turn _ _ _ _ _ _=>rfl
      |done _=>rfl
      |wait _ _ _ _ _=>show (if B0 R.1.chg _=_ then 0 else 2)=if _ then 0 else 2;rw[m1,hk.1]
     rw[e3]
     exact Nat.le_refl _) (by rw[hwi,hwi0,m2,m4];omega)
    omega
   ·have h8:=g.len
    have s3:=sw_le M R.1 R.2.1 (thrI R.1 i) R.2.2
    rw[hk.2.2.1] at m3
    generalize hD:tot M (p.l i) - tot M R.2.2=D
    have hD':tot M (p.l i)=tot M R.2.2+D:=by omega
    refine ⟨1+2*D,by omega,by omega,?_⟩
    have:=sum_drop (wtI M p) (wtI M ⟨R.1,R.2.1,upd p.l i R.2.2⟩) 3 (32*D - 3) i p.S.thr.length hilt (fun j _ hne=>by
     show 32*tot M (upd p.l i R.2.2 j)+sw M R.1 R.2.1 (thrI R.1 j) (upd p.l i R.2.2 j)≤_
     rw[upd_ne _ _ hne]
     have:=sw_le M R.1 R.2.1 (thrI R.1 j) (p.l j)
     unfold wtI
     omega) (by rw[hwi,hwi0,hD'];omega)
    omega
  obtain ⟨d,d1,d2,d3⟩:=key
  refine ⟨⟨by rw[hlen];exact g.len,fun j tj htj=>?_⟩,?_,?_⟩
  ·by_cases hne:j=i
   ·subst hne
    obtain ⟨t',g1,g2,g3⟩:=hg
    have htj:R.1.thr[j]? = some tj:=htj
    rw[g1] at htj
    obtain rfl:=Option.some.inj htj
    show FitsN (upd p.l j R.2.2 j) _∧StN (upd p.l j R.2.2 j) _∧sits M (upd p.l j R.2.2 j)
    rw[upd_same]
    exact ⟨g2,g3,hsit⟩
   ·show FitsN (upd p.l i R.2.2 j) tj∧StN (upd p.l i R.2.2 j) tj∧sits M (upd p.l i R.2.2 j)
    rw[upd_ne _ _ hne]
    have htj:R.1.thr[j]? = some tj:=htj
    exact g.sit j tj (by rw[←hoth j hne];exact htj)
  ·unfold mu
   show (if R.1.stk then 0 else 1)+((List.range R.1.thr.length).map (wtI M ⟨R.1,R.2.1,upd p.l i R.2.2⟩)).sum<_
   rw[hstk]
   omega
  ·unfold mu
   show R.1.n+((if R.1.stk then 0 else 1)+((List.range R.1.thr.length).map (wtI M ⟨R.1,R.2.1,upd p.l i R.2.2⟩)).sum)≤_
   rw[hstk]
   omega
theorem turns_endI {I:PSt->Prop}(hI:∀ p p1,Gd M p->I p->D5 mc p=some p1->I p1) (hm:∀ p,I p->Meets M p):∀ (m:Nat) (p:PSt),mu M p≤m->Gd M p->I p->∃ n p',n≤m∧Turns mc n p p'∧p'.S.n≤p.S.n+mu M p:=by
 intro m
 induction m with
 |zero =>
  intro p hmu g hi
  cases e:D5 mc p with
  |none=>exact ⟨0,p,Nat.le_refl _,.stop e,Nat.le_add_right _ _⟩
  |some p1=>have:=(pturn_mu M g (hm p hi) e).2.1;omega
 |succ m ih =>
  intro p hmu g hi
  cases e:D5 mc p with
  |none=>exact ⟨0,p,Nat.zero_le _,.stop e,Nat.le_add_right _ _⟩
  |some p1 =>
   obtain ⟨g1,h1,h2⟩:=pturn_mu M g (hm p hi) e
   obtain ⟨n,p',k1,k2,k3⟩:=ih p1 (by omega) g1 (hI p p1 g hi e)
   exact ⟨n+1,p',by omega,.step e k2,by omega⟩
theorem turns_gdI {I:PSt->Prop}(hI:∀ p p1,Gd M p->I p->D5 mc p=some p1->I p1) (hm:∀ p,I p->Meets M p) {m:Nat}{p p':PSt}(h:Turns mc m p p'):Gd M p->I p->Gd M p'∧I p'∧p'.S.n+mu M p'≤p.S.n+mu M p:=by
 induction h with
 |stop=>exact fun g hi=>⟨g,hi,Nat.le_refl _⟩
 |@step n p p1 p' e _ ih =>
  intro g hi
  obtain ⟨g1,_,h2⟩:=pturn_mu M g (hm _ hi) e
  have:=ih g1 (hI _ _ g hi e)
  exact ⟨this.1,this.2.1,by omega⟩
theorem hires_gd {k:Nat}{ss:List (Scr mc)}{S S':TS}{l l':Nat->Ph}(h:Hires mc k ss S l S' l') (hk:S.thr.length=k) (h8:k+ss.length≤8) (hs:∀ i t,S.thr[i]? = some t->FitsN (l i) t∧StN (l i) t∧sits M (l i)) :
 S'.thr.length=k+ss.length∧(∀ i t,S'.thr[i]? = some t->FitsN (l' i) t∧StN (l' i) t∧sits M (l' i))∧S'.n≤S.n+2*lens ss∧((List.range S'.thr.length).map fun i=>tot M (l' i)).sum≤((List.range S.thr.length).map fun i=>tot M (l i)).sum+M.L*lens ss:=by
 induction h with
 |nil=>exact ⟨by simpa using hk,hs,Nat.le_add_right _ _,Nat.le_add_right _ _⟩
 |@cons k s ss S S' l l' tv tb gc h ih =>
  have hlen:(Ax S tv tb gc).thr.length=k+1:=by simp[Ax,hk]
  obtain ⟨t0,ht0⟩:∃ t0,(Ax S tv tb gc).thr[k]? = some t0:=⟨_,List.getElem?_eq_getElem (by omega)⟩
  have sta:=Fi k mc s.calls 0 false s.ans (Ax S tv tb gc)
  obtain ⟨t1,f1,f2,f3⟩:=flow_fs k mc s.calls 0 false s.ans (Ax S tv tb gc) t0 ht0
  have hle:=flow_le k mc s.calls 0 false s.ans (Ax S tv tb gc)
  obtain ⟨hlf,_,_,hsf⟩:=flow_tot M k s.calls 0 false s.ans (Ax S tv tb gc)
  have hn0:(Ax S tv tb gc).n=S.n:=rfl
  simp only[List.length_cons] at h8
  obtain ⟨i1,i2,i3,i4⟩:=ih (by rw[sta.len,hlen]) (by omega) (fun i t ht=>by
   by_cases hi:i=k
   ·subst hi
    rw[f1] at ht;cases ht
    rw[upd_same]
    exact ⟨f2,f3,hsf⟩
   ·rw[upd_ne _ _ hi]
    rw[sta.oth i hi] at ht
    refine hs i t ?_
    have:i<k:=by
     have:=(List.getElem?_eq_some_iff.1 ht).1
     omega
    simpa [Ax,List.getElem?_append,hk,this] using ht)
  refine ⟨by rw[i1];simp only[List.length_cons];omega,i2,?_,?_⟩
  ·simp only[lens,List.map_cons,List.sum_cons] at i3 ⊢
   omega
  ·have e1:(flow k mc s.calls 0 false s.ans (Ax S tv tb gc)).1.thr.length=k+1:=by rw[sta.len,hlen]
   rw[e1,List.range_succ,List.map_append,List.sum_append] at i4
   simp only[List.map_cons,List.map_nil,List.sum_cons,List.sum_nil] at i4
   rw[upd_same] at i4
   have e2:(List.range k).map (fun i=>tot M (upd l k (flow k mc s.calls 0 false s.ans (Ax S tv tb gc)).2 i))=(List.range k).map (fun i=>tot M (l i)):=List.map_congr_left (fun i hi=>by
    have:i<k:=List.mem_range.1 hi
    rw[upd_ne _ _ (by omega)])
   rw[e2] at i4
   rw[hk]
   simp only[lens,List.map_cons,List.sum_cons] at i4 ⊢
   rw[Nat.mul_add]
   omega
theorem mu_le (p:PSt) (h8:p.S.thr.length≤8):mu M p≤25+32*((List.range p.S.thr.length).map fun i=>tot M (p.l i)).sum:=by
 have h:∀ k,((List.range k).map (wtI M p)).sum≤32*((List.range k).map fun i=>tot M (p.l i)).sum+3*k:=fun k=>by
  induction k with
  |zero=>simp
  |succ k ih =>
   rw[List.range_succ,List.map_append,List.map_append,List.sum_append,List.sum_append]
   simp only[List.map_cons,List.map_nil,List.sum_cons,List.sum_nil]
   have:=sw_le M p.S p.K (thrI p.S k) (p.l k)
   unfold wtI at ih ⊢
   omega
 have:=h p.S.thr.length
 unfold mu
 split<;>omega
end
end Go.Proofs.YtaofjdoielmobaaDoor.Gen
