/- Of the proof of LatchLinear. Part 14 of 27. (Joined, by program, and written short, of: GPlay, GLit, GObj, GEnd, GLoneX, Until2, LatW, LatW2, LatD.) -/
import Derived.Test.YtfjjoohflcchnaaLatchLinear05
import Derived.Test.YtfjjoohflcchnaaLatchLinear07
import Derived.Test.YtfjjoohflcchnaaLatchLinear11
import Derived.Test.YtfjjoohflcchnaaLatchLinear13
set_option linter.unusedSimpArgs false
set_option linter.unusedVariables false
set_option maxHeartbeats 4000000
set_option maxRecDepth 100000
namespace Go.Proofs.Ytfjjoohflcchnaa.Gen
open Go Go.Lift Go.Conc Go.RowKit
def cellsS (S:TS) (cv:Value) (k:Nat):TS:={ S with cv:=cv,chg:=List.replicate k 0 }
structure Cel (z:Nat→Option Nat) (S:TS) (K:List (Nat×Int)) (v:World) (S':TS) (K':List (Nat×Int)) (v':World):Prop where
 mem:Mem z S' K' v'
 fr:Fr (Own S K) v v'
 own:∀ b,Own S' K' b→Own S K b∨v.heap.size≤b
section
variable {z:Nat→Option Nat} {S S1 S2:TS} {K K1 K2:List (Nat×Int)} {v v1 v2:World}
theorem Cel.refl (h:Mem z S K v):Cel z S K v S K v:=⟨h,Fr.refl _ _,fun b h=>.inl h⟩
theorem Cel.trans (h:Cel z S K v S1 K1 v1) (k:Cel z S1 K1 v1 S2 K2 v2):Cel z S K v S2 K2 v2:=by
 refine ⟨k.mem,⟨k.fr.os.trans h.fr.os,k.fr.output.trans h.fr.output,Nat.le_trans h.fr.size k.fr.size,fun b hb hs=>?_⟩,fun b hb=>?_⟩
 ·rw [k.fr.block b (Nat.lt_of_lt_of_le hb h.fr.size) (fun e=>(h.own b e).elim hs (fun e=>by omega)),h.fr.block b hb hs]
 ·rcases k.own b hb with e|e
  ·exact h.own b e
  ·exact .inr (Nat.le_trans h.fr.size e)
theorem Cel.push (h:Cel z S K v S1 K1 v1) {o:Obj} (e:v2.heap=v1.heap.push o) (e1:v2.os=v1.os) (e2:v2.output=v1.output):Cel z S K v S1 K1 v2:=by
 have g:Grows v1 v2:=⟨by rw [e];simp,fun b hb=>by rw [e,Array.getElem?_push,if_neg (by omega)],e1,e2⟩
 exact h.trans ⟨(h.mem.grows g).mem,⟨e1,e2,g.size,fun b hb _=>g.old b hb⟩,fun b hb=>.inl hb⟩
theorem Cel.same (h:Cel z S K v S1 K1 v1) (e:v2.heap=v1.heap) (e1:v2.os=v1.os) (e2:v2.output=v1.output):Cel z S K v S1 K1 v2:=by
 have g:Grows v1 v2:=⟨by rw [e];exact Nat.le_refl _,fun b hb=>by rw [e],e1,e2⟩
 exact h.trans ⟨(h.mem.grows g).mem,⟨e1,e2,g.size,fun b hb _=>g.old b hb⟩,fun b hb=>.inl hb⟩
theorem Cel.from (h:Cel z S K v1 S1 K1 v2) (e:v1.heap=v.heap) (e1:v1.os=v.os) (e2:v1.output=v.output):Cel z S K v S1 K1 v2 :=
 ⟨h.mem,⟨h.fr.os.trans e1,h.fr.output.trans e2,by rw [←e];exact h.fr.size,fun b hb hs=>by rw [h.fr.block b (by rw [e];exact hb) hs,e]⟩,fun b hb=>by rw [←e];exact h.own b hb⟩
end
structure Asked (v:World) (S:TS) (n sb so:Nat) (pc:Nat→Option Addr) (ln cp rb:Nat→Nat) (cl:Nat→List Cl):Prop where
 len:∀ j,j<n→(cl j).length=ln j∧ln j≤64
 row:∀ k,k<n→v.cell? ⟨sb,so+k,none⟩=some (.slice (pc k) (ln k) (cp k))
 far:¬ Own S [] sb
 pq:∀ j,j<n→0<ln j→pc j=some ⟨rb j,roOf (pc j),none⟩∧¬ Own S [] (rb j)
 call:∀ j,j<n→∀ (k:Nat) (c:Cl),(cl j)[k]? = some c→v.cell? ⟨rb j,roOf (pc j)+k*4,none⟩=some (I c.po)∧v.cell? ⟨rb j,roOf (pc j)+k*4+1,none⟩=some (I c.ca)∧v.cell? ⟨rb j,roOf (pc j)+k*4+2,none⟩=some (I c.cb)∧v.cell? ⟨rb j,roOf (pc j)+k*4+3,none⟩=some (I c.cc)
 ca:∀ j,j<n→∀ c∈cl j,-9223372036854775808≤c.ca∧c.ca<9223372036854775808
structure Objs (v:World) (S:TS) (xs:List Int) (pk:Nat→Option Obj) (S1:TS) (K:List (Nat×Int)) (u:World):Prop where
 cel:Cel zn S [] v S1 K u
 vals:K.map (·.2)=xs
 st:∃ cv,S1=cellsS S cv xs.length
 has:Has pk u
 new:∀ b,pk b≠none→v.heap.size≤b∧¬ Own S1 K b
 row:∀ b o,pk b=some o→∃ c e f,o=.cells c e f
theorem Objs.same {v:World} {S:TS} {xs:List Int} {pk:Nat→Option Obj} {S1:TS} {K:List (Nat×Int)} {u u':World} (h:Objs v S xs pk S1 K u) (e:u'.heap=u.heap) (e1:u'.os=u.os) (e2:u'.output=u.output):Objs v S xs pk S1 K u' :=
 ⟨h.cel.same e e1 e2,h.vals,h.st,fun b o hb=>by rw [e];exact h.has b o hb,h.new,h.row⟩
section
variable {v u:World} {S S1:TS} {K:List (Nat×Int)} {n sb so:Nat} {pc:Nat→Option Addr} {ln cp rb:Nat→Nat} {cl:Nat→List Cl} {xs:List Int} {pk:Nat→Option Obj}
theorem told_of (hm:Mem zn S [] v) (hb:Open v S.bk) (t:Asked v S n sb so pc ln cp rb cl) (o:Objs v S xs pk S1 K u) :
 Told u S1 K pk n pc ln cp rb cl∧(∀ k,k<n→u.cell? ⟨sb,so+k,none⟩=some (.slice (pc k) (ln k) (cp k)))∧Open u S.bk∧v.heap.size≤u.heap.size ∧
  ∀ b,b<v.heap.size→¬ Own S [] b→u.heap[b]? = v.heap[b]?∧¬ Own S1 K b:=by
 have no:∀ b,b<v.heap.size→¬ Own S [] b→¬ Own S1 K b:=fun b hb ho h=>(o.cel.own b h).elim ho (fun h=>by omega)
 have same:∀ b,b<v.heap.size→¬ Own S [] b→u.heap[b]? = v.heap[b]?:=fun b hb ho=>o.cel.fr.block b hb ho
 have hcell:∀ (a:Addr) (x:Value),¬ Own S [] a.block→v.cell? a=some x→u.cell? a=some x:=fun a x ho ha=>by
  rw [World.cell?_of_block (w:=v) (w':=u) (same a.block (World.block_lt_of_cell? _ _ ha) ho)]
  exact ha
 have hbkl:S.bk<v.heap.size:=by obtain ⟨c,m,h⟩:=hb;exact (Array.getElem?_eq_some_iff.1 h).1
 have hbk:¬ Own S [] S.bk:=fun h=>by
  obtain ⟨c,m,hh⟩:=hb
  obtain ⟨x,e,f,h1⟩:=hm.row h
  rw [h1] at hh;cases hh
 have hO:Open u S.bk:=by
  obtain ⟨c,m,hh⟩:=hb
  exact ⟨c,m,by rw [same _ hbkl hbk];exact hh⟩
 have e1:S1.bk=S.bk:=by obtain ⟨cv,rfl⟩:=o.st;rfl
 refine ⟨⟨o.has,fun b hb=>⟨(o.new b hb).2,by have:=(o.new b hb).1;rw [e1];omega⟩,o.row,t.len,fun j hj h0=>?_,fun j hj k c hc=>?_,t.ca⟩,fun k hk=>hcell _ _ t.far (t.row k hk),hO,o.cel.fr.size,fun b hb ho=>⟨same b hb ho,no b hb ho⟩⟩
 ·have h1:=t.pq j hj h0
  obtain ⟨c,hc⟩:∃ c,(cl j)[0]? = some c:=⟨_,List.getElem?_eq_getElem (by have:=t.len j hj;omega)⟩
  have hl:=World.block_lt_of_cell? _ _ (t.call j hj 0 c hc).1
  exact ⟨h1.1,no _ hl h1.2⟩
 ·have h0:0<ln j:=by have:=(List.getElem?_eq_some_iff.1 hc).1;have:=t.len j hj;omega
  have ho:=(t.pq j hj h0).2
  have h4:=t.call j hj k c hc
  exact ⟨hcell _ _ ho h4.1,hcell _ _ ho h4.2.1,hcell _ _ ho h4.2.2.1,hcell _ _ ho h4.2.2.2⟩
end
structure GOut (w:World) (S:TS) (n:Nat) (ln:Nat→Nat) (N:Nat) (S':TS) (K':List (Nat×Int)) (l:Nat→Ph) (w':World):Prop where
 mem:Mem zn S' K' w'
 size:w.heap.size≤w'.heap.size
 low:w.heap.size≤N
 old:∀ b,b<w.heap.size→¬ Own S [] b→b≠S.bk→w'.heap[b]? = w.heap[b]?∧¬ Own S' K' b
 rows:∀ j,j<n→w'.cell? ⟨N+1,j,none⟩=some (.slice (some ⟨N+4+3*j+2,0,none⟩) (ln j) (ln j))
 ans:∀ j,j<n→(l j).ans.length=ln j∧(0<ln j→w'.heap[N+4+3*j+2]? = some (.cells (arow (l j).ans).toArray 42 (0,0)))∧∃ a,l j=.done a
 os:w'.os=w.os
 out:w'.output=w.output
section
variable {mc:Mc} {fid:FuncId} {S:TS} {n sb so:Nat} {pc:Nat→Option Addr} {ln cp rb:Nat→Nat} {cl:Nat→List Cl} {xs:List Int}
theorem gplay_all (P:Pkg mc fid) {Q:Array Value→(Nat→Option Obj)→List (Nat×Int)→Prop} (hQ:∀ caps pk K,Q caps pk K→∀ X:Fix mc,X.fid=fid→X.caps=caps→X.pk=pk→X.kb=K.map (·.1)→P.Mine X)
 {cap:Nat} {cs:List Frame} {bc:Frame} {ac:Act} {ops:Array Oper} {q0:Nat} {rest:List Nat} {oc:Oper} {k0:List Item} {w:World} {T:Trace} {gs:Array Goroutine} {q:Nat→Nat} (sl:Option (Nat×Nat)) (NT:Nat) (A:Alone gs w T q) {g0:Goroutine} (hg:gs[0]? = some g0)
 (hG:GoesI Try.prog true (DT (ScZ zn) (fun _=>False)) (fun g w'=>∃ (bd:Frame) (ad:Act) (od:Array Oper) (qd:Nat) (rd:List Nat) (oe:Oper) (kd:List Item) (caps:Array Value) (pk:Nat→Option Obj) (S1:TS) (K:List (Nat×Int)),Objs w S xs pk S1 K w'∧Q caps pk K∧od[qd]? = some oe ∧
   (∀ (Ch:Nat→Prop) (Stop:Goroutine→World→Prop) (w1:World) (x:Value),(∀ d,GoesI Try.prog true (DT (ScZ zn) Ch) Stop (G (bc.at (ac.put oc.dst (.tuple #[x,I 0])) (.inRegion ops rest :: k0)) cs) (w1.at d))→GoesI Try.prog true (DT (ScZ zn) Ch) Stop (G (bd.at (ad.put oe.dst x) (.inRegion od rd :: kd)) (bc.at ac (.inRegion ops (q0 :: rest) :: k0) :: cs)) w1) ∧
   g=G ((base 54).at { tmps:=#[Pt S.wb 0,.slice (some ⟨sb,so,none⟩) n cap,.func (.func fid) #[] caps]++Array.replicate 36 undef,defers:=[] } [.code B20]) (bd.at ad (.inRegion od (qd :: rd) :: kd) :: bc.at ac (.inRegion ops (q0 :: rest) :: k0) :: cs)) g0 w)
 (hm:Mem zn S [] w) (hthr:S.thr=[]) (hran:S.ran=false) (hbk:Open w S.bk) (t:Asked w S n sb so pc ln cp rb cl) (hn8:0<n∧n≤8)
 (hlen:∀ caps pk N K,S.n+2*lens (scrs mc fid caps pk N n K pc ln cp rb cl)≤1000000) (hsl:S.sched.length≤4611686018427387904) (hsc:∀ x∈S.sched,-9223372036854775808≤x∧x<9223372036854775808) (l0:Nat→Ph)
 (hturn:∀ (caps:Array Value) (pk:Nat→Option Obj) (N:Nat) (cv:Value) (K:List (Nat×Int)),K.map (·.2)=xs→∀ S1 l1,Hires mc 0 (scrs mc fid caps pk N n K pc ln cp rb cl) (nv { cellsS S cv xs.length with ran:=true }) l0 S1 l1→∃ m p',m≤NT∧Turns mc m ⟨S1,K,l1⟩ p'∧p'.S.n*40≤140737488355328) :
 ∃ (N':Nat) (gs':Array Goroutine) (w':World) (sl':Option (Nat×Nat)) (T':Trace) (q':Nat→Nat) (caps:Array Value) (pk:Nat→Option Obj) (N:Nat) (cv:Value) (K:List (Nat×Int)) (S':TS) (S1:TS) (l1:Nat→Ph) (m:Nat) (p':PSt),
   runNT Try.prog N' (crowd gs w sl) T=(.next (crowd gs' w' sl'),T')∧gs'.size=gs.size+n∧gs'[0]? = some (G (bc.at (ac.put oc.dst (.tuple #[.slice (some ⟨N+1,0,none⟩) n n,I 0])) (.inRegion ops rest :: k0)) cs) ∧
   Alone gs' w' T' q'∧K.map (·.2)=xs∧nv S'=p'.S∧Hires mc 0 (scrs mc fid caps pk N n K pc ln cp rb cl) (nv { cellsS S cv xs.length with ran:=true }) l0 S1 l1∧Turns mc m ⟨S1,K,l1⟩ p'∧GOut w S n ln N S' p'.K p'.l w':=by
 obtain ⟨N1,gs1,a1,w1,sl1,T1,q1,r1,z1,h1,⟨bd,ad,od,qd,rd,oe,kd,caps,pk,S1,K,ho,hq,hoe,hback,rfl⟩,A1⟩:=alone_goes A hg sl hG
 obtain ⟨t1,hs1,hbk1,hsz1,hold1⟩:=told_of hm hbk t ho
 obtain ⟨cv,rfl⟩:=ho.st
 have hsb:sb<w1.heap.size:=World.block_lt_of_cell? _ _ (hs1 0 hn8.1)
 obtain ⟨N2,gs2,w2,sl2,T2,q2,S2,S3,l1,m,p',r2,z2,h2,A2,hnv,hH,hT,O⟩:=run20_all P (hQ caps pk K hq) (S:=cellsS S cv xs.length) (K:=K) hoe sl1 NT A1 h1 ho.cel.mem hthr hran hbk1 t1 hs1 hsb hn8.2 (hlen _ _ _ _) hsl hsc l0 (hturn _ _ _ cv K ho.vals)
 obtain ⟨N3,gs3,a3,w3,sl3,T3,q3,r3,z3,h3,⟨rfl,d3,rfl⟩,A3⟩:=alone_goes A2 h2 sl2 (hback (fun _=>False) (fun g w'=>g=G (bc.at (ac.put oc.dst (.tuple #[.slice (some ⟨w1.heap.size+1,0,none⟩) n n,I 0])) (.inRegion ops rest :: k0)) cs∧∃ d,w'=w2.at d) w2 _ (fun d=>GoesI.stop fun d'=>⟨rfl,d',rfl⟩))
 refine ⟨N1+N2+N3,gs3,w2.at d3,sl3,T3,q3,caps,pk,w1.heap.size,cv,K,S2,S3,l1,m,p',runNT_then (runNT_then r1 r2) r3,by omega,h3,A3,ho.vals,hnv,hH,hT,⟨(O.mem.grows (v':=w2.at d3) ⟨Nat.le_refl _,fun _ _=>rfl,rfl,rfl⟩).mem,Nat.le_trans hsz1 O.size,hsz1,fun b hb hob hk=>?_,O.rows,O.ans,O.os.trans ho.cel.fr.os,O.out.trans ho.cel.fr.output⟩⟩
 have h5:=hold1 b hb hob
 have h6:=O.old b (by omega) h5.2 hk
 exact ⟨h6.1.trans h5.1,h6.2⟩
end
def lits (u:Nat→Value):Nat→Nat→List Value
 |_,0=>[]
 |s,n+1=>u s :: lits u (s+1) n
theorem lits_get (u:Nat→Value):∀ (n s i:Nat),(lits u s n)[i]? = if i<n then some (u (s+i)) else none
 |0,s,i=>by simp [lits]
 |n+1,s,0=>by simp [lits]
 |n+1,s,i+1=>by
  have:=lits_get u n (s+1) i
  simp only [lits,List.getElem?_cons_succ,this,Nat.add_lt_add_iff_right]
  rw [show s+1+i=s+(i+1) by omega]
theorem litN {n:Nat} {a:Act} (h:a.tmps.size=n) (hd:a.defers=[]):∃ u:Nat→Value,a={ tmps:=(lits u 0 n).toArray,defers:=[] }∧∀ i,a.tmps.getD i undef=u i:=by
 obtain ⟨⟨l⟩,ds⟩:=a
 simp only at hd h
 subst hd
 refine ⟨fun i=>(Array.mk l).getD i undef,?_,fun i=>rfl⟩
 have e:l=lits (fun i=>(Array.mk l).getD i undef) 0 n:=by
  apply List.ext_getElem?
  intro i
  rw [lits_get]
  have hl:l.length=n:=h
  by_cases hi:i<n
  ·rw [if_pos hi,List.getElem?_eq_getElem (by omega)]
   simp [Array.getD,hl,hi]
  ·rw [if_neg hi,List.getElem?_eq_none (by omega)]
 exact congrArg (fun x=>({ tmps:=x.toArray,defers:=[] }:Act)) e
def Fl (n:Nat) (l:List (Nat×Value)) (a:Act):Prop:=a.tmps.size=n∧a.defers=[]∧∀ p∈l,a.tmps.getD p.1 undef=p.2
theorem Fl.sub {n:Nat} {l l':List (Nat×Value)} {a:Act} (h:Fl n l a) (hs:∀ p∈l',p∈l):Fl n l' a:=⟨h.1,h.2.1,fun p hp=>h.2.2 p (hs p hp)⟩
theorem Fl.at {n:Nat} {l:List (Nat×Value)} {a:Act} (h:Fl n l a) (k:Nat) (v:Value) (hs:(k,v)∈l):a.eval (.tmp k)=v:=h.2.2 (k,v) hs
def padd (pk:Nat→Option Obj) (b:Nat) (o:Obj):Nat→Option Obj:=fun x=>if x=b then some o else pk x
theorem padd_at (pk:Nat→Option Obj) (b:Nat) (o:Obj):padd pk b o b=some o:=by unfold padd;rw [if_pos rfl]
theorem padd_ne {pk:Nat→Option Obj} {b x:Nat} {o:Obj} (h:x≠b):padd pk b o x=pk x:=by unfold padd;rw [if_neg h]
theorem cell_of {v:World} {b j:Nat} {c:Array Value} {t:TypeId} {f:Nat×Nat} {x:Value} (h:v.heap[b]? = some (.cells c t f)) (hj:c[j]? = some x):v.cell? ⟨b,j,none⟩=some x:=by
 unfold World.cell?
 rw [h]
 exact hj
section
variable {v u u':World} {S S1:TS} {K:List (Nat×Int)} {xs:List Int} {pk:Nat→Option Obj}
theorem Objs.start (hm:Mem zn S [] v) (hch:S.chg=[]):Objs v S [] (fun _=>none) S [] v :=
 ⟨Cel.refl hm,rfl,⟨S.cv,by unfold cellsS;rw [List.length_nil,List.replicate_zero,←hch]⟩,fun b o h=>(by cases h),fun b h=>absurd rfl h,fun b o h=>(by cases h)⟩
theorem Objs.push (h:Objs v S xs pk S1 K u) {c:Array Value} {t:TypeId} (e:u'.heap=u.heap.push (.cells c t)) (e1:u'.os=u.os) (e2:u'.output=u.output):Objs v S xs (padd pk u.heap.size (.cells c t)) S1 K u':=by
 refine ⟨h.cel.push e e1 e2,h.vals,h.st,fun b o hb=>?_,fun b hb=>?_,fun b o hb=>?_⟩
 ·by_cases hbu:b=u.heap.size
  ·subst hbu
   rw [padd_at] at hb
   cases hb
   rw [e]
   exact Array.getElem?_push_size
  ·rw [padd_ne hbu] at hb
   have:=h.has b o hb
   have hl:=(Array.getElem?_eq_some_iff.1 this).1
   rw [e,Array.getElem?_push,if_neg (by omega)]
   exact this
 ·by_cases hbu:b=u.heap.size
  ·subst hbu
   exact ⟨h.cel.fr.size,fun ho=>by have:=h.cel.mem.lt ho;omega⟩
  ·rw [padd_ne hbu] at hb
   exact h.new b hb
 ·by_cases hbu:b=u.heap.size
  ·subst hbu
   rw [padd_at] at hb
   cases hb
   exact ⟨_,_,_,rfl⟩
  ·rw [padd_ne hbu] at hb
   exact h.row b o hb
theorem Objs.more (h:Objs v S xs pk S1 K u) {S2:TS} {K2:List (Nat×Int)} {ys:List Int} (c:Cel zn S1 K u S2 K2 u') (hv:K2.map (·.2)=ys) (hs:∃ cv,S2=cellsS S cv ys.length):Objs v S ys pk S2 K2 u':=by
 have hl:∀ b o,pk b=some o→b<u.heap.size:=fun b o hb=>(Array.getElem?_eq_some_iff.1 (h.has b o hb)).1
 refine ⟨h.cel.trans c,hv,hs,fun b o hb=>?_,fun b hb=>?_,h.row⟩
 ·rw [c.fr.block b (hl b o hb) (h.new b (by rw [hb];simp)).2]
  exact h.has b o hb
 ·obtain ⟨o,ho⟩:=Option.ne_none_iff_exists'.1 hb
  refine ⟨(h.new b hb).1,fun ho'=>?_⟩
  rcases c.own b ho' with e|e
  ·exact (h.new b hb).2 e
  ·have:=hl b o ho;omega
theorem Objs.cell (h:Objs v S xs pk S1 K u) (x:Int) (hl:xs.length≤1000000):Calls Try.prog 21 #[Pt S.wb 0,I x] u (fun e w'=>∃ cb,e=.returned (Pt cb 0)∧u.heap.size≤w'.heap.size∧∃ S2,Objs v S (xs++[x]) pk S2 (K++[(cb,x)]) w'):=by
 obtain ⟨cv,rfl⟩:=h.st
 have h10:=(body10 h.cel.mem x (by show (List.replicate xs.length (0:Int)).length≤_;simp;omega)).calls Try.func21 rfl
 refine h10.mono ?_
 rintro e w' ⟨r,rfl,cb,cv',rfl,hm1,hf1,hn1⟩
 refine ⟨cb,rfl,hf1.size,_,h.more ⟨hm1,hf1,hn1⟩ (by rw [List.map_append,h.vals];rfl) ⟨cv',?_⟩⟩
 unfold celledS cellsS
 simp only [List.length_append,List.length_cons,List.length_nil,Nat.zero_add,List.replicate_succ']
end
theorem goesI_retZ {Ch:Nat→Prop} {Stop:Goroutine→World→Prop} {main:Bool} {f:FuncId} {c:Code} {act:Act} {more:List Item} {cs:List Frame} {v w:World} {Q:Act→World→Prop} (hvw:Rel zn v w) (hn:NoRow Ch v) (hc:fineCode Try.prog true LV c) (ha:act.defers=[])
 (hwp:∀ τ,c.wp Try.prog (fun e a w'=>e=.ret∧Q a w') act (onTape v τ 0))
 (h:∀ a' v' w' todo,Q a' v'→a'.defers=[]→Rel zn v' w'→NoRow Ch v'→GoesI Try.prog main (DT (ScZ zn) Ch) Stop (G { (base f).at a' todo with mode:=.returning } cs) w') :
 GoesI Try.prog main (DT (ScZ zn) Ch) Stop (G ((base f).at act (.code c :: more)) cs) w:=by
 have hfin:=lift_code (P:=Try.prog) (z:=zn) (wr:=true) (L:=LV) (D:=DT (ScZ zn) Ch) (I:=NoRow Ch) (main:=main) (b:=base f) (k:=more) (cs:=cs) hE fineV noRow_keeps (fun v v' w w' es hi hr ho he=>dt_of_z v v' w w' es hi hr ho he) hvw hc ha (by simp [base]) hn
  (Q:=fun e a w'=>e=.ret∧Q a w') hwp (fun e a w hq=>.inr hq.1)
 refine hfin.then ?_
 rintro g w' ⟨a',v',hr,hiv,hd,⟨⟨hq,_⟩,_⟩|⟨⟨_,hQ⟩,todo,rfl⟩⟩
 ·cases hq
 ·exact h a' v' w' todo hQ hd hr hiv
theorem _root_.Go.Proofs.Ytfjjoohflcchnaa.Grows.toAt {W v w:World} (h:Grows W v) (hr:Rel zn v w) (d:Nat):Grows W (w.at d):=by
 have e:(w.at d).heap=v.heap:=hr.eq
 exact ⟨by rw [e];exact h.size,fun b hb=>by rw [e];exact h.old b hb,hr.os.trans h.os,hr.output.trans h.output⟩
theorem _root_.Go.Proofs.Ytfjjoohflcchnaa.Grows.andThen {W v w:World} (h:Grows W v) (k:Grows v w):Grows W w:=⟨Nat.le_trans h.size k.size,fun b hb=>by rw [k.old b (by have:=h.size;omega),h.old b hb],k.os.trans h.os,k.output.trans h.output⟩
def PostT (W:World) (r:Value) (w':World):Prop:=r=.bool true∧Grows W w'
end Go.Proofs.Ytfjjoohflcchnaa.Gen
namespace Go.Proofs.Ytfjjoohflcchnaa
open Go Go.Lift Go.Conc Go.RowKit
def plainX3:List FuncId:=[56,59,61,62,63,64,89,106,114,18,20,21,22,29,53,58,83,31,32,34,35,36,37,44,68,73,49,43,71,72,95,96,97,98,115,116,117,118,119,141,142,143,149,51,82]
def LX3 (f:FuncId):Prop:=f∈plainX3
theorem callX3:∀ f∈plainX3,Callable Try.prog LX3 f:=by
 intro f hf
 have hf':=hf
 simp only [plainX3,List.mem_cons,List.not_mem_nil,or_false] at hf
 rcases hf with rfl|rfl|rfl|rfl|rfl|rfl|rfl|rfl|rfl|rfl|rfl|rfl|rfl|rfl|rfl|rfl|rfl|rfl|rfl|rfl|rfl|rfl|rfl|rfl|rfl|rfl|rfl|rfl|rfl|rfl|rfl|rfl|rfl|rfl|rfl|rfl|rfl|rfl|rfl|rfl|rfl|rfl|rfl|rfl|rfl
 ·exact ⟨hf',Try.f56,Try.func56,by kernel_rfl,by kernel_rfl⟩
 ·exact ⟨hf',Try.f59,Try.func59,by kernel_rfl,by kernel_rfl⟩
 ·exact ⟨hf',Try.f61,Try.func61,by kernel_rfl,by kernel_rfl⟩
 ·exact ⟨hf',Try.f62,Try.func62,by kernel_rfl,by kernel_rfl⟩
 ·exact ⟨hf',Try.f63,Try.func63,by kernel_rfl,by kernel_rfl⟩
 ·exact ⟨hf',Try.f64,Try.func64,by kernel_rfl,by kernel_rfl⟩
 ·exact ⟨hf',Try.f89,Try.func89,by kernel_rfl,by kernel_rfl⟩
 ·exact ⟨hf',Try.f106,Try.func106,by kernel_rfl,by kernel_rfl⟩
 ·exact ⟨hf',Try.f114,Try.func114,by kernel_rfl,by kernel_rfl⟩
 ·exact ⟨hf',Try.f18,Try.func18,by kernel_rfl,by kernel_rfl⟩
 ·exact ⟨hf',Try.f20,Try.func20,by kernel_rfl,by kernel_rfl⟩
 ·exact ⟨hf',Try.f21,Try.func21,by kernel_rfl,by kernel_rfl⟩
 ·exact ⟨hf',Try.f22,Try.func22,by kernel_rfl,by kernel_rfl⟩
 ·exact ⟨hf',Try.f29,Try.func29,by kernel_rfl,by kernel_rfl⟩
 ·exact ⟨hf',Try.f53,Try.func53,by kernel_rfl,by kernel_rfl⟩
 ·exact ⟨hf',Try.f58,Try.func58,by kernel_rfl,by kernel_rfl⟩
 ·exact ⟨hf',Try.f83,Try.func83,by kernel_rfl,by kernel_rfl⟩
 ·exact ⟨hf',Try.f31,Try.func31,by kernel_rfl,by kernel_rfl⟩
 ·exact ⟨hf',Try.f32,Try.func32,by kernel_rfl,by kernel_rfl⟩
 ·exact ⟨hf',Try.f34,Try.func34,by kernel_rfl,by kernel_rfl⟩
 ·exact ⟨hf',Try.f35,Try.func35,by kernel_rfl,by kernel_rfl⟩
 ·exact ⟨hf',Try.f36,Try.func36,by kernel_rfl,by kernel_rfl⟩
 ·exact ⟨hf',Try.f37,Try.func37,by kernel_rfl,by kernel_rfl⟩
 ·exact ⟨hf',Try.f44,Try.func44,by kernel_rfl,by kernel_rfl⟩
 ·exact ⟨hf',Try.f68,Try.func68,by kernel_rfl,by kernel_rfl⟩
 ·exact ⟨hf',Try.f73,Try.func73,by kernel_rfl,by kernel_rfl⟩
 ·exact ⟨hf',Try.f49,Try.func49,by kernel_rfl,by kernel_rfl⟩
 ·exact ⟨hf',Try.f43,Try.func43,by kernel_rfl,by kernel_rfl⟩
 ·exact ⟨hf',Try.f71,Try.func71,by kernel_rfl,by kernel_rfl⟩
 ·exact ⟨hf',Try.f72,Try.func72,by kernel_rfl,by kernel_rfl⟩
 ·exact ⟨hf',Try.f95,Try.func95,by kernel_rfl,by kernel_rfl⟩
 ·exact ⟨hf',Try.f96,Try.func96,by kernel_rfl,by kernel_rfl⟩
 ·exact ⟨hf',Try.f97,Try.func97,by kernel_rfl,by kernel_rfl⟩
 ·exact ⟨hf',Try.f98,Try.func98,by kernel_rfl,by kernel_rfl⟩
 ·exact ⟨hf',Try.f115,Try.func115,by kernel_rfl,by kernel_rfl⟩
 ·exact ⟨hf',Try.f116,Try.func116,by kernel_rfl,by kernel_rfl⟩
 ·exact ⟨hf',Try.f117,Try.func117,by kernel_rfl,by kernel_rfl⟩
 ·exact ⟨hf',Try.f118,Try.func118,by kernel_rfl,by kernel_rfl⟩
 ·exact ⟨hf',Try.f119,Try.func119,by kernel_rfl,by kernel_rfl⟩
 ·exact ⟨hf',Try.f141,Try.func141,by kernel_rfl,by kernel_rfl⟩
 ·exact ⟨hf',Try.f142,Try.func142,by kernel_rfl,by kernel_rfl⟩
 ·exact ⟨hf',Try.f143,Try.func143,by kernel_rfl,by kernel_rfl⟩
 ·exact ⟨hf',Try.f149,Try.func149,by kernel_rfl,by kernel_rfl⟩
 ·exact ⟨hf',Try.f51,Try.func51,by kernel_rfl,by kernel_rfl⟩
 ·exact ⟨hf',Try.f82,Try.func82,by kernel_rfl,by kernel_rfl⟩
theorem fineX3:∀ f,LX3 f→fineFn Try.prog true LX3 f:=by
 intro f hf
 simp only [LX3,plainX3,List.mem_cons,List.not_mem_nil,or_false] at hf
 rcases hf with rfl|rfl|rfl|rfl|rfl|rfl|rfl|rfl|rfl|rfl|rfl|rfl|rfl|rfl|rfl|rfl|rfl|rfl|rfl|rfl|rfl|rfl|rfl|rfl|rfl|rfl|rfl|rfl|rfl|rfl|rfl|rfl|rfl|rfl|rfl|rfl|rfl|rfl|rfl|rfl|rfl|rfl|rfl|rfl|rfl
 ·exact fineFn_askS callX3 extT Try.func56 (c:=Try.f56.body.getD .skip) (by rfl) (by kernel_rfl)
 ·exact fineFn_askS callX3 extT Try.func59 (c:=Try.f59.body.getD .skip) (by rfl) (by kernel_rfl)
 ·exact fineFn_askS callX3 extT Try.func61 (c:=Try.f61.body.getD .skip) (by rfl) (by kernel_rfl)
 ·exact fineFn_askS callX3 extT Try.func62 (c:=Try.f62.body.getD .skip) (by rfl) (by kernel_rfl)
 ·exact fineFn_askS callX3 extT Try.func63 (c:=Try.f63.body.getD .skip) (by rfl) (by kernel_rfl)
 ·exact fineFn_askS callX3 extT Try.func64 (c:=Try.f64.body.getD .skip) (by rfl) (by kernel_rfl)
 ·exact fineFn_askS callX3 extT Try.func89 (c:=Try.f89.body.getD .skip) (by rfl) (by kernel_rfl)
 ·exact fineFn_askS callX3 extT Try.func106 (c:=Try.f106.body.getD .skip) (by rfl) (by kernel_rfl)
 ·exact fineFn_askS callX3 extT Try.func114 (c:=Try.f114.body.getD .skip) (by rfl) (by kernel_rfl)
 ·exact fineFn_askS callX3 extT Try.func18 (c:=Try.f18.body.getD .skip) (by rfl) (by kernel_rfl)
 ·exact fineFn_askS callX3 extT Try.func20 (c:=Try.f20.body.getD .skip) (by rfl) (by kernel_rfl)
 ·exact fineFn_askS callX3 extT Try.func21 (c:=Try.f21.body.getD .skip) (by rfl) (by kernel_rfl)
 ·exact fineFn_askS callX3 extT Try.func22 (c:=Try.f22.body.getD .skip) (by rfl) (by kernel_rfl)
 ·exact fineFn_askS callX3 extT Try.func29 (c:=Try.f29.body.getD .skip) (by rfl) (by kernel_rfl)
 ·exact fineFn_askS callX3 extT Try.func53 (c:=Try.f53.body.getD .skip) (by rfl) (by kernel_rfl)
 ·exact fineFn_askS callX3 extT Try.func58 (c:=Try.f58.body.getD .skip) (by rfl) (by kernel_rfl)
 ·exact fineFn_askS callX3 extT Try.func83 (c:=Try.f83.body.getD .skip) (by rfl) (by kernel_rfl)
 ·exact fineFn_askS callX3 extT Try.func31 (c:=Try.f31.body.getD .skip) (by rfl) (by kernel_rfl)
 ·exact fineFn_askS callX3 extT Try.func32 (c:=Try.f32.body.getD .skip) (by rfl) (by kernel_rfl)
 ·exact fineFn_askS callX3 extT Try.func34 (c:=Try.f34.body.getD .skip) (by rfl) (by kernel_rfl)
 ·exact fineFn_askS callX3 extT Try.func35 (c:=Try.f35.body.getD .skip) (by rfl) (by kernel_rfl)
 ·exact fineFn_askS callX3 extT Try.func36 (c:=Try.f36.body.getD .skip) (by rfl) (by kernel_rfl)
 ·exact fineFn_askS callX3 extT Try.func37 (c:=Try.f37.body.getD .skip) (by rfl) (by kernel_rfl)
 ·exact fineFn_askS callX3 extT Try.func44 (c:=Try.f44.body.getD .skip) (by rfl) (by kernel_rfl)
 ·exact fineFn_askS callX3 extT Try.func68 (c:=Try.f68.body.getD .skip) (by rfl) (by kernel_rfl)
 ·exact fineFn_askS callX3 extT Try.func73 (c:=Try.f73.body.getD .skip) (by rfl) (by kernel_rfl)
 ·exact fineFn_askS callX3 extT Try.func49 (c:=Try.f49.body.getD .skip) (by rfl) (by kernel_rfl)
 ·exact fineFn_askS callX3 extT Try.func43 (c:=Try.f43.body.getD .skip) (by rfl) (by kernel_rfl)
 ·exact fineFn_askS callX3 extT Try.func71 (c:=Try.f71.body.getD .skip) (by rfl) (by kernel_rfl)
 ·exact fineFn_askS callX3 extT Try.func72 (c:=Try.f72.body.getD .skip) (by rfl) (by kernel_rfl)
 ·exact fineFn_askS callX3 extT Try.func95 (c:=Try.f95.body.getD .skip) (by rfl) (by kernel_rfl)
 ·exact fineFn_askS callX3 extT Try.func96 (c:=Try.f96.body.getD .skip) (by rfl) (by kernel_rfl)
 ·exact fineFn_askS callX3 extT Try.func97 (c:=Try.f97.body.getD .skip) (by rfl) (by kernel_rfl)
 ·exact fineFn_askS callX3 extT Try.func98 (c:=Try.f98.body.getD .skip) (by rfl) (by kernel_rfl)
 ·exact fineFn_askS callX3 extT Try.func115 (c:=Try.f115.body.getD .skip) (by rfl) (by kernel_rfl)
 ·exact fineFn_askS callX3 extT Try.func116 (c:=Try.f116.body.getD .skip) (by rfl) (by kernel_rfl)
 ·exact fineFn_askS callX3 extT Try.func117 (c:=Try.f117.body.getD .skip) (by rfl) (by kernel_rfl)
 ·exact fineFn_askS callX3 extT Try.func118 (c:=Try.f118.body.getD .skip) (by rfl) (by kernel_rfl)
 ·exact fineFn_askS callX3 extT Try.func119 (c:=Try.f119.body.getD .skip) (by rfl) (by kernel_rfl)
 ·exact fineFn_askS callX3 extT Try.func141 (c:=Try.f141.body.getD .skip) (by rfl) (by kernel_rfl)
 ·exact fineFn_askS callX3 extT Try.func142 (c:=Try.f142.body.getD .skip) (by rfl) (by kernel_rfl)
 ·exact fineFn_askS callX3 extT Try.func143 (c:=Try.f143.body.getD .skip) (by rfl) (by kernel_rfl)
 ·exact fineFn_askS callX3 extT Try.func149 (c:=Try.f149.body.getD .skip) (by rfl) (by kernel_rfl)
 ·exact fineFn_askS callX3 extT Try.func51 (c:=Try.f51.body.getD .skip) (by rfl) (by kernel_rfl)
 ·exact fineFn_askS callX3 extT Try.func82 (c:=Try.f82.body.getD .skip) (by rfl) (by kernel_rfl)
end Go.Proofs.Ytfjjoohflcchnaa
namespace Go.Proofs.Ytfjjoohflcchnaa.Gen
open Go Go.Lift Go.Conc Go.RowKit
theorem goesI_retX {Ch:Nat→Prop} {Stop:Goroutine→World→Prop} {main:Bool} {f:FuncId} {c:Code} {act:Act} {more:List Item} {cs:List Frame} {v w:World} {Q:Act→World→Prop} (hvw:Rel zn v w) (hn:NoRow Ch v) (hc:fineCode Try.prog true LX3 c) (ha:act.defers=[])
 (hwp:∀ τ,c.wp Try.prog (fun e a w'=>e=.ret∧Q a w') act (onTape v τ 0))
 (h:∀ a' v' w' todo,Q a' v'→a'.defers=[]→Rel zn v' w'→NoRow Ch v'→GoesI Try.prog main (DT (ScZ zn) Ch) Stop (G { (base f).at a' todo with mode:=.returning } cs) w') :
 GoesI Try.prog main (DT (ScZ zn) Ch) Stop (G ((base f).at act (.code c :: more)) cs) w:=by
 have hfin:=lift_code (P:=Try.prog) (z:=zn) (wr:=true) (L:=LX3) (D:=DT (ScZ zn) Ch) (I:=NoRow Ch) (main:=main) (b:=base f) (k:=more) (cs:=cs) hE fineX3 noRow_keeps (fun v v' w w' es hi hr ho he=>dt_of_z v v' w w' es hi hr ho he) hvw hc ha (by simp [base]) hn
  (Q:=fun e a w'=>e=.ret∧Q a w') hwp (fun e a w hq=>.inr hq.1)
 refine hfin.then ?_
 rintro g w' ⟨a',v',hr,hiv,hd,⟨⟨hq,_⟩,_⟩|⟨⟨_,hQ⟩,todo,rfl⟩⟩
 ·cases hq
 ·exact h a' v' w' todo hQ hd hr hiv
end Go.Proofs.Ytfjjoohflcchnaa.Gen
namespace Go.Proofs.Ytfjjoohflcchnaa
open Go Go.Lift Go.Conc Go.RowKit
end Go.Proofs.Ytfjjoohflcchnaa
namespace Go.Proofs.Ytfjjoohflcchnaa.Gen
open Go Go.Lift Go.Conc Go.RowKit
def plainG:List FuncId:=[56,59,61,62,63,64,89,106,114,29]
def LG (f:FuncId):Prop:=f∈plainG
theorem callG:∀ f∈plainG,Callable Try.prog LG f:=by
 intro f hf
 have hf':=hf
 simp only [plainG,List.mem_cons,List.not_mem_nil,or_false] at hf
 rcases hf with rfl|rfl|rfl|rfl|rfl|rfl|rfl|rfl|rfl|rfl
 ·exact ⟨hf',Try.f56,Try.func56,by kernel_rfl,by kernel_rfl⟩
 ·exact ⟨hf',Try.f59,Try.func59,by kernel_rfl,by kernel_rfl⟩
 ·exact ⟨hf',Try.f61,Try.func61,by kernel_rfl,by kernel_rfl⟩
 ·exact ⟨hf',Try.f62,Try.func62,by kernel_rfl,by kernel_rfl⟩
 ·exact ⟨hf',Try.f63,Try.func63,by kernel_rfl,by kernel_rfl⟩
 ·exact ⟨hf',Try.f64,Try.func64,by kernel_rfl,by kernel_rfl⟩
 ·exact ⟨hf',Try.f89,Try.func89,by kernel_rfl,by kernel_rfl⟩
 ·exact ⟨hf',Try.f106,Try.func106,by kernel_rfl,by kernel_rfl⟩
 ·exact ⟨hf',Try.f114,Try.func114,by kernel_rfl,by kernel_rfl⟩
 ·exact ⟨hf',Try.f29,Try.func29,by kernel_rfl,by kernel_rfl⟩
theorem fineG:∀ f,LG f→fineFn Try.prog true LG f:=by
 intro f hf
 simp only [LG,plainG,List.mem_cons,List.not_mem_nil,or_false] at hf
 rcases hf with rfl|rfl|rfl|rfl|rfl|rfl|rfl|rfl|rfl|rfl
 ·exact fineFn_ask callG extT Try.func56 (c:=Try.f56.body.getD .skip) (by rfl) (by kernel_rfl)
 ·exact fineFn_ask callG extT Try.func59 (c:=Try.f59.body.getD .skip) (by rfl) (by kernel_rfl)
 ·exact fineFn_ask callG extT Try.func61 (c:=Try.f61.body.getD .skip) (by rfl) (by kernel_rfl)
 ·exact fineFn_ask callG extT Try.func62 (c:=Try.f62.body.getD .skip) (by rfl) (by kernel_rfl)
 ·exact fineFn_ask callG extT Try.func63 (c:=Try.f63.body.getD .skip) (by rfl) (by kernel_rfl)
 ·exact fineFn_ask callG extT Try.func64 (c:=Try.f64.body.getD .skip) (by rfl) (by kernel_rfl)
 ·exact fineFn_ask callG extT Try.func89 (c:=Try.f89.body.getD .skip) (by rfl) (by kernel_rfl)
 ·exact fineFn_ask callG extT Try.func106 (c:=Try.f106.body.getD .skip) (by rfl) (by kernel_rfl)
 ·exact fineFn_ask callG extT Try.func114 (c:=Try.f114.body.getD .skip) (by rfl) (by kernel_rfl)
 ·exact fineFn_ask callG extT Try.func29 (c:=Try.f29.body.getD .skip) (by rfl) (by kernel_rfl)
noncomputable def L43:Code:=loopC (blockC (seq1 (seq2 (Try.f45.body.getD .skip))))
noncomputable def T43:Code:=seq2 (seq2 (Try.f45.body.getD .skip))
noncomputable def ops431:Array Oper:=opsOf (seq1 (seq1 L43))
noncomputable def ops432:Array Oper:=opsOf (seq1 (blockC (seq2 L43)))
theorem fineT43:fineCode Try.prog true LT T43:=fineCode_ask callT extT (by kernel_rfl)
noncomputable def wFr (lb tb:Nat) (u:Nat→Value):Frame :=
 (base 45).at ⟨#[Pt lb 0,Pt tb 0,undef,undef,.bool false,u 5,u 6,u 7,u 8,u 9,u 10,u 11,u 12,u 13,u 14,u 15,u 16,u 17,u 18,u 19],[]⟩ [.code L43,.inLoop L43,.inBlock 0,.code T43]
noncomputable def wSeen (lb cb tb:Nat) (u:Nat→Value) (r:Value):Frame :=
 (base 45).at ((⟨#[Pt lb 0,Pt tb 0,undef,undef,.bool false,Pt lb 0,Pt lb 0,Pt lb 0,Pt cb 0,Pt tb 0,u 10,u 11,u 12,u 13,u 14,u 15,u 16,u 17,u 18,u 19],[]⟩:Act).put (some 10) r) [.inRegion ops431 [6],.code (seq2 (seq1 L43)),.code (seq2 L43),.inLoop L43,.inBlock 0,.code T43]
noncomputable def wWoke (lb tb:Nat) (u:Nat→Value) (r:Value):Frame :=
 (base 45).at ((⟨#[Pt lb 0,Pt tb 0,undef,undef,.bool false,u 5,u 6,u 7,u 8,u 9,u 10,u 11,u 12,u 13,u 14,u 15,u 16,u 17,u 18,u 19],[]⟩:Act).put (some 18) r) [.inRegion ops432 [7],.code (seq2 (blockC (seq2 L43))),.inBlock 1,.inLoop L43,.inBlock 0,.code T43]
theorem wait_loop {z:Nat→Option Nat} {Ch:Nat→Prop} {Stop:Goroutine→World→Prop} {h:Nat} {cont:Addr→Value} {S:TS} {K:List (Nat×Int)} {v w:World} {i j cb lb:Nat} {t:Thr} (x:Int) (u:Nat→Value) (cs:List Frame) (Hm:Goroutine→Prop)
 (hH:∀ g,OpBack (h==0) i j cb t.tb 1 effLoad (fun r=>G (wSeen lb cb t.tb u r) cs) g→Hm g) (hlb:v.cell? ⟨lb,0,none⟩=some (Pt cb 0))
 (hvw:Rel z v w) (hn:NoRow Ch v) (hm:Mem z S K v) (ht:S.thr[i]? = some t) (hK:K[j]? = some (cb,x)) (hz:z t.tb=some 2) (hcont:cont ⟨t.tb,2,none⟩=.chan (some t.gc))
 (hstop:∀ g w',GiveT z cont h S.bk t.gc Hm (Then z Ch S K v (waiting S i t 1 1 j) K) g w'→Stop g w') :
 GoesI Try.prog (h==0) (DT (ScZ z) Ch) Stop (G (wFr lb t.tb u) cs) w:=by
 have e0:w.cell? ⟨lb,0,none⟩=some (Pt cb 0):=by rw [hvw.cell?];exact hlb
 have HM:Hid (Mem z S K v):=⟨hm⟩
 clear hm
 unfold wFr L43 T43 Try.f45 seq2 seq1 blockC loopC
 simp only [Option.getD_some]
 refine goesI_seq (dt_idle _ _) ?_
 refine goesI_seq (dt_idle _ _) ?_
 refine goesI_region (dt_idle _ _) ?_
 simp only [List.size_toArray,List.length_cons,List.length_nil,Nat.reduceAdd,Nat.zero_add,List.range,List.range.loop]
 iterate 5
  (refine goesI_oper rfl rfl (by decide) (fun d K hK=>?_)
   go_simp
   refine hK _ _ ⟨dt_reads (fun e he=>?_),GoesI.at ?_ d⟩
   ·have hm:=mem_listed he
    simp [go_sem, *] at hm
    try exact ⟨_,_,hm⟩
   clear hK K)
 refine goesI_into (f:=28) (fn:=Try.f28) (args:=#[Pt cb 0,Pt t.tb 0]) (dt_idle _ _) rfl rfl (by decide) rfl (by simp [Act.eval]) Try.func28 (by decide) rfl ?_
 exact load_goes x _ Hm rfl (fun g hg=>hH g hg) hvw hn HM.out ht hK hz hcont hstop _ rfl
theorem wait_in {z:Nat→Option Nat} {Ch:Nat→Prop} {Stop:Goroutine→World→Prop} {main:Bool} {w:World} {lb tb:Nat} (cs:List Frame)
 (hk:∀ u,GoesI Try.prog main (DT (ScZ z) Ch) Stop (G (wFr lb tb u) cs) w) (code:Code) (hc:Try.f45.body=some code) :
 GoesI Try.prog main (DT (ScZ z) Ch) Stop (G ((base 45).at { tmps:=#[Pt lb 0,Pt tb 0]++Array.replicate 18 undef,defers:=[] } [.code code]) cs) w:=by
 obtain rfl:=Option.some.inj hc
 clear hc
 simp only [Array.replicate_succ,Array.replicate_zero,List.push_toArray,List.append_toArray,List.nil_append,List.cons_append]
 refine goesI_seq (dt_idle _ _) ?_
 refine goesI_region (dt_idle _ _) ?_
 simp only [List.size_toArray,List.length_cons,List.length_nil,Nat.reduceAdd,Nat.zero_add,List.range,List.range.loop]
 (refine goesI_oper rfl rfl (by decide) (fun d K hK=>?_)
  go_simp
  refine hK _ _ ⟨dt_reads (fun e he=>?_),GoesI.at ?_ d⟩
  ·have hm:=mem_listed he
   simp [go_sem, *] at hm
  clear hK K)
 refine goesI_regionEnd (dt_idle _ _) ?_
 refine goesI_seq (dt_idle _ _) ?_
 refine goesI_block (dt_idle _ _) ?_
 refine goesI_loop (dt_idle _ _) ?_
 exact hk (fun _=>undef)
theorem res43 (tmps:Array Value):∃ v,(∀ w,(results Try.f45 tmps).run Try.prog w=.ok v w)∧∀ w,(results Try.f45 tmps).events Try.prog w #[]=#[] :=
 ⟨_,fun w=>results_tmp rfl _ _ _,fun w=>by simp [results,go_sem]⟩
theorem wait_done {z:Nat→Option Nat} {Ch:Nat→Prop} {Stop:Goroutine→World→Prop} {main:Bool} {v w:World} {lb cb tb:Nat} (u:Nat→Value) (cs:List Frame) {bc:Frame} {ac:Act} {ops:Array Oper} {q:Nat} {rest:List Nat} {oc:Oper} {k:List Item} (hoc:ops[q]? = some oc)
 (hvw:Rel z v w) (hn:NoRow Ch v)
 (hk:∀ v' w',Rel z v' w'→NoRow Ch v'→v'.heap=v.heap→v'.os=v.os→v'.output=v.output→GoesI Try.prog main (DT (ScZ z) Ch) Stop (G (bc.at (ac.put oc.dst (.bool true)) (.inRegion ops rest :: k)) cs) w') :
 GoesI Try.prog main (DT (ScZ z) Ch) Stop (G (wSeen lb cb tb u (I 0)) (bc.at ac (.inRegion ops (q :: rest) :: k) :: cs)) w:=by
 unfold wSeen ops431 L43 T43 Try.f45 seq2 seq1 blockC loopC opsOf
 simp only [Option.getD_some]
 walk_nrm
 (refine goesI_oper rfl rfl (by decide) (fun d K hK=>?_)
  go_simp
  refine hK _ _ ⟨dt_reads (fun e he=>?_),GoesI.at ?_ d⟩
  ·have hm:=mem_listed he
   simp [go_sem, *] at hm
  clear hK K)
 refine goesI_regionEnd (dt_idle _ _) ?_
 refine goesI_cond (dt_idle _ _) (t:=false) (by simp [Act.eval]) ?_
 simp only [if_true,if_false,Bool.false_eq_true]
 refine goesI_exit (dt_idle _ _) rfl ?_
 refine goesI_rest (f:=45) (fn:=Try.f45) (c:=T43) hE fineT hvw hn Try.func45 fineT43 rfl hoc res43 (fun τ=>?_) (fun r v' w' hR hr' hn'=>?_) (R:=fun r w'=>r=.bool true∧w'.heap=v.heap∧w'.os=v.os∧w'.output=v.output)
 ·show Code.wp Try.prog (seq2 (seq2 (Try.f45.body.getD .skip))) _ _ _
  unfold Try.f45 seq2
  simp only [Option.getD_some]
  go_wp2_with fail
  go_ret
  exact ⟨_,rfl,rfl,rfl,rfl,rfl⟩
 ·obtain ⟨rfl,h1,h2,h3⟩:=hR
  exact hk v' w' hr' hn' h1 h2 h3
def wVal (lb cb tb:Nat) (x:Int) (j:Nat) (u:Nat→Value):Nat→Value
 |5=>Pt lb 0
 |6=>Pt lb 0
 |7=>Pt lb 0
 |8=>Pt cb 0
 |9=>Pt tb 0
 |10=>I x
 |11=>.bool (x != 0)
 |12=>Pt tb 0
 |13=>Pt lb 0
 |14=>Pt lb 0
 |15=>Pt lb 0
 |16=>Pt cb 0
 |17=>I j
 |k=>u k
theorem wait_more {z:Nat→Option Nat} {Ch:Nat→Prop} {Stop:Goroutine→World→Prop} {main:Bool} {S:TS} {K:List (Nat×Int)} {v w:World} {j cb lb tb:Nat} (x:Int) (hx:x≠0) (y:Int) (u:Nat→Value) (cs:List Frame) (hlb:v.cell? ⟨lb,0,none⟩=some (Pt cb 0))
 (hvw:Rel z v w) (hn:NoRow Ch v) (hm:Mem z S K v) (hK:K[j]? = some (cb,y))
 (hk:∀ v' w' (bd:Frame) (ad:Act) (od:Array Oper) (qd:Nat) (rd:List Nat) (oe:Oper) (kd:List Item),Rel z v' w'→NoRow Ch v'→Evo z S K v S K v'→od[qd]? = some oe→(∀ r,bd.at (ad.put oe.dst r) (.inRegion od rd :: kd)=wWoke lb tb (wVal lb cb tb x j u) r)→∀ code,Try.f65.body=some code →
   GoesI Try.prog main (DT (ScZ z) Ch) Stop (G ((base 65).at { tmps:=#[Pt tb 0,I j]++Array.replicate (Try.f65.ntmps - 2) undef,defers:=[] } [.code code]) (bd.at ad (.inRegion od (qd :: rd) :: kd) :: cs)) w') :
 GoesI Try.prog main (DT (ScZ z) Ch) Stop (G (wSeen lb cb tb u (I x)) cs) w:=by
 have e0:w.cell? ⟨lb,0,none⟩=some (Pt cb 0):=by rw [hvw.cell?];exact hlb
 have e1:v.cell? ⟨cb,0,none⟩=some (I j):=(hm.cells hK).1
 have HM:Hid (Mem z S K v):=⟨hm⟩
 clear hm
 unfold wWoke ops432 L43 T43 Try.f45 seq2 seq1 blockC loopC opsOf wVal at hk
 simp only [Option.getD_some] at hk
 unfold wSeen ops431 L43 T43 Try.f45 seq2 seq1 blockC loopC opsOf
 simp only [Option.getD_some]
 walk_nrm
 (refine goesI_oper rfl rfl (by decide) (fun d K hK=>?_)
  go_simp
  refine hK _ _ ⟨dt_reads (fun e he=>?_),GoesI.at ?_ d⟩
  ·have hm:=mem_listed he
   simp [go_sem, *] at hm
  clear hK K)
 refine goesI_regionEnd (dt_idle _ _) ?_
 refine goesI_cond (dt_idle _ _) (t:=true) (by simp [Act.eval,hx]) ?_
 simp only [if_true,if_false,Bool.false_eq_true]
 refine goesI_skip (dt_idle _ _) ?_
 refine goesI_block (dt_idle _ _) ?_
 refine goesI_seq (dt_idle _ _) ?_
 refine goesI_region (dt_idle _ _) ?_
 simp only [List.size_toArray,List.length_cons,List.length_nil,Nat.reduceAdd,Nat.zero_add,List.range,List.range.loop]
 iterate 5
  (refine goesI_oper rfl rfl (by decide) (fun d K hK=>?_)
   go_simp
   refine hK _ _ ⟨dt_reads (fun e he=>?_),GoesI.at ?_ d⟩
   ·have hm:=mem_listed he
    simp [go_sem, *] at hm
    try exact ⟨_,_,hm⟩
   clear hK K)
 refine goesI_call (f:=29) (fn:=Try.f29) (args:=#[Pt cb 0]) hE fineG rfl rfl (by decide) rfl (by simp [Act.eval]) Try.func29 (by kernel_rfl) rfl (fineFn_body fineG (by simp [LG,plainG]) Try.func29 rfl) (fun tmps=>⟨_,fun w=>results_tmp rfl _ _ _,fun w=>by simp [results,go_sem]⟩) hvw hn
  (R:=fun r v4=>r=I j∧v4.heap=v.heap∧v4.os=v.os∧v4.output=v.output) (fun τ=>?_) (fun r v4 w4 hR hvw4 hn4=>?_)
 ·have e2:(onTape v τ 0).cell? ⟨cb,0,none⟩=some (I j):=e1
  show Code.wp Try.prog (Try.f29.body.getD .skip) _ _ _
  unfold Try.f29
  simp only [Option.getD_some]
  go_wp2_with fail
  go_ret
  exact ⟨_,rfl,rfl,rfl,rfl,rfl⟩
 obtain ⟨rfl,h1,h2,h3⟩:=hR
 have hg:Grows v v4:=⟨by rw [h1];exact Nat.le_refl _,fun b _=>by rw [h1],h2,h3⟩
 walk_nrm
 refine goesI_into (f:=65) (fn:=Try.f65) (args:=#[Pt tb 0,I j]) (dt_idle _ _) rfl rfl (by decide) rfl (by simp [Act.eval]) Try.func65 (by decide) rfl ?_
 exact hk v4 w4 _ _ _ _ _ _ _ hvw4 hn4 (HM.out.grows hg) rfl (fun r=>rfl) _ rfl
theorem wait_again {z:Nat→Option Nat} {Ch:Nat→Prop} {Stop:Goroutine→World→Prop} {main:Bool} {w:World} {lb tb:Nat} (u:Nat→Value) (cs:List Frame)
 (hk:∀ u,GoesI Try.prog main (DT (ScZ z) Ch) Stop (G (wFr lb tb u) cs) w) :
 GoesI Try.prog main (DT (ScZ z) Ch) Stop (G (wWoke lb tb u (.bool true)) cs) w:=by
 unfold wFr L43 T43 Try.f45 seq2 seq1 blockC loopC at hk
 simp only [Option.getD_some] at hk
 unfold wWoke ops432 L43 T43 Try.f45 seq2 seq1 blockC loopC opsOf
 simp only [Option.getD_some]
 walk_nrm
 (refine goesI_oper rfl rfl (by decide) (fun d K hK=>?_)
  go_simp
  refine hK _ _ ⟨dt_reads (fun e he=>?_),GoesI.at ?_ d⟩
  ·have hm:=mem_listed he
   simp [go_sem, *] at hm
  clear hK K)
 refine goesI_regionEnd (dt_idle _ _) ?_
 refine goesI_cond (dt_idle _ _) (t:=false) rfl ?_
 simp only [if_true,if_false,Bool.false_eq_true]
 refine goesI_skip (dt_idle _ _) ?_
 refine goesI_inBlock (dt_idle _ _) ?_
 refine goesI_inLoop (dt_idle _ _) ?_
 exact hk (fun m=>match m with|18=>.bool true|19=>.bool false|m=>u m)
noncomputable def no43:Code:=condA (seq2 (blockC (seq2 L43)))
theorem fineNo43:fineCode Try.prog true LT no43:=fineCode_ask callT extT (by kernel_rfl)
theorem wait_no {z:Nat→Option Nat} {Ch:Nat→Prop} {Stop:Goroutine→World→Prop} {main:Bool} {v w:World} {lb tb:Nat} (u:Nat→Value) (cs:List Frame) {bc:Frame} {ac:Act} {ops:Array Oper} {q:Nat} {rest:List Nat} {oc:Oper} {k:List Item} (hoc:ops[q]? = some oc)
 (hvw:Rel z v w) (hn:NoRow Ch v)
 (hk:∀ v' w',Rel z v' w'→NoRow Ch v'→v'.heap=v.heap→v'.os=v.os→v'.output=v.output→GoesI Try.prog main (DT (ScZ z) Ch) Stop (G (bc.at (ac.put oc.dst (.bool false)) (.inRegion ops rest :: k)) cs) w') :
 GoesI Try.prog main (DT (ScZ z) Ch) Stop (G (wWoke lb tb u (.bool false)) (bc.at ac (.inRegion ops (q :: rest) :: k) :: cs)) w:=by
 unfold wWoke ops432 L43 T43 Try.f45 seq2 seq1 blockC loopC opsOf
 simp only [Option.getD_some]
 walk_nrm
 (refine goesI_oper rfl rfl (by decide) (fun d K hK=>?_)
  go_simp
  refine hK _ _ ⟨dt_reads (fun e he=>?_),GoesI.at ?_ d⟩
  ·have hm:=mem_listed he
   simp [go_sem, *] at hm
  clear hK K)
 refine goesI_regionEnd (dt_idle _ _) ?_
 refine goesI_cond (dt_idle _ _) (t:=true) rfl ?_
 simp only [if_true,if_false,Bool.false_eq_true]
 refine goesI_outZ (c:=no43) (f:=45) (fn:=Try.f45) (L:=LT) hE fineT hvw hn Try.func45 fineNo43 rfl hoc (R:=fun r w'=>r=.bool false∧w'.heap=v.heap∧w'.os=v.os∧w'.output=v.output) (fun τ=>?_) (fun r v' w' hR hr' hn'=>?_)
 ·show Code.wp Try.prog (condA (seq2 (blockC (seq2 (loopC (blockC (seq1 (seq2 (Try.f45.body.getD .skip))))))))) _ _ _
  unfold Try.f45 condA seq2 seq1 blockC loopC
  simp only [Option.getD_some]
  go_wp2_with fail
  exact ⟨_,results_tmp rfl _ _ _,rfl,rfl,rfl,rfl⟩
 ·obtain ⟨rfl,h1,h2,h3⟩:=hR
  exact hk v' w' hr' hn' h1 h2 h3
noncomputable def L44:Code:=loopC (blockC (seq2 (Try.f46.body.getD .skip)))
noncomputable def B44:Code:=blockC L44
noncomputable def ops441:Array Oper:=opsOf (seq1 B44)
noncomputable def ops444:Array Oper:=opsOf (seq1 (seq2 (seq2 B44)))
noncomputable def dFr (lb tb:Nat) (u:Nat→Value):Frame :=
 (base 46).at ⟨#[Pt lb 0,Pt tb 0,undef,undef,I 0,u 5,u 6,u 7,u 8,u 9,u 10,u 11,u 12,u 13,u 14,u 15,u 16,u 17,u 18,u 19,u 20,u 21,u 22],[]⟩ [.code L44,.inLoop L44,.inBlock 0]
noncomputable def dSeen (lb cb tb:Nat) (u:Nat→Value) (r:Value):Frame :=
 (base 46).at ((⟨#[Pt lb 0,Pt tb 0,undef,undef,I 0,u 5,Pt lb 0,Pt lb 0,Pt lb 0,Pt cb 0,Pt tb 0,u 11,u 12,u 13,u 14,u 15,u 16,u 17,u 18,u 19,u 20,u 21,u 22],[]⟩:Act).put (some 11) r) [.inRegion ops441 [6],.code (seq2 B44),.inBlock 1,.inLoop L44,.inBlock 0]
noncomputable def dTried (lb tb:Nat) (u:Nat→Value) (r:Value):Frame :=
 (base 46).at ((⟨#[Pt lb 0,Pt tb 0,undef,undef,I 0,u 5,u 6,u 7,u 8,u 9,u 10,u 11,u 12,u 13,u 14,u 15,u 16,u 17,u 18,u 19,u 20,u 21,u 22],[]⟩:Act).put (some 22) r) [.inRegion ops444 [],.code (seq2 (seq2 (seq2 B44))),.inBlock 1,.inLoop L44,.inBlock 0]
theorem down_loop {z:Nat→Option Nat} {Ch:Nat→Prop} {Stop:Goroutine→World→Prop} {h:Nat} {cont:Addr→Value} {S:TS} {K:List (Nat×Int)} {v w:World} {i j cb lb:Nat} {t:Thr} (x:Int) (u:Nat→Value) (cs:List Frame) (Hm:Goroutine→Prop)
 (hH:∀ g,OpBack (h==0) i j cb t.tb 1 effLoad (fun r=>G (dSeen lb cb t.tb u r) cs) g→Hm g) (hlb:v.cell? ⟨lb,0,none⟩=some (Pt cb 0))
 (hvw:Rel z v w) (hn:NoRow Ch v) (hm:Mem z S K v) (ht:S.thr[i]? = some t) (hK:K[j]? = some (cb,x)) (hz:z t.tb=some 2) (hcont:cont ⟨t.tb,2,none⟩=.chan (some t.gc))
 (hstop:∀ g w',GiveT z cont h S.bk t.gc Hm (Then z Ch S K v (waiting S i t 1 1 j) K) g w'→Stop g w') :
 GoesI Try.prog (h==0) (DT (ScZ z) Ch) Stop (G (dFr lb t.tb u) cs) w:=by
 have e0:w.cell? ⟨lb,0,none⟩=some (Pt cb 0):=by rw [hvw.cell?];exact hlb
 have HM:Hid (Mem z S K v):=⟨hm⟩
 clear hm
 unfold dFr L44 Try.f46 seq2 blockC loopC
 simp only [Option.getD_some]
 refine goesI_block (dt_idle _ _) ?_
 refine goesI_seq (dt_idle _ _) ?_
 refine goesI_region (dt_idle _ _) ?_
 simp only [List.size_toArray,List.length_cons,List.length_nil,Nat.reduceAdd,Nat.zero_add,List.range,List.range.loop]
 iterate 5
  (refine goesI_oper rfl rfl (by decide) (fun d K hK=>?_)
   go_simp
   refine hK _ _ ⟨dt_reads (fun e he=>?_),GoesI.at ?_ d⟩
   ·have hm:=mem_listed he
    simp [go_sem, *] at hm
    try exact ⟨_,_,hm⟩
   clear hK K)
 refine goesI_into (f:=28) (fn:=Try.f28) (args:=#[Pt cb 0,Pt t.tb 0]) (dt_idle _ _) rfl rfl (by decide) rfl (by simp [Act.eval]) Try.func28 (by decide) rfl ?_
 exact load_goes x _ Hm rfl (fun g hg=>hH g hg) hvw hn HM.out ht hK hz hcont hstop _ rfl
theorem down_in {z:Nat→Option Nat} {Ch:Nat→Prop} {Stop:Goroutine→World→Prop} {main:Bool} {w:World} {lb tb:Nat} (cs:List Frame)
 (hk:∀ u,GoesI Try.prog main (DT (ScZ z) Ch) Stop (G (dFr lb tb u) cs) w) (code:Code) (hc:Try.f46.body=some code) :
 GoesI Try.prog main (DT (ScZ z) Ch) Stop (G ((base 46).at { tmps:=#[Pt lb 0,Pt tb 0]++Array.replicate 21 undef,defers:=[] } [.code code]) cs) w:=by
 obtain rfl:=Option.some.inj hc
 clear hc
 simp only [Array.replicate_succ,Array.replicate_zero,List.push_toArray,List.append_toArray,List.nil_append,List.cons_append]
 refine goesI_seq (dt_idle _ _) ?_
 refine goesI_region (dt_idle _ _) ?_
 simp only [List.size_toArray,List.length_cons,List.length_nil,Nat.reduceAdd,Nat.zero_add,List.range,List.range.loop]
 (refine goesI_oper rfl rfl (by decide) (fun d K hK=>?_)
  go_simp
  refine hK _ _ ⟨dt_reads (fun e he=>?_),GoesI.at ?_ d⟩
  ·have hm:=mem_listed he
   simp [go_sem, *] at hm
  clear hK K)
 refine goesI_regionEnd (dt_idle _ _) ?_
 refine goesI_block (dt_idle _ _) ?_
 refine goesI_loop (dt_idle _ _) ?_
 exact hk (fun _=>undef)
noncomputable def low44:Code:=condA (seq2 (seq1 (seq2 B44)))
theorem fineLow44:fineCode Try.prog true LT low44:=fineCode_ask callT extT (by kernel_rfl)
theorem down_low {z:Nat→Option Nat} {Ch:Nat→Prop} {Stop:Goroutine→World→Prop} {main:Bool} {v w:World} {lb cb tb:Nat} (u:Nat→Value) (cs:List Frame) {bc:Frame} {ac:Act} {ops:Array Oper} {q:Nat} {rest:List Nat} {oc:Oper} {k:List Item} (hoc:ops[q]? = some oc)
 (hvw:Rel z v w) (hn:NoRow Ch v)
 (hk:∀ v' w',Rel z v' w'→NoRow Ch v'→v'.heap=v.heap→v'.os=v.os→v'.output=v.output→GoesI Try.prog main (DT (ScZ z) Ch) Stop (G (bc.at (ac.put oc.dst (I 50)) (.inRegion ops rest :: k)) cs) w') :
 GoesI Try.prog main (DT (ScZ z) Ch) Stop (G (dSeen lb cb tb u (I 0)) (bc.at ac (.inRegion ops (q :: rest) :: k) :: cs)) w:=by
 unfold dSeen ops441 B44 L44 Try.f46 seq2 seq1 blockC loopC opsOf
 simp only [Option.getD_some]
 walk_nrm
 (refine goesI_oper rfl rfl (by decide) (fun d K hK=>?_)
  go_simp
  refine hK _ _ ⟨dt_reads (fun e he=>?_),GoesI.at ?_ d⟩
  ·have hm:=mem_listed he
   simp [go_sem, *] at hm
  clear hK K)
 refine goesI_regionEnd (dt_idle _ _) ?_
 refine goesI_seq (dt_idle _ _) ?_
 refine goesI_seq (dt_idle _ _) ?_
 refine goesI_region (dt_idle _ _) ?_
 simp only [List.size_toArray,List.length_cons,List.length_nil,Nat.reduceAdd,Nat.zero_add,List.range,List.range.loop]
 iterate 2
  (refine goesI_oper rfl rfl (by decide) (fun d K hK=>?_)
   go_simp
   refine hK _ _ ⟨dt_reads (fun e he=>?_),GoesI.at ?_ d⟩
   ·have hm:=mem_listed he
    simp [go_sem, *] at hm
   clear hK K)
 refine goesI_regionEnd (dt_idle _ _) ?_
 refine goesI_cond (dt_idle _ _) (t:=true) (by simp [Act.eval]) ?_
 simp only [if_true,if_false,Bool.false_eq_true]
 refine goesI_outZ (c:=low44) (f:=46) (fn:=Try.f46) (L:=LT) hE fineT hvw hn Try.func46 fineLow44 rfl hoc (R:=fun r w'=>r=I 50∧w'.heap=v.heap∧w'.os=v.os∧w'.output=v.output) (fun τ=>?_) (fun r v' w' hR hr' hn'=>?_)
 ·show Code.wp Try.prog (condA (seq2 (seq1 (seq2 (blockC (loopC (blockC (seq2 (Try.f46.body.getD .skip))))))))) _ _ _
  unfold Try.f46 condA seq2 seq1 blockC loopC
  simp only [Option.getD_some]
  go_wp2_with fail
  exact ⟨_,results_tmp rfl _ _ _,rfl,rfl,rfl,rfl⟩
 ·obtain ⟨rfl,h1,h2,h3⟩:=hR
  exact hk v' w' hr' hn' h1 h2 h3
def dVal (lb cb tb:Nat) (x:Int) (u:Nat→Value):Nat→Value
 |5=>I x
 |6=>Pt lb 0
 |7=>Pt lb 0
 |8=>Pt lb 0
 |9=>Pt cb 0
 |10=>Pt tb 0
 |11=>I x
 |12=>I x
 |13=>.bool (x==0)
 |14=>Pt lb 0
 |15=>Pt lb 0
 |16=>Pt lb 0
 |17=>Pt cb 0
 |18=>Pt tb 0
 |19=>I x
 |20=>I x
 |21=>I (wrap64 (x - 1))
 |k=>u k
theorem down_try {z:Nat→Option Nat} {Ch:Nat→Prop} {Stop:Goroutine→World→Prop} {h:Nat} {cont:Addr→Value} {S:TS} {K:List (Nat×Int)} {v w:World} {i j cb lb:Nat} {t:Thr} (x:Int) (hx:x≠0) (y:Int) (u:Nat→Value) (cs:List Frame) (Hm:Goroutine→Prop)
 (hH:∀ g,OpBack (h==0) i j cb t.tb 4 (effCas x (wrap64 (x - 1))) (fun r=>G (dTried lb t.tb (dVal lb cb t.tb x u) r) cs) g→Hm g) (hlb:v.cell? ⟨lb,0,none⟩=some (Pt cb 0))
 (hvw:Rel z v w) (hn:NoRow Ch v) (hm:Mem z S K v) (ht:S.thr[i]? = some t) (hK:K[j]? = some (cb,y)) (hz:z t.tb=some 2) (hcont:cont ⟨t.tb,2,none⟩=.chan (some t.gc))
 (hstop:∀ g w',GiveT z cont h S.bk t.gc Hm (Then z Ch S K v (waiting S i t 1 4 j) K) g w'→Stop g w') :
 GoesI Try.prog (h==0) (DT (ScZ z) Ch) Stop (G (dSeen lb cb t.tb u (I x)) cs) w:=by
 have e0:w.cell? ⟨lb,0,none⟩=some (Pt cb 0):=by rw [hvw.cell?];exact hlb
 have HM:Hid (Mem z S K v):=⟨hm⟩
 clear hm
 unfold dSeen ops441 B44 L44 Try.f46 seq2 seq1 blockC loopC opsOf
 simp only [Option.getD_some]
 walk_nrm
 (refine goesI_oper rfl rfl (by decide) (fun d K hK=>?_)
  go_simp
  refine hK _ _ ⟨dt_reads (fun e he=>?_),GoesI.at ?_ d⟩
  ·have hm:=mem_listed he
   simp [go_sem, *] at hm
  clear hK K)
 refine goesI_regionEnd (dt_idle _ _) ?_
 refine goesI_seq (dt_idle _ _) ?_
 refine goesI_seq (dt_idle _ _) ?_
 refine goesI_region (dt_idle _ _) ?_
 simp only [List.size_toArray,List.length_cons,List.length_nil,Nat.reduceAdd,Nat.zero_add,List.range,List.range.loop]
 iterate 2
  (refine goesI_oper rfl rfl (by decide) (fun d K hK=>?_)
   go_simp
   refine hK _ _ ⟨dt_reads (fun e he=>?_),GoesI.at ?_ d⟩
   ·have hm:=mem_listed he
    simp [go_sem, *] at hm
   clear hK K)
 refine goesI_regionEnd (dt_idle _ _) ?_
 refine goesI_cond (dt_idle _ _) (t:=false) (by simp [Act.eval,hx]) ?_
 simp only [if_true,if_false,Bool.false_eq_true]
 refine goesI_skip (dt_idle _ _) ?_
 refine goesI_seq (dt_idle _ _) ?_
 refine goesI_region (dt_idle _ _) ?_
 simp only [List.size_toArray,List.length_cons,List.length_nil,Nat.reduceAdd,Nat.zero_add,List.range,List.range.loop]
 iterate 8
  (refine goesI_oper rfl rfl (by decide) (fun d K hK=>?_)
   go_simp
   refine hK _ _ ⟨dt_reads (fun e he=>?_),GoesI.at ?_ d⟩
   ·have hm:=mem_listed he
    simp [go_sem, *] at hm
    try exact ⟨_,_,hm⟩
   clear hK K)
 rw [show IntKind.wrap .i64 (x - 1)=wrap64 (x - 1) from Go.IntWalk.i64_left _]
 refine goesI_into (f:=25) (fn:=Try.f25) (args:=#[Pt cb 0,Pt t.tb 0,I x,I (wrap64 (x - 1))]) (dt_idle _ _) rfl rfl (by decide) rfl (by simp [Act.eval]) Try.func25 (by decide) rfl ?_
 exact cas_goes x (wrap64 (x - 1)) y _ Hm rfl (fun g hg=>hH g hg) hvw hn HM.out ht hK hz hcont hstop _ rfl
noncomputable def won44:Code:=condA (seq2 (seq2 (seq2 B44)))
theorem fineWon44:fineCode Try.prog true LT won44:=fineCode_ask callT extT (by kernel_rfl)
theorem down_won {z:Nat→Option Nat} {Ch:Nat→Prop} {Stop:Goroutine→World→Prop} {main:Bool} {v w:World} {lb tb:Nat} (u:Nat→Value) (cs:List Frame) {bc:Frame} {ac:Act} {ops:Array Oper} {q:Nat} {rest:List Nat} {oc:Oper} {k:List Item} (hoc:ops[q]? = some oc)
 (hvw:Rel z v w) (hn:NoRow Ch v)
 (hk:∀ v' w',Rel z v' w'→NoRow Ch v'→v'.heap=v.heap→v'.os=v.os→v'.output=v.output→GoesI Try.prog main (DT (ScZ z) Ch) Stop (G (bc.at (ac.put oc.dst (I 0)) (.inRegion ops rest :: k)) cs) w') :
 GoesI Try.prog main (DT (ScZ z) Ch) Stop (G (dTried lb tb u (.bool true)) (bc.at ac (.inRegion ops (q :: rest) :: k) :: cs)) w:=by
 unfold dTried ops444 B44 L44 Try.f46 seq2 seq1 blockC loopC opsOf
 simp only [Option.getD_some]
 walk_nrm
 refine goesI_regionEnd (dt_idle _ _) ?_
 refine goesI_cond (dt_idle _ _) (t:=true) rfl ?_
 simp only [if_true,if_false,Bool.false_eq_true]
 refine goesI_outZ (c:=won44) (f:=46) (fn:=Try.f46) (L:=LT) hE fineT hvw hn Try.func46 fineWon44 rfl hoc (R:=fun r w'=>r=I 0∧w'.heap=v.heap∧w'.os=v.os∧w'.output=v.output) (fun τ=>?_) (fun r v' w' hR hr' hn'=>?_)
 ·show Code.wp Try.prog (condA (seq2 (seq2 (seq2 (blockC (loopC (blockC (seq2 (Try.f46.body.getD .skip))))))))) _ _ _
  unfold Try.f46 condA seq2 blockC loopC
  simp only [Option.getD_some]
  go_wp2_with fail
  exact ⟨_,results_tmp rfl _ _ _,rfl,rfl,rfl,rfl⟩
 ·obtain ⟨rfl,h1,h2,h3⟩:=hR
  exact hk v' w' hr' hn' h1 h2 h3
theorem down_again {z:Nat→Option Nat} {Ch:Nat→Prop} {Stop:Goroutine→World→Prop} {main:Bool} {w:World} {lb tb:Nat} (u:Nat→Value) (cs:List Frame)
 (hk:∀ u,GoesI Try.prog main (DT (ScZ z) Ch) Stop (G (dFr lb tb u) cs) w) :
 GoesI Try.prog main (DT (ScZ z) Ch) Stop (G (dTried lb tb u (.bool false)) cs) w:=by
 unfold dFr L44 Try.f46 seq2 blockC loopC at hk
 simp only [Option.getD_some] at hk
 unfold dTried ops444 B44 L44 Try.f46 seq2 seq1 blockC loopC opsOf
 simp only [Option.getD_some]
 walk_nrm
 refine goesI_regionEnd (dt_idle _ _) ?_
 refine goesI_cond (dt_idle _ _) (t:=false) rfl ?_
 simp only [if_true,if_false,Bool.false_eq_true]
 refine goesI_skip (dt_idle _ _) ?_
 refine goesI_inBlock (dt_idle _ _) ?_
 refine goesI_inLoop (dt_idle _ _) ?_
 exact hk (fun m=>match m with|22=>.bool false|m=>u m)
end Go.Proofs.Ytfjjoohflcchnaa.Gen
