/- CounterLinear, part 2 of 24: Lift1, Lift2, Lift3, Lift4, Lift5. -/
import Derived.Test.YtfjjoohflcchnaaDoorCounterLinear01
import GoSem.Step
import Derived.Control
import Derived.Conc.Beside
import Derived.Conc.Own3
import Derived.Conc.CompanyDraw
set_option linter.unusedSimpArgs false
set_option linter.unusedVariables false
set_option maxHeartbeats 4000000
set_option maxRecDepth 100000
noncomputable section
namespace Go.Lift
open Go.Conc
variable {v v' w w':World} {a:Addr} {x:Value} {n r:Nat} {z:Nat->Option Nat} {α:Type} {u:TypeId} {l:List Addr} {b:Frame} {todo:List Item}
def zap:Option Nat->Obj->Obj
 |some _,.cells c e _=>.cells c e (0,0)
 |_,o=>o
structure Rel (z:Nat->Option Nat) (v w:World):Prop where
 heap:∀ r,w.heap[r]? = (v.heap[r]?).map (zap (z r))
 kept:∀ r n c e f,z r=some n->v.heap[r]? = some (.cells c e f)->f=(n,n+1)
 low:∀ r n,z r=some n->r<v.heap.size
 os:w.os=v.os
 output:w.output=v.output
abbrev zn:Nat->Option Nat:=λ_=>none
theorem zap_none (o:Obj):zap none o=o:=by cases o<;>rfl
theorem rel_none (h1:w.heap=v.heap) (h2:w.os=v.os) (h3:w.output=v.output):Rel zn v w :=
 ⟨λr=>by rw[h1];cases v.heap[r]?<;>simp[zap_none],λ_ _ _ _ _ h=>(nomatch h),λ_ _ h=>(nomatch h),h2,h3⟩
theorem Rel.eq (h:Rel zn v w):w.heap=v.heap:=by apply Array.ext_getElem?;intro r;rw[h.heap r];cases v.heap[r]?<;>simp[zap_none]
theorem Rel.refl (v:World):Rel zn v v:=rel_none rfl rfl rfl
section
variable {z:Nat->Option Nat}{v w:World}
theorem Rel.size (h:Rel z v w):w.heap.size=v.heap.size:=by
 have h1:∀ r,r<w.heap.size↔r<v.heap.size:=λr=>by
  have:=h.heap r;constructor
  .intro hr
   rw[Qm hr] at this;cases e:v.heap[r]? with
   |none=>rw[e] at this;cases this
   |some o=>exact (Qb e).1
  .intro hr
   rw[Qm hr] at this;exact (Qb this).1
 have:=h1 w.heap.size;have:=h1 v.heap.size;omega
theorem Rel.re (h:Rel z v w) (h1:v'.heap=v.heap) (h2:w'.heap=w.heap) (h3:v'.os=v.os) (h4:w'.os=w.os) (h5:v'.output=v.output) (h6:w'.output=w.output):Rel z v' w' :=
 ⟨λr=>by rw[h1,h2];exact h.heap r,λr n c e f=>by rw[h1];exact h.kept r n c e f,λr n=>by rw[h1];exact h.low r n,by rw[h3,h4];exact h.os,by rw[h5,h6];exact h.output⟩
theorem Rel.cell? (h:Rel z v w) (a:Addr):w.cell? a=v.cell? a:=by
 unfold World.cell?;rw[h.heap];cases v.heap[a.block]? with
 |none=>rfl
 |some o=>cases z a.block<;>cases o<;>rfl
theorem Rel.shape? (h:Rel z v w) (r:Nat):w.shape? r=v.shape? r:=by
 unfold World.shape?;rw[h.heap];cases v.heap[r]? with
 |none=>rfl
 |some o=>cases z r<;>cases o<;>rfl
theorem Rel.thawed (h:Rel z v w) (hf:v.frozen? a=false):w.frozen? a=false:=by
 unfold World.frozen? at hf ⊢;rw[h.heap];cases e:v.heap[a.block]? with
 |none=>rfl
 |some o =>
  rw[e] at hf;cases z a.block with
  |none=>simpa [zap_none] using hf
  |some n=>cases o<;>simp[zap]
theorem Rel.spared (h:Rel z v w) (hc:v.cell? a=some x) (hf:v.frozen? a=false):z a.block≠some a.off:=by
 intro hz;unfold World.cell? at hc;unfold World.frozen? at hf;split at hc
 .rename_i c e f hh
  have:=h.kept _ _ _ _ _ hz hh;subst this;rw[hh] at hf;simp at hf
 cases hc
theorem Rel.obj (h:Rel z v w) (r:Nat):w.heap[r]? = v.heap[r]?∨∃ c e f,v.heap[r]? = some (.cells c e f)∧w.heap[r]? = some (.cells c e (0,0)):=by
 rw[h.heap r];cases e:v.heap[r]? with
 |none=>exact .inl rfl
 |some o =>
  cases z r with
  |none=>left;simp[zap_none]
  |some n=>cases o<;>first|exact .inl rfl|exact .inr ⟨_,_,_,rfl,rfl⟩
theorem Rel.setRow (h:Rel z v w) {c c':Array Value}{e:TypeId}{f f':Nat×Nat}(hv:v.heap[r]? = some (.cells c e f)) (hw:w.heap[r]? = some (.cells c e f')):
 Rel z { v with heap:=v.heap.setIfInBounds r (.cells c' e f) } { w with heap:=w.heap.setIfInBounds r (.cells c' e f') }:=by
 have hlt:=(Qb hv).1;refine ⟨λr'=>?_,λr' n c2 e2 f2 hz hh=>?_,λr' n hz=>by simpa using h.low r' n hz,h.os,h.output⟩
 .by_cases er:r=r'
  .subst er
   simp only[Array.getElem?_setIfInBounds,h.size,hlt,if_true];have:=h.heap r;rw[hv,hw] at this;cases hz:z r with
   |none=>rw[hz] at this;simp only[Option.map_some,zap,Option.some.injEq,Obj.cells.injEq] at this ⊢;exact ⟨trivial,trivial,this.2.2⟩
   |some n=>rw[hz] at this;simp only[Option.map_some,zap,Option.some.injEq,Obj.cells.injEq] at this ⊢;exact ⟨trivial,trivial,this.2.2⟩
  .simp only[Array.getElem?_setIfInBounds_ne er]
   exact h.heap r'
 .by_cases er:r=r'
  .subst er
   simp only[Array.getElem?_setIfInBounds,hlt,if_true,Option.some.injEq,Obj.cells.injEq] at hh;obtain ⟨_,_,rfl⟩:=hh;exact h.kept r n _ _ _ hz hv
  .simp only[Array.getElem?_setIfInBounds_ne er] at hh
   exact h.kept r' n _ _ _ hz hh
theorem Rel.setCell (h:Rel z v w) (a:Addr) (x:Value):Rel z (v.setCell a x) (w.setCell a x):=by
 refine ⟨λr=>?_,λr n c e f hz hh=>?_,λr n hz=>by simpa [World.setCell] using h.low r n hz,h.os,h.output⟩
 .simp only[World.setCell,Array.getElem?_modify,h.heap r]
  split
  .cases v.heap[r]? with
   |none=>rfl
   |some o=>cases z r<;>cases o<;>rfl
  rfl
 .simp only[World.setCell,Array.getElem?_modify] at hh
  split at hh
  .cases e0:v.heap[r]? with
   |none=>rw[e0] at hh;cases hh
   |some o =>rw[e0] at hh;cases o<;>simp only[Option.map_some,Option.some.injEq,Obj.cells.injEq,reduceCtorEq] at hh;obtain ⟨_,_,rfl⟩:=hh;exact h.kept r n _ _ _ hz e0
  exact h.kept r n _ _ _ hz hh
theorem Rel.push (h:Rel z v w) (o:Obj):Rel z { v with heap:=v.heap.push o } { w with heap:=w.heap.push o }:=by
 refine ⟨λr=>?_,λr n c e f hz hh=>?_,λr n hz=>by have:=h.low r n hz;simp;omega,h.os,h.output⟩
 .simp only[Qg,h.size]
  split
  .rename_i er
   have:z r=none:=by
    cases hz:z r with
    |none=>rfl
    |some n=>have:=h.low r n hz;omega
   rw[this];simp[zap_none]
  exact h.heap r
 .have hlt:=h.low r n hz
  simp only[Qg] at hh;rw[if_neg (by omega)] at hh;exact h.kept r n _ _ _ hz hh
end
structure Keeps (wr:Bool) (v v':World):Prop where
 size:v.heap.size<=v'.heap.size
 old:wr=false->∀ (r:Nat) (o:Obj),v.heap[r]? = some o->v'.heap[r]? = some o
 objs:∀ (r:Nat) (o:Obj),v.heap[r]? = some o->(∀ c e f,o≠.cells c e f)->v'.heap[r]? = some o
 os:v'.os=v.os
 output:v'.output=v.output
theorem Keeps.refl (wr:Bool) (v:World):Keeps wr v v:=⟨Qi _,λ_ _ _ h=>h,λ_ _ h _=>h,rfl,rfl⟩
theorem Keeps.trans {wr:Bool}{a b c:World}(h:Keeps wr a b) (k:Keeps wr b c):Keeps wr a c :=
 ⟨Qk h.size k.size,λe r o ho=>k.old e r o (h.old e r o ho),λr o ho hc=>k.objs r o (h.objs r o ho hc) hc,k.os.trans h.os,k.output.trans h.output⟩
theorem Keeps.of_rel {wr:Bool}(h:v'.heap=v.heap∧v'.os=v.os∧v'.output=v.output):Keeps wr v v':=⟨by rw[h.1];exact Qi _,λ_ r o ho=>by rw[h.1];exact ho,λr o ho _=>by rw[h.1];exact ho,h.2.1,h.2.2⟩
def Okay (wr:Bool) (e:Event):Prop :=
 (∃ a,e.loc=.cell a∧(wr=false->e.write=false))∨(∃ r,e.loc=.obj r∧e.write=false)∨e.loc=.mark .noRoom∨∃ f,e.loc=.mark (.extern f)
def Soft (h:Halt):Prop:=(∃ x,h=.panic x)∨(∃ s,h=.stuck s)∨∃ u,h=.unsupported u
def dead (P:Program) {α:Type}:Sem α->Prop
 |.pure _=>False
 |.load _ _ k=>∀ v,dead P (k v)
 |.store _ _ _ k=>dead P k
 |.new _ k=>∀ r,dead P (k r)
 |.shape _ k=>∀ s,dead P (k s)
 |.freeze _ _ k=>dead P k
 |.frozen _ k=>∀ b,dead P (k b)
 |.getObj _ k=>∀ o,dead P (k o)
 |.setObj _ _ k=>dead P k
 |.choose _ k=>∀ n,dead P (k n)
 |.sys _ _=>False
 |.program k=>dead P (k P)
 |.mark _ k=>dead P k
 |.halt _=>True
def Spares (z:Nat->Option Nat) (w':World) (e:Event):Prop:=e.loc.low w'.heap.size∧∀ a,e.loc=.cell a->e.write=true->z a.block≠some a.off
theorem spares_read {e:Event}(h:e.write=false) (hl:e.loc.low w'.heap.size):Spares z w' e:=⟨hl,λ_ _ hw=>by rw[h] at hw;cases hw⟩
def calm (P:Program) (wr:Bool) {α:Type}:Sem α->Prop
 |.pure _=>True
 |.load _ _ k=>∀ v,calm P wr (k v)
 |.store _ _ _ k=>wr=true∧calm P wr k
 |.new _ k=>∀ r,calm P wr (k r)
 |.shape _ k=>∀ s,calm P wr (k s)
 |.freeze _ _ _=>False
 |.frozen _ k=>(∀ b,calm P wr (k b))∧dead P (k true)
 |.getObj _ k=>∀ o,calm P wr (k o)
 |.setObj _ _ _=>False
 |.choose _ k=>∀ n,calm P wr (k n)
 |.sys _ _=>False
 |.program k=>calm P wr (k P)
 |.mark m k=>(m=.noRoom∨∃ f,m=.extern f)∧calm P wr k
 |.halt h=>Soft h
def Same (v v' w:World):Prop:=∀ i,v.drawn+i<v'.drawn->v.tape (v.drawn+i)=w.tape (w.drawn+i)
structure Out (z:Nat->Option Nat) (wr:Bool) (v v' w w':World):Prop where
 rel:Rel z v' w'
 tape:v'.tape=v.tape
 tape':w'.tape=w.tape
 le:v.drawn<=v'.drawn
 drawn:w'.drawn=w.drawn+(v'.drawn - v.drawn)
 keeps:Keeps wr v v'
 still:∀ r n,z r=some n->v'.cell? ⟨r,n,none⟩=v.cell? ⟨r,n,none⟩
theorem Out.after {wr:Bool}{v₁ w₁:World}(h:Out z wr v₁ v' w₁ w') (hst:∀ r n,z r=some n->v₁.cell? ⟨r,n,none⟩=v.cell? ⟨r,n,none⟩) (hk:Keeps wr v v₁) (ht:v₁.tape=v.tape) (ht':w₁.tape=w.tape) (hl:v.drawn<=v₁.drawn) (hd:w₁.drawn=w.drawn+(v₁.drawn - v.drawn)):Out z wr v v' w w' :=
 ⟨h.rel,h.tape.trans ht,h.tape'.trans ht',Qk hl h.le,by have:=h.drawn;have:=h.le;omega,hk.trans h.keeps,λr n hz=>(h.still r n hz).trans (hst r n hz)⟩
theorem Out.refl {wr:Bool}(hr:Rel z v w):Out z wr v v w w:=⟨hr,rfl,rfl,Qi _,by omega,Keeps.refl _ _,λ_ _ _=>rfl⟩
theorem runT_fst {P:Program}:∀ (s:Sem α) (w:World) (es:Array Event),(s.runT P w es).1=s.run P w:=by
 intro s;induction s with
 |pure a=>intros;rfl
 |load m a k ih =>
  intro w es;simp only[Sem.runT,Sem.run];cases w.cell? a with
  |some v=>exact ih v w _
  |none=>cases w.farLoad P a (m==.atomic) with
   |ok r=>exact ih r.1 w _
   |error h=>rfl
 |store m a v k ih =>
  intro w es;cases v<;>first|rfl|skip
  all_goals
   simp only[Sem.runT,Sem.run];cases w.cell? a with
   |some v =>simp only[];split;rfl;exact ih _ _
   |none =>simp only[];split;exact ih _ _;rfl
 |new o k ih=>intro w es;exact ih _ _ _
 |shape r k ih=>intro w es;exact ih _ _ _
 |freeze a n k ih=>intro w es;exact ih _ _
 |frozen a k ih=>intro w es;exact ih _ _ _
 |getObj r k ih =>intro w es;simp only[Sem.runT,Sem.run];split<;>first|rfl|exact ih _ _ _
 |setObj r o k ih =>intro w es;simp only[Sem.runT,Sem.run];split<;>first|rfl|exact ih _ _
 |choose q k ih =>intro w es;simp only[Sem.runT,Sem.run];split<;>exact ih _ _ _
 |sys c k ih=>intro w es;exact ih _ _ _
 |program k ih=>intro w es;exact ih _ _ _
 |mark m k ih=>intro w es;exact ih _ _
 |halt h=>intros;rfl
theorem seen_rel {P:Program}(h:Rel z v w) (at_:Addr) (u:TypeId) (k:Addr) (b:Bool):
 w.seen P at_ u k b=(v.seen P at_ u k b).map λq=>(q.1,q.2.1,(if (z at_.block).isSome then (0,0) else q.2.2.1),q.2.2.2):=by
 unfold World.seen;simp only[bind,Except.bind,pure,Except.pure,throw,throwThe,MonadExceptOf.throw];split;rfl
 .cases plainCell P P.depth u k.off with
  |none=>rfl
  |some like =>
   simp only;cases like.bytes?.map (·.length) with
   |none=>rfl
   |some size =>
    simp only;cases byteOfCell P P.depth u k.off with
    |none=>rfl
    |some β =>
     simp only;rw[h.heap];cases v.heap[at_.block]? with
     |none=>rfl
     |some o =>
      cases o with
      |cells c e f =>
       cases hz:z at_.block <;>
       .simp only[Option.map_some,zap,Option.isSome_none,Option.isSome_some,Qh,if_false,if_true]
        split;rfl
        .cases byteOfCell P P.depth e (at_.off % P.cellsOf e) with
         |none=>rfl
         |some b0 =>
          simp only;cases seenCells P c e (size+1) (at_.off / P.cellsOf e*P.bytesOf e+b0+β) (at_.off / P.cellsOf e*P.bytesOf e+b0+β+size) with
          |error e=>rfl
          |ok cells =>
           simp only;split
           .split
            .split<;>rfl
            rfl
           rfl
      |_=>cases z at_.block<;>rfl
theorem farLoad_rel {P:Program}(h:Rel z v w) (a:Addr) (b:Bool):w.farLoad P a b=v.farLoad P a b:=by
 have hv:∀ at_ u,w.viewLoad P at_ u a b=v.viewLoad P at_ u a b:=λat_ u=>by unfold World.viewLoad;rw[seen_rel h];cases v.seen P at_ u a b<;>rfl
 unfold World.farLoad World.noCell;simp only[hv];rw[h.heap];cases v.heap[a.block]? with
 |none=>rfl
 |some o=>cases z a.block<;>cases o<;>rfl
theorem fold_mono {γ:Type}{N:γ->Prop}{M:Nat->Prop}{F G:Array Value->γ->Except String (Array Value)}(hFG:∀ c x c1,F c x=.ok c1->(G c x=.ok c1∧N x)∧∀ n:Nat,M n->c1[n]? = c[n]?):∀ (l:List γ) (c c':Array Value),
 l.foldlM (m:=Except String) F c=.ok c'->(l.foldlM (m:=Except String) G c=.ok c'∧∀ x∈l,N x)∧∀ n:Nat,M n->c'[n]? = c[n]?
 | [],c,c',h=>⟨⟨h,λ_ hx=>by cases hx⟩,λn _=>by cases h;rfl⟩
 |x :: l,c,c',h=>by
  simp only[List.foldlM_cons,bind,Except.bind] at h ⊢;cases hg:F c x with
  |error e=>rw[hg] at h;cases h
  |ok c1 =>rw[hg] at h;obtain ⟨⟨j1,j2⟩,j3⟩:=hFG c x c1 hg;obtain ⟨⟨i1,i2⟩,i3⟩:=fold_mono hFG l c1 c' h;rw[j1];exact ⟨⟨i1,λy hy=>by rcases List.mem_cons.1 hy with rfl|hy;exact j2;exact i2 y hy⟩,λn hn=>(i3 n hn).trans (j3 n hn)⟩
theorem seen_heap {P:Program}{at_:Addr}{k:Addr}{b:Bool}{q:Array Value×TypeId×(Nat×Nat)×Nat×Value×List (Nat×Nat×List UInt8)}(h:v.seen P at_ u k b=.ok q):v.heap[at_.block]? = some (.cells q.1 q.2.1 q.2.2.1):=by
 unfold World.seen at h;simp only[bind,Except.bind,pure,Except.pure,throw,throwThe,MonadExceptOf.throw] at h;split at h;cases h
 .cases h1:plainCell P P.depth u k.off with
  |none=>rw[h1] at h;cases h
  |some like =>
   rw[h1] at h;simp only at h;cases h2:like.bytes?.map (·.length) with
   |none=>rw[h2] at h;cases h
   |some size =>
    rw[h2] at h;simp only at h;cases h3:byteOfCell P P.depth u k.off with
    |none=>rw[h3] at h;cases h
    |some β =>
     rw[h3] at h;simp only at h;cases h4:v.heap[at_.block]? with
     |none=>rw[h4] at h;cases h
     |some o =>
      rw[h4] at h;cases o with
      |cells c e f =>
       simp only at h;split at h;cases h
       .split at h
        .split at h
         cases h
         .split at h
          .split at h
           .split at h
            cases h;cases h;rfl
           cases h
          cases h;rfl
        cases h
      |_=>cases h
theorem viewStore_rel {P:Program}(h:Rel z v w) {at_:Addr}{k:Addr}{b:Bool}(hv:v.viewStore P at_ u k x b=.ok (v',l)):
 ∃ w',w.viewStore P at_ u k x b=.ok (w',l)∧Rel z v' w'∧v'.tape=v.tape∧v'.drawn=v.drawn∧w'.tape=w.tape∧w'.drawn=w.drawn∧v'.heap.size=v.heap.size∧v'.os=v.os∧v'.output=v.output∧(∀ a∈l,z a.block≠some a.off)∧(∀ r n,z r=some n->v'.cell? ⟨r,n,none⟩=v.cell? ⟨r,n,none⟩)∧∀ (r:Nat) (o:Obj),v.heap[r]? = some o->(∀ c e f,o≠.cells c e f)->v'.heap[r]? = some o:=by
 unfold World.viewStore at hv ⊢;rw[seen_rel h];simp only[bind,Except.bind,pure,Except.pure,throw,throwThe,MonadExceptOf.throw] at hv ⊢;split at hv;cases hv
 .rename_i ht
  rw[if_neg ht];cases hq:v.seen P at_ u k b with
  |error e=>rw[hq] at hv;cases hv
  |ok q =>
   rw[hq] at hv;have hh:=seen_heap hq;obtain ⟨c,e,f,first,like,cells⟩:=q;simp only[Except.map] at hv hh ⊢;cases hb:x.bytes? with
   |none=>rw[hb] at hv;cases hv
   |some bytes =>
    rw[hb] at hv;simp only at hv ⊢;split at hv;cases hv
    .rename_i hlen
     rw[if_neg hlen];split at hv;cases hv
     .rename_i c' hfold
      cases hv;have hw:w.heap[at_.block]? = some (.cells c e (if (z at_.block).isSome then (0,0) else f)):=by rw[h.heap,hh];cases z at_.block<;>rfl
      have st:∀ (F:Array Value->Nat×Nat×List UInt8->Except String (Array Value)),cells.foldlM (m:=Except String) F c=.ok c'->(∀ c x c1,F c x=.ok c1->¬ (f.1<=x.1∧x.1<f.2)∧∀ n:Nat,(f.1<=n∧n<f.2)->c1[n]? = c[n]?)->(∀ c x c1,F c x=.ok c1->¬ (f.1<=x.1∧x.1<f.2)∧∀ n:Nat,(f.1<=n∧n<f.2)->c1[n]? = c[n]?)∧(∀ x∈cells,¬ (f.1<=x.1∧x.1<f.2))∧∀ n:Nat,(f.1<=n∧n<f.2)->c'[n]? = c[n]?:=λF hf hF=>by have:=fold_mono (N:=λx:Nat×Nat×List UInt8=>¬ (f.1<=x.1∧x.1<f.2)) (M:=λn=>f.1<=n∧n<f.2) (F:=F) (G:=F) (λc x c1 h=>⟨⟨h,(hF c x c1 h).1⟩,(hF c x c1 h).2⟩) cells c c' hf;exact ⟨hF,this.1.2,this.2⟩
      obtain ⟨stp,k2,k3⟩:=st _ hfold (λc x c1 hF=>by
       obtain ⟨i,s,bs⟩:=x;simp only at hF;split at hF;cases hF
       .split at hF
        cases hF
        .rename_i g2
         have g3:¬ (f.1<=i∧i<f.2):=by simpa using g2
         refine ⟨g3,λn hn=>?_⟩;split at hF
         .split at hF
          .cases hF
           exact Array.getElem?_setIfInBounds_ne (λe=>g3 (by rw[e];exact hn))
          cases hF
         cases hF)
      rw[(fold_mono (N:=λx:Nat×Nat×List UInt8=>¬ (f.1<=x.1∧x.1<f.2)) (M:=λn=>f.1<=n∧n<f.2) (λc x c1 hF=>?_) cells c c' hfold).1.1]
      rotate_left
      .have hx:¬ (f.1<=x.1∧x.1<f.2)∧∀ n:Nat,(f.1<=n∧n<f.2)->c1[n]? = c[n]?:=stp c x c1 hF
       refine ⟨⟨?_,hx.1⟩,hx.2⟩;rw[<-hF];obtain ⟨i,s,bs⟩:=x;have g3:¬ (f.1<=i∧i<f.2):=hx.1;have g4:(decide (f.1<=i)&&decide (i<f.2))=false:=by simpa using g3
       have g5:(decide ((if (z at_.block).isSome then ((0,0):Nat×Nat) else f).1<=i)&&decide (i<(if (z at_.block).isSome then ((0,0):Nat×Nat) else f).2))=false:=by split;simp;exact g4
       simp only[g4,g5]
      refine ⟨_,rfl,h.setRow hh hw,rfl,rfl,rfl,rfl,by simp,rfl,rfl,λa ha hz=>?_,λr n hz=>?_,λr o ho hc=>?_⟩
      .obtain ⟨y,hy,rfl⟩:=List.mem_map.1 ha
       simp only at hz;have:=h.kept _ _ _ _ _ hz hh;subst this;exact k2 y hy ⟨Qi _,Nat.lt_succ_self _⟩
      .unfold World.cell?
       by_cases er:at_.block=r
       .subst er
        have:=h.kept _ _ _ _ _ hz hh;subst this;simp only[Array.getElem?_setIfInBounds,(Qb hh).1,if_true,hh];exact k3 n ⟨Qi _,Nat.lt_succ_self _⟩
       simp only[Array.getElem?_setIfInBounds_ne er]
      .by_cases er:at_.block=r
       .subst er
        rw[hh] at ho;cases ho;exact absurd rfl (hc _ _ _)
       .simp only[Array.getElem?_setIfInBounds_ne er]
        exact ho
theorem farStore_rel {P:Program}(h:Rel z v w) {b:Bool}(hv:v.farStore P a x b=.ok (v',l)):
 ∃ w',w.farStore P a x b=.ok (w',l)∧Rel z v' w'∧v'.tape=v.tape∧v'.drawn=v.drawn∧w'.tape=w.tape∧w'.drawn=w.drawn∧v'.heap.size=v.heap.size∧v'.os=v.os∧v'.output=v.output∧(∀ a∈l,z a.block≠some a.off)∧(∀ r n,z r=some n->v'.cell? ⟨r,n,none⟩=v.cell? ⟨r,n,none⟩)∧∀ (r:Nat) (o:Obj),v.heap[r]? = some o->(∀ c e f,o≠.cells c e f)->v'.heap[r]? = some o:=by
 unfold World.farStore at hv ⊢;cases hh:v.heap[a.block]? with
 |none=>rw[hh] at hv;cases hv
 |some o =>
  rw[hh] at hv;cases o with
  |view at_ u =>
   simp only at hv;cases hs:v.viewStore P at_ u a x b with
   |error e=>rw[hs] at hv;cases hv
   |ok r =>
    rw[hs] at hv;cases hv;obtain ⟨w',k1,k2⟩:=viewStore_rel h hs;refine ⟨w',?_,k2⟩;have:w.heap[a.block]? = some (.view at_ u):=by rw[h.heap,hh];cases z a.block<;>rfl
    rw[this];simp only[k1]
  |_=>cases hv
theorem still_set (h:z a.block≠some a.off):∀ r n,z r=some n->(v.setCell a x).cell? ⟨r,n,none⟩=v.cell? ⟨r,n,none⟩:=by
 intro r n hz;unfold World.cell? World.setCell;by_cases e:a.block=r
 .subst e
  simp only[Array.getElem?_modify,if_true];cases v.heap[a.block]? with
  |none=>rfl
  |some o =>
   cases o with
   |cells c t f =>have hne:a.off≠n:=λen=>h (by rw[hz,en]);by_cases hs:a.spot.isSome=true<;>simp[hs,Array.getElem?_setIfInBounds_ne hne]
   |_=>rfl
 simp only[Array.getElem?_modify,e,if_false]
theorem objs_set (v:World) (a:Addr) (x:Value):∀ (r:Nat) (o:Obj),v.heap[r]? = some o->(∀ c e f,o≠.cells c e f)->(v.setCell a x).heap[r]? = some o:=by
 intro r o ho hc;simp only[World.setCell,Array.getElem?_modify];split
 .rw[ho]
  cases o<;>first|rfl|exact absurd rfl (hc _ _ _)
 exact ho
theorem push_old {h:Array Obj}{o o':Obj}(hr:h[r]? = some o):(h.push o')[r]? = some o:=by have:=(Qb hr).1;rw[Qg,if_neg (by omega)];exact hr
theorem cell_push {o:Obj}(hr:r<v.heap.size):({ v with heap:=v.heap.push o }:World).cell? ⟨r,n,none⟩=v.cell? ⟨r,n,none⟩:=by unfold World.cell?;simp only[Qg];rw[if_neg (by omega)]
theorem ends_not {P:Program}:∀ (s:Sem α),dead P s->∀ (v:World) (es:Array Event) (a:α) (v':World) (es':Array Event),s.runT P v es=(.ok a v',es')->False:=by
 intro s;induction s with
 |pure a=>intro h;exact h.elim
 |load m a k ih =>
  intro h v es x v' es' e;simp only[Sem.runT] at e;split at e;exact ih _ (h _) _ _ _ _ _ e
  .split at e
   exact ih _ (h _) _ _ _ _ _ e;cases e
 |store m a y k ih =>
  intro h v es x v' es' e;cases y
  case agg=>cases e
  case tuple=>cases e
  all_goals
   simp only[Sem.runT] at e;split at e
   .split at e
    cases e;exact ih h _ _ _ _ _ e
   .split at e
    exact ih h _ _ _ _ _ e;cases e
 |new o k ih=>intro h v es x v' es' e;exact ih _ (h _) _ _ _ _ _ e
 |shape r k ih=>intro h v es x v' es' e;exact ih _ (h _) _ _ _ _ _ e
 |freeze a n k ih=>intro h v es x v' es' e;exact ih h _ _ _ _ _ e
 |frozen a k ih=>intro h v es x v' es' e;exact ih _ (h _) _ _ _ _ _ e
 |getObj r k ih =>intro h v es x v' es' e;simp only[Sem.runT] at e;split at e;cases e;exact ih _ (h _) _ _ _ _ _ e;cases e
 |setObj r o k ih =>intro h v es x v' es' e;simp only[Sem.runT] at e;split at e;cases e;exact ih h _ _ _ _ _ e;cases e
 |choose q k ih =>intro h v es x v' es' e;simp only[Sem.runT] at e;split at e<;>exact ih _ (h _) _ _ _ _ _ e
 |sys c k ih=>intro h;exact h.elim
 |program k ih=>intro h v es x v' es' e;exact ih _ h _ _ _ _ _ e
 |mark m k ih=>intro h v es x v' es' e;exact ih h _ _ _ _ _ e
 |halt y=>intro h v es x v' es' e;cases e
theorem Out.lowS {wr:Bool}(h:Out z wr v v' w w') (hr:r<v.heap.size):r<w'.heap.size:=by rw[h.rel.size];exact Qp hr h.keeps.size
theorem seen_low {P:Program}{at_:Addr}{k:Addr}{b:Bool}{r:Array Value×TypeId×(Nat×Nat)×Nat×Value×List (Nat×Nat×List UInt8)}(h:v.seen P at_ u k b=.ok r):at_.block<v.heap.size:=by
 rcases Nat.lt_or_ge at_.block v.heap.size with hh|hh;exact hh
 .exfalso
  have e:v.heap[at_.block]? = none:=by simpa using hh
  unfold World.seen at h;rw[e] at h;simp only[bind,Except.bind,throw,throwThe,MonadExceptOf.throw,pure,Except.pure] at h;repeat' split at h
  all_goals first|cases h|simp_all
theorem farLoad_low {P:Program}{b:Bool}{r:Value×List Addr}(h:v.farLoad P a b=.ok r):∀ c∈r.2,c.block<v.heap.size:=by
 unfold World.farLoad at h;cases hh:v.heap[a.block]? with
 |none=>rw[hh] at h;cases h
 |some o =>
  rw[hh] at h;cases o with
  |view at_ u =>
   simp only at h;cases hs:v.viewLoad P at_ u a b with
   |error e=>rw[hs] at h;cases h
   |ok r' =>
    rw[hs] at h;cases h;unfold World.viewLoad at hs;cases hq:v.seen P at_ u a b with
    |error e=>rw[hq] at hs;cases hs
    |ok q =>
     have hl:=seen_low hq;rw[hq] at hs;simp only[bind,Except.bind,throw,throwThe,MonadExceptOf.throw,pure,Except.pure] at hs;split at hs
     .cases hs
      intro c hc;obtain ⟨x,_,rfl⟩:=List.mem_map.1 hc;exact hl
     cases hs
  |_=>cases h
theorem farStore_low {P:Program}{b:Bool}(h:v.farStore P a x b=.ok (v',l)):∀ c∈l,c.block<v.heap.size:=by
 unfold World.farStore at h;cases hh:v.heap[a.block]? with
 |none=>rw[hh] at h;cases h
 |some o =>
  rw[hh] at h;cases o with
  |view at_ u =>
   simp only at h;cases hs:v.viewStore P at_ u a x b with
   |error e=>rw[hs] at h;cases h
   |ok r' =>
    rw[hs] at h;cases h;unfold World.viewStore at hs;cases hq:v.seen P at_ u a b with
    |error e =>rw[hq] at hs;simp only[bind,Except.bind,throw,throwThe,MonadExceptOf.throw,pure,Except.pure] at hs;split at hs<;>cases hs
    |ok q =>
     have hl:=seen_low hq;rw[hq] at hs;simp only[bind,Except.bind,throw,throwThe,MonadExceptOf.throw,pure,Except.pure] at hs;repeat' split at hs
     all_goals first
      |cases hs;done
      |(cases hs
        intro c hc;obtain ⟨x,_,rfl⟩:=List.mem_map.1 hc;exact hl)
  |_=>cases h
theorem sim {P:Program}{wr:Bool}(z:Nat->Option Nat):∀ (s:Sem α),calm P wr s->∀ (v w:World) (es:Array Event) (a:α) (v':World) (es':Array Event),Rel z v w ->
 s.runT P v es=(.ok a v',es')->Same v v' w->∃ w',s.runT P w es=(.ok a w',es')∧Out z wr v v' w w'∧∀ e∈es',e∈es∨(Okay wr e∧Spares z w' e):=by
 intro s;induction s with
 |pure a =>intro hn v w es x v' es' hr h hs;simp only[Sem.runT,Prod.mk.injEq,Result.ok.injEq] at h;obtain ⟨⟨rfl,rfl⟩,rfl⟩:=h;exact ⟨w,rfl,.refl hr,λe he=>.inl he⟩
 |load m a k ih =>
  intro hn v w es x v' es' hr h hs;simp only[Sem.runT,hr.cell?,farLoad_rel hr] at h ⊢;cases hc:v.cell? a with
  |some y =>
   rw[hc] at h;obtain ⟨w',h1,h2,h3⟩:=ih y (hn y) v w _ x v' es' hr h hs;refine ⟨w',h1,h2,λe he=>?_⟩;rcases h3 e he with h4|h4
   .rcases Array.mem_push.1 h4 with h5|rfl
    exact .inl h5;exact .inr ⟨.inl ⟨a,rfl,λ_=>rfl⟩,spares_read rfl (h2.lowS (World.block_lt_of_cell? _ _ hc))⟩
   exact .inr h4
  |none =>
   rw[hc] at h;cases hfl:v.farLoad P a (m==.atomic) with
   |error e=>simp only[hfl] at h;cases h
   |ok r =>
    simp only[hfl] at h ⊢;obtain ⟨w',h1,h2,h3⟩:=ih r.1 (hn r.1) v w _ x v' es' hr h hs;refine ⟨w',h1,h2,λe he=>?_⟩;rcases h3 e he with h4|h4
    .rcases Array.mem_append.1 h4 with h5|h5
     exact .inl h5
     .obtain ⟨b,hb,rfl⟩:=Array.mem_map.1 h5
      exact .inr ⟨.inl ⟨b,rfl,λ_=>rfl⟩,spares_read rfl (h2.lowS (farLoad_low hfl b (by simpa using hb)))⟩
    exact .inr h4
 |store m a y k ih =>
  intro hn v w es x v' es' hr h hs;obtain ⟨rfl,hn⟩:=hn;cases y
  case agg=>simp[Sem.runT] at h
  case tuple=>simp[Sem.runT] at h
  all_goals
   simp only[Sem.runT,hr.cell?] at h ⊢;cases hc:v.cell? a with
   |none =>
    rw[hc] at h;simp only[] at h ⊢;split at h
    rotate_left
    cases h
    .rename_i v₁ l e1
     obtain ⟨w₁,e2,r1,t1,d1,t2,d2,z1,o1,p1,sp,st,ob⟩:=farStore_rel (P:=P) hr e1;rw[e2];simp only[] at h ⊢;obtain ⟨w',h1,h2,h3⟩:=ih hn v₁ w₁ _ x v' es' r1 h (λi hi=>by rw[t1,t2,d1,d2];exact hs i (by omega));refine ⟨w',h1,h2.after st ⟨by omega,λe=>absurd e (by simp),ob,o1,p1⟩ t1 t2 (by omega) (by omega),λe he=>?_⟩;rcases h3 e he with h4|h4
     .rcases Array.mem_append.1 h4 with h5|h5
      exact .inl h5
      .obtain ⟨b,hb,rfl⟩:=Array.mem_map.1 h5
       exact .inr ⟨.inl ⟨b,rfl,λe=>by cases e⟩,h2.lowS (by rw[z1];exact farStore_low e1 b (by simpa using hb)),λa' e _=>by cases e;exact sp _ (by simpa using hb)⟩
     exact .inr h4
   |some z =>
    rw[hc] at h;simp only[] at h ⊢;cases hf:v.frozen? a with
    |true=>rw[hf] at h;simp at h
    |false =>
     rw[hf] at h;simp only[Qh,if_false,hr.thawed hf] at h ⊢;obtain ⟨w',h1,h2,h3⟩:=ih hn (v.setCell a _) (w.setCell a _) _ x v' es' (hr.setCell a _) h hs;refine ⟨w',h1,h2.after (still_set (hr.spared hc hf)) ⟨by simp[World.setCell],λe=>absurd e (by simp),objs_set _ _ _,rfl,rfl⟩ rfl rfl (Qi _) (by simp[World.setCell]),λe he=>?_⟩;rcases h3 e he with h4|h4
     .rcases Array.mem_push.1 h4 with h5|rfl
      exact .inl h5;exact .inr ⟨.inl ⟨a,rfl,λe=>by cases e⟩,h2.lowS (by have:=World.block_lt_of_cell? _ _ hc;simpa [World.setCell] using this),λa' e _=>by cases e;exact hr.spared hc hf⟩
     exact .inr h4
 |new o k ih =>intro hn v w es x v' es' hr h hs;simp only[Sem.runT,hr.size] at h ⊢;obtain ⟨w',h1,h2,h3⟩:=ih _ (hn _) { v with heap:=v.heap.push o } { w with heap:=w.heap.push o } es x v' es' (hr.push o) h hs;refine ⟨w',h1,h2.after (λr n hz=>cell_push (hr.low r n hz)) ⟨by simp,λ_ r x hx=>push_old hx,λr x hx _=>push_old hx,rfl,rfl⟩ rfl rfl (Qi _) (by simp),h3⟩
 |shape r k ih =>intro hn v w es x v' es' hr h hs;simp only[Sem.runT,hr.shape?] at h ⊢;exact ih _ (hn _) v w es x v' es' hr h hs
 |freeze a n k ih=>intro hn;exact hn.elim
 |frozen a k ih =>
  intro hn v w es x v' es' hr h hs;simp only[Sem.runT] at h ⊢;cases hf:v.frozen? a with
  |true=>rw[hf] at h;exact (ends_not _ hn.2 _ _ _ _ _ h).elim
  |false =>rw[hf] at h;rw[hr.thawed hf];exact ih _ (hn.1 _) v w es x v' es' hr h hs
 |getObj r k ih =>
  intro hn v w es x v' es' hr h hs;simp only[Sem.runT] at h;split at h;cases h
  .rename_i o ho1 ho
   have hw:w.heap[r]? = some o:=by
    rw[hr.heap,ho];cases z r with
    |none=>simp[zap_none]
    |some n=>cases o<;>first|rfl|exact absurd rfl (ho1 _ _ _)
   have hm:(Sem.getObj r k).runT P w es=Sem.runT P (k o) w (es.push { loc:=Loc.obj r,write:=false,sync:=o.isChan }):=by simp only[Sem.runT,hw]
   rw[hm];obtain ⟨w',h1,h2,h3⟩:=ih o (hn o) v w _ x v' es' hr h hs;refine ⟨w',h1,h2,λe he=>?_⟩;rcases h3 e he with h4|h4
   .rcases Array.mem_push.1 h4 with h5|rfl
    exact .inl h5;exact .inr ⟨.inr (.inl ⟨r,rfl,rfl⟩),spares_read rfl (h2.lowS (Qb ho).1)⟩
   exact .inr h4
  cases h
 |setObj r o k ih=>intro hn;exact hn.elim
 |choose q k ih =>
  intro hn v w es x v' es' hr h hs;simp only[Sem.runT] at h ⊢;cases hq:q.forced with
  |true =>rw[hq] at h;simp only[if_true] at h ⊢;exact ih _ (hn _) v w es x v' es' hr h hs
  |false =>
   rw[hq] at h;simp only[Qh,if_false] at h ⊢;have key:∃ w',(k (q.cut (v.tape v.drawn q))).runT P { w with drawn:=w.drawn+1 } es=(.ok x w',es')∧Out z wr { v with drawn:=v.drawn+1 } v' { w with drawn:=w.drawn+1 } w'∧∀ e∈es',e∈es∨(Okay wr e∧Spares z w' e) :=
    ih _ (hn _) { v with drawn:=v.drawn+1 } { w with drawn:=w.drawn+1 } es x v' es' (hr.re rfl rfl rfl rfl rfl rfl) h (λi hi=>by have:=hs (i+1) (by simp only at hi;omega);simp only;rw[show v.drawn+1+i=v.drawn+(i+1) by omega,show w.drawn+1+i=w.drawn+(i+1) by omega];exact this)
   obtain ⟨w',h1,h2,h3⟩:=key;have hlt:v.drawn<v'.drawn:=h2.le;have e0:v.tape v.drawn=w.tape w.drawn:=hs 0 (by simpa using hlt);rw[<-e0];exact ⟨w',h1,h2.after (λ_ _ _=>rfl) (Keeps.of_rel ⟨rfl,rfl,rfl⟩) rfl rfl (by simp) (by simp),h3⟩
 |sys c k ih=>intro hn;exact hn.elim
 |program k ih =>intro hn v w es x v' es' hr h hs;exact ih _ hn v w es x v' es' hr h hs
 |mark m k ih =>
  intro hn v w es x v' es' hr h hs;simp only[Sem.runT] at h ⊢;obtain ⟨w',h1,h2,h3⟩:=ih hn.2 v w _ x v' es' hr h hs;refine ⟨w',h1,h2,λe he=>?_⟩;rcases h3 e he with h4|h4
  .rcases Array.mem_push.1 h4 with h5|rfl
   exact .inl h5
   .rcases hn.1 with rfl|⟨f,rfl⟩
    exact .inr ⟨.inr (.inr (.inl rfl)),spares_read rfl trivial⟩;exact .inr ⟨.inr (.inr (.inr ⟨f,rfl⟩)),spares_read rfl trivial⟩
  exact .inr h4
 |halt y =>intro hn v w es x v' es' hr h hs;simp[Sem.runT] at h
theorem farLoad_soft {P:Program}{b:Bool}{h:Halt}(e:v.farLoad P a b=.error h):Soft h:=by
 unfold World.farLoad World.noCell at e;repeat' split at e
 all_goals first|(cases e;exact .inr (.inr ⟨_,rfl⟩))|(cases e;exact .inr (.inl ⟨_,rfl⟩))|cases e
theorem farStore_soft {P:Program}{b:Bool}{h:Halt}(e:v.farStore P a x b=.error h):Soft h:=by
 unfold World.farStore World.noCell at e;repeat' split at e
 all_goals first|(cases e;exact .inr (.inr ⟨_,rfl⟩))|(cases e;exact .inr (.inl ⟨_,rfl⟩))|cases e
theorem calm_halt {P:Program}{wr:Bool}:∀ (s:Sem α),calm P wr s->∀ (v:World) (h:Halt) (v':World),s.run P v=.halt h v'->Soft h:=by
 intro s;induction s with
 |pure a=>intro _ v h v' e;cases e
 |load m a k ih =>
  intro hn v h v' e;simp only[Sem.run] at e;cases hc:v.cell? a with
  |some y=>rw[hc] at e;exact ih y (hn y) v h v' e
  |none =>
   rw[hc] at e;cases hf:v.farLoad P a (m==.atomic) with
   |ok r=>simp only[hf] at e;exact ih _ (hn _) v h v' e
   |error x=>simp only[hf] at e;cases e;exact farLoad_soft hf
 |store m a y k ih =>
  intro hn v h v' e;cases y
  case agg=>cases e;exact .inr (.inl ⟨_,rfl⟩)
  case tuple=>cases e;exact .inr (.inl ⟨_,rfl⟩)
  all_goals
   simp only[Sem.run] at e;cases hc:v.cell? a with
   |none =>
    rw[hc] at e;simp only[] at e;split at e;exact ih hn.2 _ h v' e
    .rename_i e';cases e;exact farStore_soft e'
   |some z =>rw[hc] at e;simp only[] at e;split at e;cases e;exact .inr (.inr ⟨_,rfl⟩);exact ih hn.2 _ h v' e
 |new o k ih=>intro hn v h v' e;exact ih _ (hn _) _ h v' e
 |shape r k ih=>intro hn v h v' e;exact ih _ (hn _) v h v' e
 |freeze a n k ih=>intro hn;exact hn.elim
 |frozen a k ih=>intro hn v h v' e;exact ih _ (hn.1 _) v h v' e
 |getObj r k ih =>intro hn v h v' e;simp only[Sem.run] at e;split at e;cases e;exact .inr (.inl ⟨_,rfl⟩);exact ih _ (hn _) v h v' e;cases e;exact .inr (.inl ⟨_,rfl⟩)
 |setObj r o k ih=>intro hn;exact hn.elim
 |choose q k ih =>intro hn v h v' e;simp only[Sem.run] at e;split at e;exact ih _ (hn _) v h v' e;exact ih _ (hn _) _ h v' e
 |sys c k ih=>intro hn;exact hn.elim
 |program k ih=>intro hn v h v' e;exact ih _ hn v h v' e
 |mark m k ih=>intro hn v h v' e;exact ih hn.2 v h v' e
 |halt y =>intro hn v h v' e;cases e;exact hn
section
variable (P:Program) (wr:Bool) (L:FuncId->Prop)
def fineOp (o:Oper):Prop:=∀ a:Act,calm P wr (execOp a.eval o) ∧
 ∀ w x w',(execOp a.eval o).run P w=.ok x w'->(∃ v,x=.value v)∨x=.skip∨∃ f args,x=.enter f args∧L f
def fineCode:Code->Prop
 |.skip|.ret|.label _|.exit _=>True
 |.seq a b=>fineCode a∧fineCode b
 |.cond _ a b=>fineCode a∧fineCode b
 |.block _ c=>fineCode c
 |.loop c=>fineCode c
 |.region _ ops _=>∀ o∈ops,fineOp P wr L o
 |_=>False
def fineItem:Item->Prop
 |.code c=>fineCode P wr L c
 |.inBlock _=>True
 |.inLoop c=>fineCode P wr L c
 |.inRegion ops _=>∀ o∈ops,fineOp P wr L o
 |_=>False
def fineFn (f:FuncId):Prop:=∃ fn c,P.funcs[f]? = some fn∧fn.body=some c∧fineCode P wr L c∧∀ tmps,calm P wr (results fn tmps)
end
structure F where
 b:Frame
 a:Act
 todo:List Item
 ret:Bool
def F.fr (f:F) (k:List Item):Frame:=if f.ret then { f.b.at f.a (f.todo++k) with mode:=.returning } else f.b.at f.a (f.todo++k)
structure fineF (P:Program) (wr:Bool) (L:FuncId->Prop) (f:F):Prop where
 items:∀ x∈f.todo,fineItem P wr L x
 defers:f.a.defers=[]
 kind:f.b.kind≠.early
theorem exitTo_app {id:Nat}:∀ {l l':List Item}(k:List Item),exitTo id l=some l'->exitTo id (l++k)=some (l'++k)
 |.inBlock id' :: l,l',k,h=>by
  simp only[exitTo,List.cons_append] at h ⊢;split at h
  .rename_i e;simp only[e,if_true];cases h;rfl
  .rename_i e;simp only[e];exact exitTo_app k h
 |.code _ :: l,l',k,h=>exitTo_app (l:=l) k h
 |.inLoop _ :: l,l',k,h=>exitTo_app (l:=l) k h
 |.inScope _ :: l,l',k,h=>exitTo_app (l:=l) k h
 |.inRegion _ _ :: l,l',k,h=>exitTo_app (l:=l) k h
 |.inRangeFunc _ :: l,l',k,h=>exitTo_app (l:=l) k h
 |.endRangeFunc _ :: l,l',k,h=>exitTo_app (l:=l) k h
 |.beginRound :: l,l',k,h=>exitTo_app (l:=l) k h
 |.call .. :: l,l',k,h=>exitTo_app (l:=l) k h
 |.extern .. :: l,l',k,h=>exitTo_app (l:=l) k h
 | [],_,_,h=>by cases h
theorem exitTo_none {id:Nat}{kk:List Item}(hk:exitTo id kk=none):∀ {l:List Item},exitTo id l=none->exitTo id (l++kk)=none
 |.inBlock id' :: l,h=>by
  simp only[exitTo,List.cons_append] at h ⊢;split at h;cases h
  .rename_i e;simp only[e];exact exitTo_none hk h
 |.code _ :: l,h=>exitTo_none hk (l:=l) h
 |.inLoop _ :: l,h=>exitTo_none hk (l:=l) h
 |.inScope _ :: l,h=>exitTo_none hk (l:=l) h
 |.inRegion _ _ :: l,h=>exitTo_none hk (l:=l) h
 |.inRangeFunc _ :: l,h=>exitTo_none hk (l:=l) h
 |.endRangeFunc _ :: l,h=>exitTo_none hk (l:=l) h
 |.beginRound :: l,h=>exitTo_none hk (l:=l) h
 |.call .. :: l,h=>exitTo_none hk (l:=l) h
 |.extern .. :: l,h=>exitTo_none hk (l:=l) h
 | [],_=>hk
theorem exitTo_mem {id:Nat}:∀ {l l':List Item},exitTo id l=some l'->∀ x∈l',x∈l
 |.inBlock id' :: l,l',h,x,hx=>by simp only[exitTo] at h;split at h;cases h;exact List.mem_cons_of_mem _ hx;exact List.mem_cons_of_mem _ (exitTo_mem h x hx)
 |.code _ :: l,l',h,x,hx=>List.mem_cons_of_mem _ (exitTo_mem (l:=l) h x hx)
 |.inLoop _ :: l,l',h,x,hx=>List.mem_cons_of_mem _ (exitTo_mem (l:=l) h x hx)
 |.inScope _ :: l,l',h,x,hx=>List.mem_cons_of_mem _ (exitTo_mem (l:=l) h x hx)
 |.inRegion _ _ :: l,l',h,x,hx=>List.mem_cons_of_mem _ (exitTo_mem (l:=l) h x hx)
 |.inRangeFunc _ :: l,l',h,x,hx=>List.mem_cons_of_mem _ (exitTo_mem (l:=l) h x hx)
 |.endRangeFunc _ :: l,l',h,x,hx=>List.mem_cons_of_mem _ (exitTo_mem (l:=l) h x hx)
 |.beginRound :: l,l',h,x,hx=>List.mem_cons_of_mem _ (exitTo_mem (l:=l) h x hx)
 |.call .. :: l,l',h,x,hx=>List.mem_cons_of_mem _ (exitTo_mem (l:=l) h x hx)
 |.extern .. :: l,l',h,x,hx=>List.mem_cons_of_mem _ (exitTo_mem (l:=l) h x hx)
 | [],_,h,_,_=>by cases h
structure Step (P:Program) (wr:Bool) (f:F) (T:List Item->List Frame->Goroutine) (v v':World) (es:Array Event):Prop where
 here:∀ k cs main,stepG P main (G (f.fr k) cs) v=.go (T k cs) v' es
 okay:∀ e∈es,Okay wr e
 tape:v'.tape=v.tape
 le:v.drawn<=v'.drawn
 like:∀ z w,Rel z v w->Same v v' w->∃ w',Out z wr v v' w w'∧(∀ e∈es,Spares z w' e)∧∀ k cs main,stepG P main (G (f.fr k) cs) w=.go (T k cs) w' es
theorem Step.ctl {P:Program}{wr:Bool}{f:F}{T:List Item->List Frame->Goroutine}(h:∀ k cs main w,stepG P main (G (f.fr k) cs) w=.go (T k cs) w #[]):Step P wr f T v v #[] :=
 ⟨λk cs main=>h k cs main v,λe he=>by simp at he,rfl,Qi _,λz w hr _=>⟨w,.refl hr,λe he=>by simp at he,λk cs main=>h k cs main w⟩⟩
def Doomed (cs:List Frame) (s:GStep):Prop:=(∃ o w es,s=.ended o w es)∨∃ (fr:Frame) (chain:List PanicEntry) (w:World) (es:Array Event),s=.go (G { fr with mode:=.panicking chain } cs) w es∧fr.defers=[]
theorem seen_okay {P:Program}{wr:Bool}{fn:FuncId}{es:Array Event}(h:∀ e∈es,Okay wr e):∀ e∈seen P fn es,Okay wr e:=λe he=>h e (mem_seen he)
section
variable {P:Program}{wr:Bool}{L:FuncId->Prop}{f:F}{v:World}
theorem F.fr_run {a:Act}{k:List Item}:(F.mk b a todo false).fr k=b.at a (todo++k):=rfl
theorem F.fr_ret {a:Act} {k:List Item}:(F.mk b a todo true).fr k={ b.at a (todo++k) with mode:=.returning }:=rfl
theorem local_step (hf:fineF P wr L f) (hr:f.ret=false) (hne:f.todo≠[]) (hE:∀ fr cs dy g w,∃ o w',early P fr cs dy g w=.ended o w') (hL:∀ g,L g->fineFn P wr L g) {kk:List Item}(hkk:∀ id,exitTo id kk=none):
 (∃ f' v' es,f'.b=f.b∧fineF P wr L f'∧Step P wr f (λk cs=>G (f'.fr k) cs) v v' es) ∨
 (∃ g v' es,fineF P wr L g∧g.ret=false∧g.b.kind=.normal∧L g.b.fn∧(∃ ops i rest more,f.todo=.inRegion ops (i :: rest) :: more)∧Step P wr f (λk cs=>G (g.fr []) (f.fr k :: cs)) v v' es) ∨
 ∀ cs,Doomed cs (stepG P true (G (f.fr kk) cs) v):=by
 obtain ⟨b,a,todo,ret⟩:=f;simp only at hr hne;subst hr;obtain ⟨hi,hd,hk⟩:=hf;simp only at hi hd hk;cases todo with
 |nil=>exact absurd rfl hne
 |cons x rest =>
  have hx:=hi x (List.mem_cons_self ..);have hrest:∀ y∈rest,fineItem P wr L y:=λy hy=>hi y (List.mem_cons_of_mem _ hy);have mv:∀ (a':Act) (t:List Item),a'.defers=[]->(∀ y∈t,fineItem P wr L y)->fineF P wr L ⟨b,a',t,false⟩:=λa' t h1 h2=>⟨h2,h1,hk⟩
  cases x with
  |inScope c=>exact hx.elim
  |inRangeFunc l=>exact hx.elim
  |endRangeFunc l=>exact hx.elim
  |beginRound=>exact hx.elim
  |call d w r s=>exact hx.elim
  |extern r as=>exact hx.elim
  |inBlock id=>exact .inl ⟨⟨b,a,rest,false⟩,v,#[],rfl,mv a rest hd hrest,.ctl λk cs main w=>stepG_inBlock⟩
  |inLoop c =>
   exact .inl ⟨⟨b,a,.code c :: .inLoop c :: rest,false⟩,v,#[],rfl,mv a _ hd (λy hy=>by
    rcases List.mem_cons.1 hy with rfl|hy;exact hx
    .rcases List.mem_cons.1 hy with rfl|hy
     exact hx;exact hrest y hy),.ctl λk cs main w=>stepG_inLoop⟩
  |code c =>
   cases c with
   |skip=>exact .inl ⟨⟨b,a,rest,false⟩,v,#[],rfl,mv a rest hd hrest,.ctl λk cs main w=>stepG_skip⟩
   |label l=>exact .inl ⟨⟨b,a,rest,false⟩,v,#[],rfl,mv a rest hd hrest,.ctl λk cs main w=>stepG_label⟩
   |ret=>exact .inl ⟨⟨b,a,.code .ret :: rest,true⟩,v,#[],rfl,⟨hi,hd,hk⟩,.ctl λk cs main w=>by simp[F.fr_run,F.fr_ret,G,stepG,stepG.exec,Frame.at]⟩
   |exit id =>
    cases he:exitTo id rest with
    |some t =>exact .inl ⟨⟨b,a,t,false⟩,v,#[],rfl,mv a t hd (λy hy=>hrest y (exitTo_mem he y hy)),.ctl λk cs main w=>stepG_exit (exitTo_app k he)⟩
    |none =>refine .inr (.inr λcs=>Or.inl ?_);have h0:=exitTo_none (hkk id) he;simp[F.fr_run,G,stepG,stepG.exec,Frame.at,h0]
   |seq c d =>
    exact .inl ⟨⟨b,a,.code c :: .code d :: rest,false⟩,v,#[],rfl,mv a _ hd (λy hy=>by
     rcases List.mem_cons.1 hy with rfl|hy;exact hx.1
     .rcases List.mem_cons.1 hy with rfl|hy
      exact hx.2;exact hrest y hy),.ctl λk cs main w=>stepG_seq⟩
   |cond o c d =>
    cases ho:a.eval o with
    |bool t =>
     exact .inl ⟨⟨b,a,.code (if t then c else d) :: rest,false⟩,v,#[],rfl,mv a _ hd (λy hy=>by
      rcases List.mem_cons.1 hy with rfl|hy
      .cases t
       exact hx.2;exact hx.1
      exact hrest y hy),.ctl λk cs main w=>stepG_cond ho⟩
    |_ =>refine .inr (.inr λcs=>Or.inl ?_);have he:=Frame.eval_at b a (.code (.cond o c d) :: (rest++kk)) o;simp only[Frame.at] at he;simp[F.fr_run,G,stepG,stepG.exec,Frame.at,he,ho]
   |block id c =>
    exact .inl ⟨⟨b,a,.code c :: .inBlock id :: rest,false⟩,v,#[],rfl,mv a _ hd (λy hy=>by
     rcases List.mem_cons.1 hy with rfl|hy;exact hx
     .rcases List.mem_cons.1 hy with rfl|hy
      trivial;exact hrest y hy),.ctl λk cs main w=>stepG_block⟩
   |loop c =>
    exact .inl ⟨⟨b,a,.code c :: .inLoop c :: rest,false⟩,v,#[],rfl,mv a _ hd (λy hy=>by
     rcases List.mem_cons.1 hy with rfl|hy;exact hx
     .rcases List.mem_cons.1 hy with rfl|hy
      exact hx;exact hrest y hy),.ctl λk cs main w=>stepG_loop⟩
   |region id ops draw =>
    have hreg:∀ t,∀ y∈(Item.inRegion ops t :: rest),fineItem P wr L y:=λt y hy=>by rcases List.mem_cons.1 hy with rfl|hy;exact hx;exact hrest y hy
    cases draw with
    |false=>exact .inl ⟨⟨b,a,.inRegion ops (List.range ops.size) :: rest,false⟩,v,#[],rfl,mv a _ hd (hreg _),.ctl λk cs main w=>stepG_region⟩
    |true =>
     refine .inl ⟨⟨b,a,.inRegion ops (Region.schedule (P.follows .mixedOrders) ops (v.tape v.drawn (.order b.fn id))) :: rest,false⟩,{ v with drawn:=v.drawn+1 },#[],rfl,mv a _ hd (hreg _),
      λk cs main=>stepG_region_draw,λe he=>by simp at he,rfl,Nat.le_succ _,λz w hr hs=>⟨{ w with drawn:=w.drawn+1 },⟨hr.re rfl rfl rfl rfl rfl rfl,rfl,rfl,Nat.le_succ _,by simp,.of_rel ⟨rfl,rfl,rfl⟩,λ_ _ _=>rfl⟩,λe he=>by simp at he,λk cs main=>?_⟩⟩
     have e0:v.tape v.drawn=w.tape w.drawn:=hs 0 (by simp);rw[e0];exact stepG_region_draw
   |_=>exact hx.elim
  |inRegion ops todo =>
   have hreg:∀ t,∀ y∈(Item.inRegion ops t :: rest),fineItem P wr L y:=λt y hy=>by rcases List.mem_cons.1 hy with rfl|hy;exact hx;exact hrest y hy
   cases todo with
   |nil=>exact .inl ⟨⟨b,a,rest,false⟩,v,#[],rfl,mv a rest hd hrest,.ctl λk cs main w=>stepG_region_end⟩
   |cons i t =>
    cases ho:ops[i]? with
    |none =>refine .inl ⟨⟨b,a,.inRegion ops t :: rest,false⟩,v,#[],rfl,mv a _ hd (hreg _),.ctl λk cs main w=>?_⟩;simp[F.fr_run,G,stepG,stepG.exec,Frame.at,ho,Frame.finish]
    |some o =>
     have hof:fineOp P wr L o:=hx o (Array.mem_of_getElem? ho);cases hw:Region.wanted o (yielded ops a.tmps) with
     |false =>refine .inl ⟨⟨b,a.put o.dst undef,.inRegion ops t :: rest,false⟩,v,#[],rfl,mv _ _ (by rw[<-hd];unfold Act.put;split<;>rfl) (hreg _),.ctl λk cs main w=>?_⟩;have:=Frame.finish_at b a ops i t (rest++k) undef;rw[ho] at this;simp only[Frame.at] at this;simp[F.fr_run,G,stepG,stepG.exec,Frame.at,ho,hw,this]
     |true =>
      have hput:∀ x,(a.put o.dst x).defers=[]:=λx=>by rw[<-hd];unfold Act.put;split<;>rfl
      have hk':(b.kind==CallKind.early)=false:=by simpa using hk
      obtain ⟨hn,hout⟩:=hof a;cases hres:(execOp a.eval o).run P v with
      |ok x v' =>
       have hT:(execOp a.eval o).runT P v #[]=(.ok x v',(execOp a.eval o).events P v #[]):=by have:=runT_fst (P:=P) (execOp a.eval o) v #[];rw[hres] at this;exact Prod.ext this rfl
       have hs:=λz=>sim z _ hn v;have hok:∀ e∈listed P b.fn a o v,Okay wr e:=seen_okay λe he=>by obtain ⟨_,_,_,h3⟩:=hs zn v #[] x v' _ (Rel.refl v) hT (λi _=>rfl);rcases h3 e he with h|h;simp at h;exact h.1
       have hO:Out zn wr v v' v v':=by obtain ⟨w',h1,h2,_⟩:=hs zn v #[] x v' _ (Rel.refl v) hT (λi _=>rfl);rw[hT] at h1;cases h1;exact h2
       have lk:∀ z w,Rel z v w->Same v v' w->∃ w',Out z wr v v' w w'∧(execOp a.eval o).run P w=.ok x w'∧listed P b.fn a o w=listed P b.fn a o v∧∀ e∈listed P b.fn a o v,Spares z w' e:=λz w hr hS=>by
        obtain ⟨w',h1,h2,h3⟩:=hs z w #[] x v' _ hr hT hS;refine ⟨w',h2,by rw[<-runT_fst (P:=P) _ w #[],h1],?_,λe he=>by rcases h3 e (mem_seen he) with h|h;simp at h;exact h.2⟩
        unfold listed;have:(execOp a.eval o).events P w #[]=(execOp a.eval o).events P v #[]:=by show ((execOp a.eval o).runT P w #[]).2=_;rw[h1]
        rw[this]
       rcases hout v x v' hres with ⟨y,rfl⟩|rfl|⟨g,args,rfl,hg⟩
       .refine .inl ⟨⟨b,a.put o.dst y,.inRegion ops t :: rest,false⟩,v',listed P b.fn a o v,rfl,mv _ _ (hput _) (hreg _),λk cs main=>stepG_value ho hw hk hres,hok,hO.tape,hO.le,λz w hr hS=>?_⟩
        obtain ⟨w',h2,h3,h4,h5⟩:=lk z w hr hS;exact ⟨w',h2,h5,λk cs main=>by rw[<-h4];exact stepG_value ho hw hk h3⟩
       .refine .inl ⟨⟨b,a.put o.dst undef,.inRegion ops t :: rest,false⟩,v',listed P b.fn a o v,rfl,mv _ _ (hput _) (hreg _),λk cs main=>stepG_none ho hw hk hres,hok,hO.tape,hO.le,λz w hr hS=>?_⟩
        obtain ⟨w',h2,h3,h4,h5⟩:=lk z w hr hS;exact ⟨w',h2,h5,λk cs main=>by rw[<-h4];exact stepG_none ho hw hk h3⟩
       .obtain ⟨fn,c,hfn,hbody,hfine,hresn⟩:=hL g hg
        have hent:Frame.enter P g args .normal=(F.mk (base g) { tmps:=args++Array.replicate (fn.ntmps - args.size) undef,defers:=[] } [.code c] false).fr []:=enter_at args hfn hbody;refine .inr (.inl ⟨⟨base g,{ tmps:=args++Array.replicate (fn.ntmps - args.size) undef,defers:=[] },[.code c],false⟩,v',listed P b.fn a o v,
         ⟨λy hy=>by rcases List.mem_singleton.1 hy with rfl;exact hfine,rfl,by simp[base]⟩,rfl,rfl,hg,⟨ops,i,t,rest,rfl⟩,
         λk cs main=>by rw[<-hent];exact stepG_enter ho hw hk hres,hok,hO.tape,hO.le,λz w hr hS=>?_⟩)
        obtain ⟨w',h2,h3,h4,h5⟩:=lk z w hr hS;exact ⟨w',h2,h5,λk cs main=>by rw[<-h4,<-hent];exact stepG_enter ho hw hk h3⟩
      |halt h v' =>
       refine .inr (.inr λcs=>?_);have hsoft:=calm_halt _ hn v h v' hres;have e1:stepG P true (G ((F.mk b a (.inRegion ops (i :: t) :: rest) false).fr kk) cs) v=stepG.apply P true (b.at a (.inRegion ops (i :: t) :: (rest++kk))) cs none (execOp a.eval o) v:=stepG_oper ho hw;rcases hsoft with ⟨x,rfl⟩|⟨s,rfl⟩|⟨u,rfl⟩
       .refine Or.inr ⟨b.at a (.inRegion ops (i :: t) :: (rest++kk)),[{ v:=x,recovered:=false }],v',listed P b.fn a o v,?_,hd⟩
        rw[e1];simp[stepG.apply,hres,G,Frame.at,hk',GStep.after,Frame.raise,listed]
       .left
        rw[e1];simp[stepG.apply,hres,Frame.at,hk',GStep.after]
       .left
        rw[e1];cases u
        case initOrder g =>obtain ⟨o',w',e2⟩:=hE (b.at a (.inRegion ops (i :: t) :: (rest++kk))) cs none g v';simp only[Frame.at] at e2;simp[stepG.apply,hres,Frame.at,GStep.after,e2]
        all_goals simp[stepG.apply,hres,Frame.at,hk',GStep.after]
end
structure St where
 ups:List F
 base:F
def St.emb:St->List Item->List Frame->Goroutine
 |⟨[],b⟩,k,cs=>G (b.fr k) cs
 |⟨u :: us,b⟩,k,cs=>G (u.fr []) (us.map (·.fr [])++b.fr k :: cs)
def waits (f:F):Prop:=f.ret=false∧∃ ops i rest more,f.todo=.inRegion ops (i :: rest) :: more
structure fineSt (P:Program) (wr:Bool) (L:FuncId->Prop) (b:Frame) (s:St):Prop where
 base:fineF P wr L s.base
 eb:s.base.b=b
 ups:∀ u∈s.ups,fineF P wr L u∧u.b.kind=.normal∧L u.b.fn
 wait:∀ x∈(s.ups++[s.base]).drop 1,waits x
def Done (s:St):Prop:=s.ups=[]∧(s.base.ret=true∨s.base.todo=[])
structure StepS (P:Program) (wr:Bool) (s s':St) (v v':World) (es:Array Event):Prop where
 here:∀ k cs main,stepG P main (s.emb k cs) v=.go (s'.emb k cs) v' es
 okay:∀ e∈es,Okay wr e
 tape:v'.tape=v.tape
 le:v.drawn<=v'.drawn
 like:∀ z w,Rel z v w->Same v v' w->∃ w',Out z wr v v' w w'∧(∀ e∈es,Spares z w' e)∧∀ k cs main,stepG P main (s.emb k cs) w=.go (s'.emb k cs) w' es
theorem stepG_back {P:Program}{main:Bool}{a:Act}{cs:List Frame}{fn:Func}{c:Frame}{v:Value}(hn:b.kind=.normal) (hd:a.defers=[]) (hf:P.funcs[b.fn]? = some fn)
 (hr:(results fn a.tmps).run P w=.ok v w'):
 stepG P main (G { b.at a todo with mode:=.returning } (c :: cs)) w=.go (G (c.finish v) cs) w' (seen P b.fn ((results fn a.tmps).events P w #[])):=by
 simp[G,stepG,unwind,doReturn,Frame.at,hn,hd,hf,hr,GStep.after]
def F.got (f:F) (x:Value):F :=
 match f.todo with
 |.inRegion ops (i :: rest) :: more=>⟨f.b,f.a.put ((ops[i]?).bind (·.dst)) x,.inRegion ops rest :: more,f.ret⟩
 |_=>f
theorem finish_got {f:F}(hw:waits f) (x:Value) (k:List Item):(f.fr k).finish x=(f.got x).fr k:=by obtain ⟨b,a,todo,ret⟩:=f;obtain ⟨h1,ops,i,rest,more,h2⟩:=hw;simp only at h1 h2;subst h1 h2;exact Frame.finish_at b a ops i rest (more++k) x
theorem fineF.got {P:Program}{wr:Bool}{L:FuncId->Prop}{f:F}(h:fineF P wr L f) (hw:waits f) (x:Value):fineF P wr L (f.got x)∧(f.got x).b=f.b∧(f.got x).ret=false:=by
 obtain ⟨b,a,todo,ret⟩:=f;obtain ⟨h1,ops,i,rest,more,h2⟩:=hw;simp only at h1 h2;subst h1 h2;refine ⟨⟨λy hy=>?_,?_,h.kind⟩,rfl,rfl⟩
 .rcases List.mem_cons.1 hy with rfl|hy
  exact h.items (.inRegion ops (i :: rest)) (List.mem_cons_self ..);exact h.items y (List.mem_cons_of_mem _ hy)
 .rw[<-h.defers]
  show (a.put _ x).defers=a.defers;unfold Act.put;split<;>rfl
def last: Frame := { (default : Frame) with todo := [.code (.refuse "")], defers := [{ target := .nil, args := #[] }], mode := .run, kind := .normal, roundOf := none }
def tail: List Item := [.code (.refuse "")]
theorem tail_exit (id:Nat):exitTo id tail=none:=rfl
theorem nil_exit (id:Nat):exitTo id []=none:=rfl
def aloneM (g:Goroutine) (w:World):Machine:=lone g.frame g.callers w
theorem alone_go {P:Program}{fr fr':Frame}{cs cs':List Frame}{es:Array Event}(h:stepG P true (G fr cs) w=.go (G fr' cs') w' es):step P (lone fr cs w)=.next (lone fr' cs' w') :=
 step_lone_go (by have h':stepG P true { frame:=fr,callers:=cs,status:=.running,dying:=none } w=.go (G fr' cs') w' es:=h;rw[h'];rfl)
theorem alone_ended {P:Program}{fr:Frame}{cs:List Frame}{o:Outcome}{es:Array Event}(h:stepG P true (G fr cs) w=.ended o w' es):step P (lone fr cs w)=.ended o w' :=
 step_lone_ended (by have h':stepG P true { frame:=fr,callers:=cs,status:=.running,dying:=none } w=.ended o w' es:=h;rw[h'];rfl)
theorem dead_step {P:Program}{fr c:Frame}{cs:List Frame}{chain:List PanicEntry}(hd:fr.defers=[]):
 (∃ o,step P (lone { fr with mode:=.panicking chain } (c :: cs) w)=.ended o w)∨step P (lone { fr with mode:=.panicking chain } (c :: cs) w)=.next (lone (c.raise chain) cs w):=by
 obtain ⟨fn,tmps,todo,defers,mode,kind,ro⟩:=fr;simp only at hd;subst hd;by_cases hc:Frame.catches P { fn:=fn,tmps:=tmps,todo:=todo,defers:=[],mode:=.panicking chain,kind:=kind,roundOf:=ro }=true;exact .inl ⟨_,alone_ended (es:=#[]) (by simp[G,stepG,unwind,hc];rfl)⟩;exact .inr (alone_go (es:=#[]) (by simp[G,stepG,unwind,hc]))
theorem dead_run {P:Program}:∀ (us:List Frame) (fr:Frame) (chain:List PanicEntry) (w:World) (n:Nat) (m':Machine),fr.defers=[]->(∀ u∈us,u.defers=[]) ->
 runN P n (lone { fr with mode:=.panicking chain } (us++[last]) w)=.next m'->∃ fr' cs' w' chain',m'=lone fr' cs' w'∧fr'.mode=.panicking chain':=by
 have up:∀ (u:Frame) (chain:List PanicEntry),∃ ch,u.raise chain={ u with mode:=.panicking ch }:=λu chain=>by unfold Frame.raise;split<;>exact ⟨_,rfl⟩
 intro us;induction us with
 |nil =>
  intro fr chain w n m' hd _ h;cases n with
  |zero=>simp only[runN,Stepped.next.injEq] at h;exact ⟨_,_,_,_,h.symm,rfl⟩
  |succ n =>
   simp only[runN] at h;obtain ⟨ch,hch⟩:=up last chain;rcases dead_step (P:=P) (c:=last) (cs:=[]) (chain:=chain) (w:=w) hd with ⟨o,e⟩|e;simp only[List.nil_append,e] at h;cases h
   .simp only[List.nil_append,e,hch] at h
    cases n with
    |zero=>simp only[runN,Stepped.next.injEq] at h;exact ⟨_,_,_,_,h.symm,rfl⟩
    |succ n =>
     simp only[runN] at h;have e2:∃ o,step P (lone { last with mode:=.panicking ch } [] w)=.ended o w:=⟨_,alone_ended (es:=#[]) (by simp[G,stepG,unwind,last,callDeferred];rfl)⟩
     obtain ⟨o,e2⟩:=e2;rw[e2] at h;cases h
 |cons u us ih =>
  intro fr chain w n m' hd hu h;cases n with
  |zero=>simp only[runN,Stepped.next.injEq] at h;exact ⟨_,_,_,_,h.symm,rfl⟩
  |succ n =>
   simp only[runN] at h;obtain ⟨ch,hch⟩:=up u chain;rcases dead_step (P:=P) (c:=u) (cs:=us++[last]) (chain:=chain) (w:=w) hd with ⟨o,e⟩|e;simp only[List.cons_append,e] at h;cases h
   .simp only[List.cons_append,e,hch] at h
    exact ih u ch w n m' (hu u (List.mem_cons_self ..)) (λx hx=>hu x (List.mem_cons_of_mem _ hx)) h
section
variable {P:Program}{wr:Bool}{L:FuncId->Prop}{b:Frame}{v:World}
theorem Step.toS {f:F}{T:List Item->List Frame->Goroutine}{es:Array Event}{s s':St}(h:Step P wr f T v v' es) (κ:List Item->List Item) (γ:List Item->List Frame->List Frame)
 (e1:∀ k cs,s.emb k cs=G (f.fr (κ k)) (γ k cs)) (e2:∀ k cs,s'.emb k cs=T (κ k) (γ k cs)):StepS P wr s s' v v' es :=
 ⟨λk cs main=>by rw[e1,e2];exact h.here _ _ _,h.okay,h.tape,h.le,λz w hr hs=>by obtain ⟨w',ho,hsp,hg⟩:=h.like z w hr hs;exact ⟨w',ho,hsp,λk cs main=>by rw[e1,e2];exact hg _ _ _⟩⟩
def Lost (P:Program) (g:Goroutine) (v:World):Prop:=(∃ o w,step P (aloneM g v)=.ended o w) ∨
 ∃ (us:List Frame) (fr:Frame) (chain:List PanicEntry) (w:World),step P (aloneM g v)=.next (lone { fr with mode:=.panicking chain } (us++[last]) w)∧fr.defers=[]∧∀ u∈us,u.defers=[]
theorem lost_of {fr:Frame}{us:List Frame}(hu:∀ u∈us,u.defers=[]) (h:Doomed (us++[last]) (stepG P true (G fr (us++[last])) v)):Lost P (G fr (us++[last])) v:=by
 rcases h with ⟨o,w,es,e⟩|⟨fr',chain,w,es,e,hd⟩
 exact Or.inl ⟨o,w,alone_ended e⟩;exact Or.inr ⟨us,fr',chain,w,alone_go e,hd,hu⟩
theorem fr_defers (f:F) (k:List Item):(f.fr k).defers=f.a.defers:=by unfold F.fr;split<;>rfl
theorem stack_step {s:St}(hf:fineSt P wr L b s) (hnd:¬ Done s) (hE:∀ fr cs dy g w,∃ o w',early P fr cs dy g w=.ended o w') (hL:∀ g,L g->fineFn P wr L g):
 (∃ s' v' es,fineSt P wr L b s'∧StepS P wr s s' v v' es)∨Lost P (s.emb tail [last]) v:=by
 obtain ⟨ups,bs⟩:=s;obtain ⟨hb,heb,hups,hwait⟩:=hf;cases ups with
 |nil =>
  have hr:bs.ret=false:=by
   cases h:bs.ret with
   |false=>rfl
   |true=>exact absurd ⟨rfl,.inl h⟩ hnd
  have hne:bs.todo≠[]:=λh=>hnd ⟨rfl,.inr h⟩;rcases local_step hb hr hne hE hL tail_exit with ⟨f',v',es,eb,hf',hs⟩|⟨g,v',es,hg,hgr,hgk,hgL,hw,hs⟩|hdoom;exact .inl ⟨⟨[],f'⟩,v',es,⟨hf',eb.trans heb,λ_ h=>by simp at h,λ_ h=>by simp at h⟩,hs.toS id (λ_ cs=>cs) (λ_ _=>rfl) (λ_ _=>rfl)⟩
  .exact .inl ⟨⟨[g],bs⟩,v',es,⟨hb,heb,λu hu=>by rcases List.mem_singleton.1 hu with rfl;exact ⟨hg,hgk,hgL⟩,λx hx=>by simp only[List.cons_append,List.nil_append,List.drop_succ_cons,List.drop_zero,List.mem_singleton] at hx;subst hx;exact ⟨hr,hw⟩⟩,hs.toS id (λ_ cs=>cs) (λ_ _=>rfl) (λ_ _=>rfl)⟩
  exact .inr (lost_of (us:=[]) (λ_ h=>by simp at h) (hdoom [last]))
 |cons u us =>
  obtain ⟨hu,huk,huL⟩:=hups u (List.mem_cons_self ..);have hus:∀ x∈us,fineF P wr L x∧x.b.kind=.normal∧L x.b.fn:=λx hx=>hups x (List.mem_cons_of_mem _ hx);have hwait':∀ x∈us++[bs],waits x:=hwait;cases hret:u.ret with
  |true =>
   obtain ⟨fn,c,hfn,hbody,_,hresn⟩:=hL _ huL;obtain ⟨ub,ua,ut,ur⟩:=u;simp only at hret huk hfn;subst hret;have hud:ua.defers=[]:=hu.defers;cases hres:(results fn ua.tmps).run P v with
   |halt h v' =>
    refine .inr ?_;have:∃ o w es,stepG P true (G (F.fr ⟨ub,ua,ut,true⟩ []) (us.map (·.fr [])++bs.fr tail :: [last])) v=.ended o w es:=by
     cases h<;>simp[F.fr_ret,G,stepG,unwind,Frame.at,hud,hfn,hres,GStep.after]
    obtain ⟨o,w,es,e⟩:=this;exact Or.inl ⟨o,w,alone_ended e⟩
   |ok x v' =>
    have hT:(results fn ua.tmps).runT P v #[]=(.ok x v',(results fn ua.tmps).events P v #[]):=by have:=runT_fst (P:=P) (results fn ua.tmps) v #[];rw[hres] at this;exact Prod.ext this rfl
    have hsim:=λz=>sim z _ (hresn ua.tmps) v;obtain ⟨v'',q1,hO,hev⟩:=hsim zn v #[] x v' _ (Rel.refl v) hT (λi _=>rfl);rw[hT] at q1;cases q1;have hok:∀ e∈seen P ub.fn ((results fn ua.tmps).events P v #[]),Okay wr e:=seen_okay λe he=>by rcases hev e he with h|h;simp at h;exact h.1
    have key:∀ (γ:List Item->List Frame->Frame×List Frame) (s':St),(∀ k cs,(us.map (·.fr [])++bs.fr k :: cs)=(γ k cs).1 :: (γ k cs).2)->(∀ k cs,s'.emb k cs=G ((γ k cs).1.finish x) (γ k cs).2) ->
     StepS P wr ⟨⟨ub,ua,ut,true⟩ :: us,bs⟩ s' v v' (seen P ub.fn ((results fn ua.tmps).events P v #[])):=λγ s' e1 e2=>by
     refine ⟨λk cs main=>?_,hok,hO.tape,hO.le,λz w hr hS=>?_⟩
     .rw[e2]
      show stepG P main (G (F.fr ⟨ub,ua,ut,true⟩ []) (us.map (·.fr [])++bs.fr k :: cs)) v=_;rw[e1,F.fr_ret];exact stepG_back huk hud hfn hres
     .obtain ⟨w',h1,h2,h5⟩:=hsim z w #[] x v' _ hr hT hS
      refine ⟨w',h2,λe he=>by rcases h5 e (mem_seen he) with h|h;simp at h;exact h.2,λk cs main=>?_⟩
      rw[e2];show stepG P main (G (F.fr ⟨ub,ua,ut,true⟩ []) (us.map (·.fr [])++bs.fr k :: cs)) w=_;have h3:(results fn ua.tmps).run P w=.ok x w':=by rw[<-runT_fst (P:=P) _ w #[],h1]
      have h4:(results fn ua.tmps).events P w #[]=(results fn ua.tmps).events P v #[]:=by show ((results fn ua.tmps).runT P w #[]).2=_;rw[h1]
      rw[e1,F.fr_ret,<-h4];exact stepG_back huk hud hfn h3
    cases us with
    |nil =>have hwb:waits bs:=hwait' bs (by simp);obtain ⟨g1,g2,g3⟩:=hb.got hwb x;exact .inl ⟨⟨[],bs.got x⟩,v',_,⟨g1,g2.trans heb,λ_ h=>by simp at h,λ_ h=>by simp at h⟩,key (λk cs=>(bs.fr k,cs)) _ (λ_ _=>rfl) (λk cs=>by simp only[finish_got hwb];rfl)⟩
    |cons u2 us2 =>
     have hw2:waits u2:=hwait' u2 (by simp);obtain ⟨h21,h22,h23⟩:=hus u2 (List.mem_cons_self ..);obtain ⟨g1,g2,g3⟩:=h21.got hw2 x;refine .inl ⟨⟨u2.got x :: us2,bs⟩,v',_,⟨hb,heb,λy hy=>?_,λy hy=>hwait' y ?_⟩,key (λk cs=>(u2.fr [],us2.map (·.fr [])++bs.fr k :: cs)) _ (λ_ _=>rfl) (λk cs=>by simp only[finish_got hw2];rfl)⟩
     .rcases List.mem_cons.1 hy with rfl|hy
      exact ⟨g1,by rw[g2];exact h22,by rw[g2];exact h23⟩;exact hus y (List.mem_cons_of_mem _ hy)
     exact List.mem_cons_of_mem _ hy
  |false =>
   have hcall:∀ y∈us.map (·.fr [])++[bs.fr tail],y.defers=[]:=λy hy=>by
    rcases List.mem_append.1 hy with hy|hy
    .obtain ⟨z,hz,rfl⟩:=List.mem_map.1 hy
     rw[fr_defers];exact (hus z hz).1.defers
    .rcases List.mem_singleton.1 hy with rfl
     rw[fr_defers];exact hb.defers
   by_cases hne:u.todo=[]
   .obtain ⟨ub,ua,ut,ur⟩:=u
    simp only at hret hne;subst hret hne;refine .inl ⟨⟨⟨ub,ua,[],true⟩ :: us,bs⟩,v,#[],⟨hb,heb,λy hy=>?_,hwait'⟩,?_⟩
    .rcases List.mem_cons.1 hy with rfl|hy
     exact ⟨⟨hu.items,hu.defers,hu.kind⟩,huk,huL⟩;exact hus y hy
    exact ⟨λk cs main=>stepG_end,λe he=>by simp at he,rfl,Qi _,λz w hr _=>⟨w,.refl hr,λe he=>by simp at he,λk cs main=>stepG_end⟩⟩
   .rcases local_step hu hret hne hE hL nil_exit with ⟨f',v',es,eb,hf',hs⟩|⟨g,v',es,hg,hgr,hgk,hgL,hw,hs⟩|hdoom
    .refine .inl ⟨⟨f' :: us,bs⟩,v',es,⟨hb,heb,λy hy=>?_,hwait'⟩,hs.toS (λ_=>[]) (λk cs=>us.map (·.fr [])++bs.fr k :: cs) (λ_ _=>rfl) (λ_ _=>rfl)⟩
     rcases List.mem_cons.1 hy with rfl|hy;exact ⟨hf',by rw[eb];exact huk,by rw[eb];exact huL⟩;exact hus y hy
    .refine .inl ⟨⟨g :: u :: us,bs⟩,v',es,⟨hb,heb,λy hy=>?_,λy hy=>?_⟩,hs.toS (λ_=>[]) (λk cs=>us.map (·.fr [])++bs.fr k :: cs) (λ_ _=>rfl) (λ_ _=>rfl)⟩
     .rcases List.mem_cons.1 hy with rfl|hy
      exact ⟨hg,hgk,hgL⟩;exact hups y hy
     .have hy':y∈u :: (us++[bs]):=hy
      rcases List.mem_cons.1 hy' with rfl|hy';exact ⟨hret,hw⟩;exact hwait' y hy'
    .refine .inr ?_
     have:=lost_of (P:=P) (v:=v) (fr:=u.fr []) (us:=us.map (·.fr [])++[bs.fr tail]) hcall (hdoom _);simpa [St.emb] using this
end
def GoesI (P:Program) (main:Bool) (D:World->World->Array Event->Prop) (Stop:Goroutine->World->Prop) (g:Goroutine) (w:World):Prop :=
 ∀ Q:Goroutine->World->Prop,(∀ g w,(∀ d,Stop g (w.at d))->Q g w) ->
   (∀ g w,g.status=.running->∀ (g':Nat->Goroutine) (w':Nat->World) (es:Nat->Array Event),(∀ d,stepG P main g (w.at d)=.go (g' d) (w' d) (es d))->(∀ d,D (w.at d) (w' d) (es d))->(∀ d,Q (g' d) (w' d))->Q g w)->Q g w
theorem GoesI.stop {P:Program}{main:Bool}{D:World->World->Array Event->Prop}{Stop:Goroutine->World->Prop}{g:Goroutine}{w:World}(h:∀ d,Stop g (w.at d)):GoesI P main D Stop g w:=λ_ h1 _=>h1 g w h
theorem GoesI.step {P:Program}{main:Bool}{D:World->World->Array Event->Prop}{Stop:Goroutine->World->Prop}{g:Goroutine}{w:World}(hs:g.status=.running) (g':Nat->Goroutine) (w':Nat->World) (es:Nat->Array Event) (h:∀ d,stepG P main g (w.at d)=.go (g' d) (w' d) (es d))
 (hD:∀ d,D (w.at d) (w' d) (es d)) (hn:∀ d,GoesI P main D Stop (g' d) (w' d)):GoesI P main D Stop g w:=λQ h1 h2=>h2 g w hs g' w' es h hD λd=>hn d Q h1 h2
theorem GoesI.induct {P:Program}{main:Bool}{D:World->World->Array Event->Prop}{Stop:Goroutine->World->Prop}{M:Goroutine->World->Prop}{g:Goroutine}(hg:GoesI P main D Stop g w)
 (stop:∀ g w,(∀ d,Stop g (w.at d))->M g w)
 (step:∀ g w,g.status=.running->∀ (g':Nat->Goroutine) (w':Nat->World) (es:Nat->Array Event),(∀ d,stepG P main g (w.at d)=.go (g' d) (w' d) (es d))->(∀ d,D (w.at d) (w' d) (es d))->(∀ d,GoesI P main D Stop (g' d) (w' d))->(∀ d,M (g' d) (w' d))->M g w):M g w :=
 (hg (λg w=>GoesI P main D Stop g w∧M g w) (λg w h=>⟨.stop h,stop g w h⟩) (λg w hs g' w' es h hD hn=>⟨.step hs g' w' es h hD λd=>(hn d).1,step g w hs g' w' es h hD (λd=>(hn d).1) λd=>(hn d).2⟩)).2
def onTape (w:World) (τ:Nat->Question->Nat) (d:Nat):World:={ w with tape:=τ,drawn:=d }
theorem lone_inj {fr fr':Frame}{cs cs':List Frame}(h:lone fr cs w=lone fr' cs' w'):fr=fr'∧cs=cs'∧w=w':=by simp only[lone,Machine.mk.injEq,Array.mk.injEq,List.cons.injEq,Goroutine.mk.injEq,and_true] at h;exact ⟨h.2.1,h.2.2,h.1⟩
def Arr (b:Frame) (Q:Exit->Act->World->Prop) (m:Machine):Prop :=
 (∃ a v,m=lone (b.at a tail) [last] v∧Q .normal a v)∨∃ (fr:Frame) (v:World),m=lone fr [last] v∧fr.mode=.returning∧Q .ret ⟨fr.tmps,fr.defers⟩ v
def exitOf (s:St):Exit:=if s.base.ret then .ret else .normal
section
variable {P:Program}{wr:Bool}{L:FuncId->Prop}{b:Frame}{Q:Exit->Act->World->Prop}
theorem emb_ne {u:F}{us:List F}{bs:F}{fr:Frame}(h:aloneM (St.emb ⟨u :: us,bs⟩ tail [last]) v=lone fr [last] w):False:=by have:=(lone_inj h).2.1;have hl:=congrArg List.length this;simp[St.emb,G] at hl
theorem arr_done {s:St}(hf:fineSt P wr L b s) (h:Arr b Q (aloneM (s.emb tail [last]) v)):Done s∧Q (exitOf s) s.base.a v:=by
 obtain ⟨ups,bs⟩:=s;cases ups with
 |cons u us =>
  rcases h with ⟨a,v',e,_⟩|⟨fr,v',e,_⟩
  exact (emb_ne e).elim;exact (emb_ne e).elim
 |nil =>
  obtain ⟨bb,ba,bt,br⟩:=bs;rcases h with ⟨a,v',e,hq⟩|⟨fr,v',e,hm,hq⟩
  .obtain ⟨e1,_,rfl⟩:=lone_inj e
   cases br with
   |true =>have:=congrArg Frame.mode e1;cases this
   |false =>
    have h1:bt++tail=tail:=congrArg Frame.todo e1;have h2:ba.tmps=a.tmps:=congrArg Frame.tmps e1;have h3:ba.defers=a.defers:=congrArg Frame.defers e1;have h4:bt=[]:=by have:=congrArg List.length h1;simp at this;exact this
    have h5:ba=a:=by cases ba;cases a;simp only at h2 h3;subst h2 h3;rfl
    subst h4 h5;exact ⟨⟨rfl,.inr rfl⟩,hq⟩
  .obtain ⟨e1,_,rfl⟩:=lone_inj e
   cases br with
   |false =>have:=congrArg Frame.mode e1;rw[hm] at this;cases this
   |true =>
    have h2:ba.tmps=fr.tmps:=congrArg Frame.tmps e1;have h3:ba.defers=fr.defers:=congrArg Frame.defers e1;have h5:ba=⟨fr.tmps,fr.defers⟩:=by cases ba;simp only at h2 h3;subst h2 h3;rfl
    subst h5;exact ⟨⟨rfl,.inl rfl⟩,hq⟩
theorem last_ended (P:Program) (w:World):∃ o,step P (lone last [] w)=.ended o w:=⟨_,alone_ended (es:=#[]) (by simp[G,stepG,stepG.exec,last];rfl)⟩
theorem ret_step {a:Act}(hd:a.defers=[]):(∃ o w,step P (lone { b.at a todo with mode:=.returning } [last] v)=.ended o w)∨∃ w,step P (lone { b.at a todo with mode:=.returning } [last] v)=.next (lone last [] w):=by
 have back:∀ (x:Value) (w:World),∃ es,doReturn P true { b.at a todo with mode:=.returning } [last] none x w=.go (G last []) w es:=λx w=>by refine ⟨#[],?_⟩;cases hk:b.kind<;>simp[doReturn,Frame.at,hk,G,last,Frame.finish]
 cases hf:P.funcs[b.fn]? with
 |none =>obtain ⟨es,e⟩:=back (a.tmps.getD 0 undef) v;refine .inr ⟨v,alone_go (es:=es) ?_⟩;rw[<-e];simp[G,stepG,unwind,Frame.at,hd,hf]
 |some fn =>
  cases hr:(results fn a.tmps).run P v with
  |ok x w =>
   obtain ⟨es,e⟩:=back x w;refine .inr ⟨w,alone_go (es:=seen P b.fn ((results fn a.tmps).events P v #[])++es) ?_⟩;have:stepG P true (G { b.at a todo with mode:=.returning } [last]) v=GStep.after (seen P b.fn ((results fn a.tmps).events P v #[])) (doReturn P true { b.at a todo with mode:=.returning } [last] none x w):=by simp[G,stepG,unwind,Frame.at,hd,hf,hr]
   rw[this,e];rfl
  |halt h w =>
   have:∃ o w' es,stepG P true (G { b.at a todo with mode:=.returning } [last]) v=.ended o w' es:=by
    cases h<;>simp[G,stepG,unwind,Frame.at,hd,hf,hr,GStep.after]
   obtain ⟨o,w',es,e⟩:=this;exact .inl ⟨o,w',alone_ended e⟩
theorem not_arr_last :¬ Arr b Q (lone last [] w):=by rintro (⟨a,v',e,_⟩|⟨fr,v',e,_⟩)<;>have:=(lone_inj e).2.1<;>cases this
theorem done_run {s:St}{m:Machine}(hf:fineSt P wr L b s) (hd:Done s) (hr:runN P n (aloneM (s.emb tail [last]) v)=.next m) (ha:Arr b Q m):Arr b Q (aloneM (s.emb tail [last]) v):=by
 cases n with
 |zero=>simp only[runN,Stepped.next.injEq] at hr;rw[hr];exact ha
 |succ n =>
  exfalso;obtain ⟨ups,bs⟩:=s;obtain ⟨h1,h2⟩:=hd;simp only at h1;subst h1;obtain ⟨bb,ba,bt,br⟩:=bs;have hdf:ba.defers=[]:=hf.base.defers;simp only[runN] at hr;cases br with
  |true =>
   rcases ret_step (P:=P) (b:=bb) (a:=ba) (todo:=bt++tail) (v:=v) hdf with ⟨o,w,e⟩|⟨w,e⟩
   .have e':step P (aloneM (St.emb ⟨[],⟨bb,ba,bt,true⟩⟩ tail [last]) v)=.ended o w:=e
    rw[e'] at hr;cases hr
   .have e':step P (aloneM (St.emb ⟨[],⟨bb,ba,bt,true⟩⟩ tail [last]) v)=.next (lone last [] w):=e
    rw[e'] at hr;simp only at hr;cases n with
    |zero=>simp only[runN,Stepped.next.injEq] at hr;subst hr;exact not_arr_last ha
    |succ n =>simp only[runN] at hr;obtain ⟨o,e2⟩:=last_ended P w;rw[e2] at hr;cases hr
  |false =>
   simp only[Qh,false_or] at h2;subst h2;have e':∃ o,step P (aloneM (St.emb ⟨[],⟨bb,ba,[],false⟩⟩ tail [last]) v)=.ended o v:=⟨_,alone_ended (es:=#[]) (by simp[G,stepG,stepG.exec,tail];rfl)⟩
   obtain ⟨o,e'⟩:=e';rw[e'] at hr;cases hr
theorem lost_run {g:Goroutine}{m:Machine}(hl:Lost P g v) (hr:runN P (n+1) (aloneM g v)=.next m) (ha:Arr b Q m):False:=by
 simp only[runN] at hr;rcases hl with ⟨o,w,e⟩|⟨us,fr,chain,w,e,hd,hu⟩
 rw[e] at hr;cases hr
 .rw[e] at hr
  obtain ⟨fr',cs',w',chain',rfl,hm⟩:=dead_run us fr chain w n m hd hu hr;rcases ha with ⟨a,v',e',_⟩|⟨fr'',v',e',hm',_⟩
  rw[(lone_inj e').1] at hm;cases hm;rw[(lone_inj e').1,hm'] at hm;cases hm
theorem rel_at (h:Rel z v w) (τ:Nat->Question->Nat) (d d':Nat):Rel z (onTape v τ d) (w.at d'):=h.re rfl rfl rfl rfl rfl rfl
theorem rel_self (v:World) (τ τ':Nat->Question->Nat) (d d':Nat):Rel zn (onTape v τ d) (onTape v τ' d'):=rel_none rfl rfl rfl
end
section
variable {P:Program}{z:Nat->Option Nat}{wr:Bool}{L:FuncId->Prop}{b:Frame}{Q:Exit->Act->World->Prop}{D:World->World->Array Event->Prop}{I:World->Prop}{main:Bool}{k:List Item}{cs:List Frame}
def Phi (P:Program) (b:Frame) (Q:Exit->Act->World->Prop) (s:St) (v:World) (c:Nat) (π:Nat->Question->Nat):Prop :=
 ∀ τ,(∀ j,j<c->τ j=π j)->∃ n m,runN P n (aloneM (s.emb tail [last]) (onTape v τ c))=.next m∧Arr b Q m
def Came (z:Nat->Option Nat) (b:Frame) (Q:Exit->Act->World->Prop) (I:World->Prop) (k:List Item) (cs:List Frame) (g:Goroutine) (w:World):Prop :=
 ∃ s v,g=St.emb s k cs∧Done s∧s.base.b=b∧s.base.a.defers=[]∧Rel z v w∧I v∧Q (exitOf s) s.base.a v
structure Pt where
 s:St
 v:World
 w:World
 c:Nat
 π:Nat->Question->Nat
structure Good (P:Program) (z:Nat->Option Nat) (wr:Bool) (L:FuncId->Prop) (b:Frame) (Q:Exit->Act->World->Prop) (D:World->World->Array Event->Prop) (I:World->Prop) (main:Bool) (k:List Item) (cs:List Frame) (x:Pt):Prop where
 fine:fineSt P wr L b x.s
 rel:Rel z x.v x.w
 inv:I x.v
 phi:Phi P b Q x.s x.v x.c x.π
 not:¬ GoesI P main D (Came z b Q I k cs) (x.s.emb k cs) x.w
structure Link (P:Program) (x y:Pt):Prop where
 le:x.c<=y.c
 pre:∀ j,j<x.c->y.π j=x.π j
 step:∀ τ,(∀ j,j<y.c->τ j=y.π j)->step P (aloneM (x.s.emb tail [last]) (onTape x.v τ x.c))=.next (aloneM (y.s.emb tail [last]) (onTape y.v τ y.c))
theorem emb_G (s:St) (k:List Item) (cs:List Frame):s.emb k cs=G (s.emb k cs).frame (s.emb k cs).callers:=by obtain ⟨ups,bs⟩:=s;cases ups<;>rfl
theorem inv_on (hI:∀ v v',Keeps wr v v'->I v->I v') (h:I v) (τ:Nat->Question->Nat) (d:Nat):I (onTape v τ d):=hI v _ (Keeps.of_rel ⟨rfl,rfl,rfl⟩) h
theorem good_not_done (hI:∀ v v',Keeps wr v v'->I v->I v') {x:Pt}(h:Good P z wr L b Q D I main k cs x):¬ Done x.s:=λhd=>by refine h.not (.stop λd=>?_);obtain ⟨n,m,hr,ha⟩:=h.phi x.π (λ_ _=>rfl);obtain ⟨_,hq⟩:=arr_done h.fine (done_run h.fine hd hr ha);exact ⟨x.s,onTape x.v x.π x.c,rfl,hd,h.fine.eb,h.fine.base.defers,rel_at h.rel _ _ _,inv_on hI h.inv _ _,hq⟩
theorem good_next (hE:∀ fr cs dy g w,∃ o w',early P fr cs dy g w=.ended o w') (hL:∀ g,L g->fineFn P wr L g) (hI:∀ v v',Keeps wr v v'->I v->I v')
 (hD:∀ v v' w w' es,I v->Rel z v w->Out z wr v v' w w'->(∀ e∈es,Okay wr e∧Spares z w' e)->D w w' es) {x:Pt} (h:Good P z wr L b Q D I main k cs x):∃ y,Good P z wr L b Q D I main k cs y∧Link P x y:=by
 have hnd:=good_not_done hI h;have one:∀ d,∃ q:St×World×World×Array Event,fineSt P wr L b q.1∧StepS P wr x.s q.1 (onTape x.v (λj=>if j<x.c then x.π j else x.w.tape (d+(j - x.c))) x.c) q.2.1 q.2.2.2 ∧
  Out z wr (onTape x.v (λj=>if j<x.c then x.π j else x.w.tape (d+(j - x.c))) x.c) q.2.1 (x.w.at d) q.2.2.1∧(∀ e∈q.2.2.2,Spares z q.2.2.1 e)∧stepG P main (x.s.emb k cs) (x.w.at d)=.go (q.1.emb k cs) q.2.2.1 q.2.2.2:=λd=>by
  rcases stack_step (v:=onTape x.v (λj=>if j<x.c then x.π j else x.w.tape (d+(j - x.c))) x.c) h.fine hnd hE hL with ⟨s',v',es,hf',hs⟩|hl
  .obtain ⟨w',ho,hsp,hg⟩:=hs.like z (x.w.at d) (rel_at h.rel _ _ _) (λi _=>by show (if x.c+i<x.c then x.π (x.c+i) else x.w.tape (d+(x.c+i - x.c)))=x.w.tape (d+i);rw[if_neg (by omega),show x.c+i - x.c=i by omega])
   exact ⟨(s',v',w',es),hf',hs,ho,hsp,hg k cs main⟩
  .exfalso
   obtain ⟨n,m,hr,ha⟩:=h.phi (λj=>if j<x.c then x.π j else x.w.tape (d+(j - x.c))) (λj hj=>by simp only[hj,if_true]);cases n with
   |zero=>simp only[runN,Stepped.next.injEq] at hr;subst hr;exact hnd (arr_done h.fine ha).1
   |succ n=>exact lost_run hl hr ha
 obtain ⟨f,hf⟩:=Classical.axiomOfChoice one;by_cases hall:∀ d,GoesI P main D (Came z b Q I k cs) ((f d).1.emb k cs) (f d).2.2.1
 .exfalso
  refine h.not (.step ?_ (λd=>(f d).1.emb k cs) (λd=>(f d).2.2.1) (λd=>(f d).2.2.2) (λd=>(hf d).2.2.2.2) (λd=>?_) hall);obtain ⟨⟨ups,bs⟩,_⟩:=x;cases ups<;>rfl
  .have ho:=(hf d).2.2.1
   exact hD (onTape x.v (λj=>if j<x.c then x.π j else x.w.tape (d+(j - x.c))) x.c) _ _ _ _ (inv_on hI h.inv _ _) (rel_at h.rel _ _ _) ho (λe he=>⟨(hf d).2.1.okay e he,(hf d).2.2.2.1 e he⟩)
 .have ⟨d,hd⟩:∃ d,¬ GoesI P main D (Came z b Q I k cs) ((f d).1.emb k cs) (f d).2.2.1:=Classical.not_forall.1 hall
  obtain ⟨hfine,hs,ho,_,hg⟩:=hf d;have hle:x.c<=(f d).2.1.drawn:=hs.le;have link:∀ τ,(∀ j,j<(f d).2.1.drawn->τ j=if j<x.c then x.π j else x.w.tape (d+(j - x.c)))->step P (aloneM (x.s.emb tail [last]) (onTape x.v τ x.c))=.next (aloneM ((f d).1.emb tail [last]) (onTape (f d).2.1 τ (f d).2.1.drawn)):=λτ hτ=>by
   obtain ⟨w'',h1,_,h2⟩:=hs.like zn (onTape x.v τ x.c) (rel_self _ _ _ _ _) (λi hi=>(hτ _ hi).symm);have e:w''=onTape (f d).2.1 τ (f d).2.1.drawn:=by have a1:=h1.rel.eq;have a2:w''.tape=τ:=h1.tape';have a3:w''.drawn=x.c+((f d).2.1.drawn - x.c):=h1.drawn;have a4:=h1.rel.os;have a5:=h1.rel.output;obtain ⟨wh,wt,wd,wo,wp⟩:=w'';simp only at a1 a2 a3 a4 a5;subst a1 a2 a4 a5;simp only[onTape,World.mk.injEq,true_and,and_true];exact a3.trans (by omega)
   rw[e] at h2;have h3:=h2 tail [last] true;rw[emb_G x.s,emb_G (f d).1] at h3;exact alone_go h3
  refine ⟨⟨(f d).1,(f d).2.1,(f d).2.2.1,(f d).2.1.drawn,λj=>if j<x.c then x.π j else x.w.tape (d+(j - x.c))⟩,⟨hfine,ho.rel,hI _ _ ho.keeps (inv_on hI h.inv _ _),λτ hτ=>?_,hd⟩,hle,λj hj=>by simp only[hj,if_true],link⟩;obtain ⟨n,m,hr,ha⟩:=h.phi τ (λj hj=>by rw[hτ j (Qp hj hle)];simp only[hj,if_true]);cases n with
  |zero=>simp only[runN,Stepped.next.injEq] at hr;subst hr;exact absurd (arr_done h.fine ha).1 hnd
  |succ n =>simp only[runN,link τ hτ] at hr;exact ⟨n,m,hr,ha⟩
theorem lift_goes (hE:∀ fr cs dy g w,∃ o w',early P fr cs dy g w=.ended o w') (hL:∀ g,L g->fineFn P wr L g) (hI:∀ v v',Keeps wr v v'->I v->I v')
 (hD:∀ v v' w w' es,I v->Rel z v w->Out z wr v v' w w'->(∀ e∈es,Okay wr e∧Spares z w' e)->D w w' es)
 {s:St} (hf:fineSt P wr L b s) (hr:Rel z v w) (hi:I v) (hphi:∀ τ,∃ n m,runN P n (aloneM (s.emb tail [last]) (onTape v τ 0))=.next m∧Arr b Q m):
 GoesI P main D (Came z b Q I k cs) (s.emb k cs) w:=by
 refine Classical.byContradiction λhnot=>?_
 let x0:Pt:=⟨s,v,w,0,λ_ _=>0⟩
 have g0:Good P z wr L b Q D I main k cs x0:=⟨hf,hr,hi,λτ _=>hphi τ,hnot⟩
 let nx:{x:Pt // Good P z wr L b Q D I main k cs x}->{x:Pt // Good P z wr L b Q D I main k cs x}:=λx=>⟨Classical.choose (good_next hE hL hI hD x.2),(Classical.choose_spec (good_next hE hL hI hD x.2)).1⟩
 let sq:Nat->{x:Pt // Good P z wr L b Q D I main k cs x}:=λn=>Nat.rec ⟨x0,g0⟩ (λ_ x=>nx x) n
 have hlink:∀ n,Link P (sq n).1 (sq (n+1)).1:=λn=>(Classical.choose_spec (good_next hE hL hI hD (sq n).2)).2;have mono:∀ n m,(sq n).1.c<=(sq (n+m)).1.c:=λn m=>by
  induction m with
  |zero=>exact Qi _
  |succ m ih=>exact Qk ih (hlink (n+m)).le
 have agree:∀ n m j,j<(sq n).1.c->(sq (n+m)).1.π j=(sq n).1.π j:=λn m j hj=>by
  induction m with
  |zero=>rfl
  |succ m ih=>exact ((hlink (n+m)).pre j (Qp hj (mono n m))).trans ih
 have agree2:∀ n m j,j<(sq n).1.c->j<(sq m).1.c->(sq m).1.π j=(sq n).1.π j:=λn m j h1 h2=>by rcases Nat.le_total n m with hle|hle;obtain ⟨t,rfl⟩:=Nat.exists_eq_add_of_le hle;exact agree n t j h1;obtain ⟨t,rfl⟩:=Nat.exists_eq_add_of_le hle;exact (agree m t j h2).symm
 let τ:Nat->Question->Nat:=λj=>open Classical in if h:∃ n,j<(sq n).1.c then (sq (Classical.choose h)).1.π j else λ_=>0
 have hτ:∀ n j,j<(sq n).1.c->τ j=(sq n).1.π j:=λn j hj=>by
  have hex:∃ n,j<(sq n).1.c:=⟨n,hj⟩
  have e:τ j=(sq (Classical.choose hex)).1.π j:=dif_pos hex;rw[e];exact agree2 n _ j hj (Classical.choose_spec hex)
 have hrun:∀ n,runN P n (aloneM (s.emb tail [last]) (onTape v τ 0))=.next (aloneM ((sq n).1.s.emb tail [last]) (onTape (sq n).1.v τ (sq n).1.c)):=λn=>by
  induction n with
  |zero=>rfl
  |succ n ih =>rw[runN_add P n 1,ih];simp only[runN,(hlink n).step τ (hτ (n+1))]
 obtain ⟨n,m,hr',ha⟩:=hphi τ;rw[hrun n] at hr';cases hr';exact good_not_done hI (sq n).2 (arr_done (sq n).2.fine ha).1
end
section
variable {P:Program}{wr:Bool}{α β:Type}
theorem dead_sbind:∀ {s:Sem α}{f:α->Sem β},dead P s->dead P (s.bind f):=by
 intro s;induction s with
 |pure a=>intro f h;exact h.elim
 |load m a k ih=>intro f h v;exact ih v (h v)
 |store m a v k ih=>intro f h;exact ih h
 |new o k ih=>intro f h r;exact ih r (h r)
 |shape r k ih=>intro f h s;exact ih s (h s)
 |freeze a n k ih=>intro f h;exact ih h
 |frozen a k ih=>intro f h b;exact ih b (h b)
 |getObj r k ih=>intro f h o;exact ih o (h o)
 |setObj r o k ih=>intro f h;exact ih h
 |choose q k ih=>intro f h n;exact ih n (h n)
 |sys c k ih=>intro f h;exact h.elim
 |program k ih=>intro f h;exact ih P h
 |mark m k ih=>intro f h;exact ih h
 |halt x=>intro f h;trivial
theorem calm_sbind:∀ {s:Sem α}{f:α->Sem β},calm P wr s->(∀ a,calm P wr (f a))->calm P wr (s.bind f):=by
 intro s;induction s with
 |pure a=>intro f _ hf;exact hf a
 |load m a k ih=>intro f h hf v;exact ih v (h v) hf
 |store m a v k ih=>intro f h hf;exact ⟨h.1,ih h.2 hf⟩
 |new o k ih=>intro f h hf r;exact ih r (h r) hf
 |shape r k ih=>intro f h hf s;exact ih s (h s) hf
 |freeze a n k ih=>intro f h hf;exact h.elim
 |frozen a k ih=>intro f h hf;exact ⟨λb=>ih b (h.1 b) hf,dead_sbind h.2⟩
 |getObj r k ih=>intro f h hf o;exact ih o (h o) hf
 |setObj r o k ih=>intro f h hf;exact h.elim
 |choose q k ih=>intro f h hf n;exact ih n (h n) hf
 |sys c k ih=>intro f h hf;exact h.elim
 |program k ih=>intro f h hf;exact ih P h hf
 |mark m k ih=>intro f h hf;exact ⟨h.1,ih h.2 hf⟩
 |halt x=>intro f h hf;exact h
theorem calm_bind {s:Sem α}{f:α->Sem β}(h:calm P wr s) (hf:∀ a,calm P wr (f a)):calm P wr (s >>= f):=calm_sbind h hf
theorem calm_map {s:Sem α}{f:α->β}(h:calm P wr s):calm P wr (Functor.map f s):=calm_sbind h λ_=>trivial
theorem calm_pure (a:α):calm P wr (pure a:Sem α):=trivial
theorem calm_stuck (s:String):calm P wr (stuck s:Sem α):=.inr (.inl ⟨_,rfl⟩)
theorem calm_unsupported (u:Unsupported):calm P wr (unsupported u:Sem α):=.inr (.inr ⟨_,rfl⟩)
theorem calm_goPanic (x:Value):calm P wr (goPanic x:Sem α):=.inl ⟨_,rfl⟩
theorem calm_program:calm P wr (program):=trivial
theorem calm_shape (r:Nat):calm P wr (shape r):=λ_=>trivial
theorem calm_getObj (r:Nat):calm P wr (getObj r):=λ_=>trivial
theorem calm_newObj (o:Obj):calm P wr (newObj o):=λ_=>trivial
theorem calm_choose (q:Question):calm P wr (choose q):=λ_=>trivial
theorem calm_load (a:Addr) (m:Mode):calm P wr (load a m):=λ_=>trivial
theorem calm_store (h:wr=true) (a:Addr) (v:Value) (m:Mode):calm P wr (store a v m):=⟨h,trivial⟩
theorem calm_askRoom (n:Nat):calm P wr (askRoom n):=by unfold askRoom;split;exact ⟨.inl rfl,trivial⟩;trivial
theorem calm_markExtern (f:FuncId):calm P wr (mark (.extern f)):=⟨.inr ⟨f,rfl⟩,trivial⟩
theorem calm_markRoom:calm P wr (mark .noRoom):=⟨.inl rfl,trivial⟩
theorem calm_typeInfo (t:TypeId):calm P wr (typeInfo t):=by unfold typeInfo;exact calm_bind calm_program λp=>by split;trivial;exact calm_stuck _
theorem calm_underlying (t:TypeId):calm P wr (underlying t):=by unfold underlying;exact calm_bind calm_program λp=>by split;trivial;exact calm_stuck _
theorem calm_zeroValue (t:TypeId):calm P wr (zeroValue t):=by unfold zeroValue;exact calm_bind (calm_typeInfo t) λp=>by split;trivial;exact calm_unsupported _
theorem calm_sizeOf (t:TypeId):calm P wr (sizeOf t):=calm_bind (calm_typeInfo t) λ_=>trivial
theorem calm_isAgg (t:TypeId):calm P wr (isAgg t):=by unfold isAgg;exact calm_bind (calm_underlying t) λp=>by split<;>trivial
theorem calm_elemOf (t:TypeId):calm P wr (elemOf t):=by unfold elemOf;exact calm_bind (calm_underlying t) λp=>by split;trivial;exact calm_stuck _
theorem calm_newRow (e:TypeId) (c:Array Value):calm P wr (newRow e c):=calm_bind (calm_newObj _) λ_=>trivial
theorem calm_newVar (t:TypeId) (v:Value):calm P wr (newVar t v):=calm_newRow _ _
theorem calm_runtimePanic (e:RuntimeError):calm P wr (runtimePanic e:Sem α):=by unfold runtimePanic;refine calm_bind calm_program λp=>?_;simp only;split<;>first|exact calm_goPanic _|exact calm_bind (calm_bind (calm_elemOf _) λ_=>calm_newVar _ _) λ_=>calm_goPanic _|exact calm_bind (calm_elemOf _) λ_=>calm_bind (calm_newVar _ _) λ_=>calm_goPanic _
theorem calm_boundsPanic (k:IntKind) (x y:Int) (c:BoundsCode):calm P wr (boundsPanic k x y c:Sem α):=by unfold boundsPanic;dsimp only;split;exact calm_bind (calm_map (calm_choose _)) λ_=>calm_runtimePanic _;exact calm_bind (calm_pure _) λ_=>calm_runtimePanic _
theorem calm_asIntOf (v:Value):calm P wr (asIntOf v):=by unfold asIntOf;split<;>first|trivial|exact calm_unsupported _|exact calm_stuck _
theorem calm_asInt (v:Value):calm P wr (asInt v):=calm_bind (calm_asIntOf v) λ_=>trivial
theorem calm_asBool (v:Value):calm P wr (asBool v):=by unfold asBool;split;trivial;exact calm_stuck _
theorem calm_asAgg (v:Value):calm P wr (asAgg v):=by unfold asAgg;split;trivial;exact calm_stuck _
theorem calm_asAddr (v:Value):calm P wr (asAddr v):=by unfold asAddr;split<;>first|trivial|exact calm_runtimePanic _|exact calm_stuck _
theorem calm_sureAddr (v:Value):calm P wr (Instr.sureAddr v):=by unfold Instr.sureAddr;split;trivial;exact calm_stuck _
theorem calm_loadCellsFrom (a:Addr):∀ (n i:Nat) (acc:Array Value),calm P wr (loadCellsFrom a i n acc)
 |0,_,_=>trivial
 |n+1,i,acc=>by unfold loadCellsFrom;exact calm_bind (calm_load _ _) λv=>calm_loadCellsFrom a n (i+1) _
theorem calm_loadCells (a:Addr) (n:Nat):calm P wr (loadCells a n):=calm_loadCellsFrom a n 0 _
theorem calm_storeCells (h:wr=true) (a:Addr):∀ (vs:List Value) (i:Nat),calm P wr (storeCells a vs i)
 | [],_=>trivial
 |v :: r,i=>by unfold storeCells;exact calm_bind (calm_store h _ _ _) λ_=>calm_storeCells h a r (i+1)
theorem calm_loadVar (t:TypeId) (a:Addr):calm P wr (loadVar t a):=by unfold loadVar;refine calm_bind (calm_isAgg t) λb=>?_;split;exact calm_bind (calm_sizeOf _) λ_=>calm_bind (calm_loadCells _ _) λ_=>trivial;exact calm_load _ _
theorem calm_storeVar (h:wr=true) (t:TypeId) (a:Addr) (v:Value):calm P wr (storeVar t a v):=by unfold storeVar;refine calm_bind (calm_sizeOf t) λn=>?_;dsimp only;split;exact calm_bind (calm_stuck _) λ_=>calm_storeCells h _ _ _;exact calm_storeCells h _ _ _
theorem calm_part (t:TypeId) (cs:Array Value) (o:Nat):calm P wr (part t cs o):=by
 unfold part;refine calm_bind (calm_isAgg t) λb=>?_;split;exact calm_bind (calm_sizeOf _) λ_=>trivial
 .split;trivial;exact calm_stuck _
theorem calm_mapLoop {f:α->Sem β}(h:∀ a,calm P wr (f a)):∀ (l:List α) (acc:List β),calm P wr (List.mapM.loop f l acc)
 | [],_=>trivial
 |a :: l,_=>calm_bind (h a) λ_=>calm_mapLoop h l _
theorem calm_listMapM {f:α->Sem β}(h:∀ a,calm P wr (f a)) (l:List α):calm P wr (l.mapM f):=calm_mapLoop h l []
theorem calm_listForIn {σ:Type}{f:α->σ->Sem (ForInStep σ)}(h:∀ a s,calm P wr (f a s)):∀ (l:List α) (s:σ),calm P wr (forIn l s f)
 | [],_=>trivial
 |a :: l,s=>by
  rw[List.forIn_cons];exact calm_bind (h a s) λr=>by cases r with
   |done b=>trivial
   |yield b=>exact calm_listForIn h l b
theorem calm_arrayForIn {σ:Type}{f:α->σ->Sem (ForInStep σ)}(h:∀ a s,calm P wr (f a s)) (l:Array α) (s:σ):calm P wr (forIn l s f):=by rw[<-Array.forIn_toList];exact calm_listForIn h _ _
theorem calm_arrayMapM {f:α->Sem β}(h:∀ a,calm P wr (f a)) (l:Array α):calm P wr (l.mapM f):=by rw[Array.mapM_eq_mapM_toList];exact calm_map (calm_listMapM h _)
end
end Go.Lift
