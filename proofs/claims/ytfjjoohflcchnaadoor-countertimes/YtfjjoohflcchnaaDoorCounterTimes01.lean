/- CounterTimes, whatever the schedule, the shards and the scripts: each Sum is what all Adds whose step was done come to at one time between its begin and its end; one that meets no Add takes two steps a shard. No conditions. Part 1 of 31. (Joined, by program, and written short, of: Lift1, Lift2.) -/
import GoSem.Step
import Derived.Control
import Derived.Conc.Beside
import Derived.Conc.Own3
import Derived.Conc.CompanyDraw
set_option linter.unusedSimpArgs false
set_option linter.unusedVariables false
set_option maxHeartbeats 4000000
set_option maxRecDepth 100000
namespace Go.Lift
open Go.Conc
def zap:Option Nat→Obj→Obj
 |some _,.cells c e _=>.cells c e (0,0)
 |_,o=>o
structure Rel (z:Nat→Option Nat) (v w:World):Prop where
 heap:∀ r,w.heap[r]? = (v.heap[r]?).map (zap (z r))
 kept:∀ r n c e f,z r=some n→v.heap[r]? = some (.cells c e f)→f=(n,n+1)
 low:∀ r n,z r=some n→r<v.heap.size
 os:w.os=v.os
 output:w.output=v.output
abbrev zn:Nat→Option Nat:=fun _=>none
theorem zap_none (o:Obj):zap none o=o:=by cases o<;>rfl
theorem rel_none {v w:World} (h1:w.heap=v.heap) (h2:w.os=v.os) (h3:w.output=v.output):Rel zn v w :=
 ⟨fun r=>by rw [h1];cases v.heap[r]?<;>simp [zap_none],fun _ _ _ _ _ h=>(nomatch h),fun _ _ h=>(nomatch h),h2,h3⟩
theorem Rel.eq {v w:World} (h:Rel zn v w):w.heap=v.heap:=by
 apply Array.ext_getElem?
 intro r
 rw [h.heap r]
 cases v.heap[r]?<;>simp [zap_none]
theorem Rel.refl (v:World):Rel zn v v:=rel_none rfl rfl rfl
section
variable {z:Nat→Option Nat} {v w:World}
theorem Rel.size (h:Rel z v w):w.heap.size=v.heap.size:=by
 have h1:∀ r,r<w.heap.size↔r<v.heap.size:=fun r=>by
  have:=h.heap r
  constructor
  ·intro hr
   rw [Array.getElem?_eq_getElem hr] at this
   cases e:v.heap[r]? with
   |none=>rw [e] at this;cases this
   |some o=>exact (Array.getElem?_eq_some_iff.1 e).1
  ·intro hr
   rw [Array.getElem?_eq_getElem hr] at this
   exact (Array.getElem?_eq_some_iff.1 this).1
 have:=h1 w.heap.size
 have:=h1 v.heap.size
 omega
theorem Rel.re (h:Rel z v w) {v' w':World} (h1:v'.heap=v.heap) (h2:w'.heap=w.heap) (h3:v'.os=v.os) (h4:w'.os=w.os) (h5:v'.output=v.output) (h6:w'.output=w.output):Rel z v' w' :=
 ⟨fun r=>by rw [h1,h2];exact h.heap r,fun r n c e f=>by rw [h1];exact h.kept r n c e f,fun r n=>by rw [h1];exact h.low r n,by rw [h3,h4];exact h.os,by rw [h5,h6];exact h.output⟩
theorem Rel.cell? (h:Rel z v w) (a:Addr):w.cell? a=v.cell? a:=by
 unfold World.cell?
 rw [h.heap]
 cases v.heap[a.block]? with
 |none=>rfl
 |some o=>cases z a.block<;>cases o<;>rfl
theorem Rel.shape? (h:Rel z v w) (r:Nat):w.shape? r=v.shape? r:=by
 unfold World.shape?
 rw [h.heap]
 cases v.heap[r]? with
 |none=>rfl
 |some o=>cases z r<;>cases o<;>rfl
theorem Rel.thawed (h:Rel z v w) {a:Addr} (hf:v.frozen? a=false):w.frozen? a=false:=by
 unfold World.frozen? at hf ⊢
 rw [h.heap]
 cases e:v.heap[a.block]? with
 |none=>rfl
 |some o =>
  rw [e] at hf
  cases z a.block with
  |none=>simpa [zap_none] using hf
  |some n=>cases o<;>simp [zap]
theorem Rel.spared (h:Rel z v w) {a:Addr} {x:Value} (hc:v.cell? a=some x) (hf:v.frozen? a=false):z a.block≠some a.off:=by
 intro hz
 unfold World.cell? at hc
 unfold World.frozen? at hf
 split at hc
 ·rename_i c e f hh
  have:=h.kept _ _ _ _ _ hz hh
  subst this
  rw [hh] at hf
  simp at hf
 ·cases hc
theorem Rel.obj (h:Rel z v w) (r:Nat):w.heap[r]? = v.heap[r]?∨∃ c e f,v.heap[r]? = some (.cells c e f)∧w.heap[r]? = some (.cells c e (0,0)):=by
 rw [h.heap r]
 cases e:v.heap[r]? with
 |none=>exact .inl rfl
 |some o =>
  cases z r with
  |none=>left;simp [zap_none]
  |some n=>cases o<;>first|exact .inl rfl|exact .inr ⟨_,_,_,rfl,rfl⟩
theorem Rel.setRow (h:Rel z v w) {r:Nat} {c c':Array Value} {e:TypeId} {f f':Nat×Nat} (hv:v.heap[r]? = some (.cells c e f)) (hw:w.heap[r]? = some (.cells c e f')) :
 Rel z { v with heap:=v.heap.setIfInBounds r (.cells c' e f) } { w with heap:=w.heap.setIfInBounds r (.cells c' e f') }:=by
 have hlt:=(Array.getElem?_eq_some_iff.1 hv).1
 refine ⟨fun r'=>?_,fun r' n c2 e2 f2 hz hh=>?_,fun r' n hz=>by simpa using h.low r' n hz,h.os,h.output⟩
 ·by_cases er:r=r'
  ·subst er
   simp only [Array.getElem?_setIfInBounds,h.size,hlt,if_true]
   have:=h.heap r
   rw [hv,hw] at this
   cases hz:z r with
   |none=>rw [hz] at this;simp only [Option.map_some,zap,Option.some.injEq,Obj.cells.injEq] at this ⊢;exact ⟨trivial,trivial,this.2.2⟩
   |some n=>rw [hz] at this;simp only [Option.map_some,zap,Option.some.injEq,Obj.cells.injEq] at this ⊢;exact ⟨trivial,trivial,this.2.2⟩
  ·simp only [Array.getElem?_setIfInBounds_ne er]
   exact h.heap r'
 ·by_cases er:r=r'
  ·subst er
   simp only [Array.getElem?_setIfInBounds,hlt,if_true,Option.some.injEq,Obj.cells.injEq] at hh
   obtain ⟨_,_,rfl⟩:=hh
   exact h.kept r n _ _ _ hz hv
  ·simp only [Array.getElem?_setIfInBounds_ne er] at hh
   exact h.kept r' n _ _ _ hz hh
theorem Rel.setCell (h:Rel z v w) (a:Addr) (x:Value):Rel z (v.setCell a x) (w.setCell a x):=by
 refine ⟨fun r=>?_,fun r n c e f hz hh=>?_,fun r n hz=>by simpa [World.setCell] using h.low r n hz,h.os,h.output⟩
 ·simp only [World.setCell,Array.getElem?_modify,h.heap r]
  split
  ·cases v.heap[r]? with
   |none=>rfl
   |some o=>cases z r<;>cases o<;>rfl
  ·rfl
 ·simp only [World.setCell,Array.getElem?_modify] at hh
  split at hh
  ·cases e0:v.heap[r]? with
   |none=>rw [e0] at hh;cases hh
   |some o =>
    rw [e0] at hh
    cases o<;>simp only [Option.map_some,Option.some.injEq,Obj.cells.injEq,reduceCtorEq] at hh
    obtain ⟨_,_,rfl⟩:=hh
    exact h.kept r n _ _ _ hz e0
  ·exact h.kept r n _ _ _ hz hh
theorem Rel.push (h:Rel z v w) (o:Obj):Rel z { v with heap:=v.heap.push o } { w with heap:=w.heap.push o }:=by
 refine ⟨fun r=>?_,fun r n c e f hz hh=>?_,fun r n hz=>by have:=h.low r n hz;simp;omega,h.os,h.output⟩
 ·simp only [Array.getElem?_push,h.size]
  split
  ·rename_i er
   have:z r=none:=by
    cases hz:z r with
    |none=>rfl
    |some n=>have:=h.low r n hz;omega
   rw [this]
   simp [zap_none]
  ·exact h.heap r
 ·have hlt:=h.low r n hz
  simp only [Array.getElem?_push] at hh
  rw [if_neg (by omega)] at hh
  exact h.kept r n _ _ _ hz hh
end
structure Keeps (wr:Bool) (v v':World):Prop where
 size:v.heap.size≤v'.heap.size
 old:wr=false→∀ (r:Nat) (o:Obj),v.heap[r]? = some o→v'.heap[r]? = some o
 objs:∀ (r:Nat) (o:Obj),v.heap[r]? = some o→(∀ c e f,o≠.cells c e f)→v'.heap[r]? = some o
 os:v'.os=v.os
 output:v'.output=v.output
theorem Keeps.refl (wr:Bool) (v:World):Keeps wr v v:=⟨Nat.le_refl _,fun _ _ _ h=>h,fun _ _ h _=>h,rfl,rfl⟩
theorem Keeps.trans {wr:Bool} {a b c:World} (h:Keeps wr a b) (k:Keeps wr b c):Keeps wr a c :=
 ⟨Nat.le_trans h.size k.size,fun e r o ho=>k.old e r o (h.old e r o ho),fun r o ho hc=>k.objs r o (h.objs r o ho hc) hc,k.os.trans h.os,k.output.trans h.output⟩
theorem Keeps.of_rel {wr:Bool} {v v':World} (h:v'.heap=v.heap∧v'.os=v.os∧v'.output=v.output):Keeps wr v v':=⟨by rw [h.1];exact Nat.le_refl _,fun _ r o ho=>by rw [h.1];exact ho,fun r o ho _=>by rw [h.1];exact ho,h.2.1,h.2.2⟩
def Okay (wr:Bool) (e:Event):Prop :=
 (∃ a,e.loc=.cell a∧(wr=false→e.write=false))∨(∃ r,e.loc=.obj r∧e.write=false)∨e.loc=.mark .noRoom∨∃ f,e.loc=.mark (.extern f)
def Soft (h:Halt):Prop:=(∃ x,h=.panic x)∨(∃ s,h=.stuck s)∨∃ u,h=.unsupported u
def dead (P:Program) {α:Type}:Sem α→Prop
 |.pure _=>False
 |.load _ _ k=>∀ v,dead P (k v)
 |.store _ _ _ k=>dead P k
 |.new _ k=>∀ r,dead P (k r)
 |.shape _ k=>∀ s,dead P (k s)
 |.freeze _ _ k=>dead P k
 |.frozen _ k=>∀ b,dead P (k b)
 |.getObj _ k=>∀ o,dead P (k o)
 |.setObj _ _ k=>dead P k
 |.choose _ k=>∀ n,dead P (k n)
 |.sys _ _=>False
 |.program k=>dead P (k P)
 |.mark _ k=>dead P k
 |.halt _=>True
def Spares (z:Nat→Option Nat) (w':World) (e:Event):Prop:=e.loc.low w'.heap.size∧∀ a,e.loc=.cell a→e.write=true→z a.block≠some a.off
theorem spares_read {z:Nat→Option Nat} {w':World} {e:Event} (h:e.write=false) (hl:e.loc.low w'.heap.size):Spares z w' e:=⟨hl,fun _ _ hw=>by rw [h] at hw;cases hw⟩
def calm (P:Program) (wr:Bool) {α:Type}:Sem α→Prop
 |.pure _=>True
 |.load _ _ k=>∀ v,calm P wr (k v)
 |.store _ _ _ k=>wr=true∧calm P wr k
 |.new _ k=>∀ r,calm P wr (k r)
 |.shape _ k=>∀ s,calm P wr (k s)
 |.freeze _ _ _=>False
 |.frozen _ k=>(∀ b,calm P wr (k b))∧dead P (k true)
 |.getObj _ k=>∀ o,calm P wr (k o)
 |.setObj _ _ _=>False
 |.choose _ k=>∀ n,calm P wr (k n)
 |.sys _ _=>False
 |.program k=>calm P wr (k P)
 |.mark m k=>(m=.noRoom∨∃ f,m=.extern f)∧calm P wr k
 |.halt h=>Soft h
def Same (v v' w:World):Prop:=∀ i,v.drawn+i<v'.drawn→v.tape (v.drawn+i)=w.tape (w.drawn+i)
structure Out (z:Nat→Option Nat) (wr:Bool) (v v' w w':World):Prop where
 rel:Rel z v' w'
 tape:v'.tape=v.tape
 tape':w'.tape=w.tape
 le:v.drawn≤v'.drawn
 drawn:w'.drawn=w.drawn+(v'.drawn - v.drawn)
 keeps:Keeps wr v v'
 still:∀ r n,z r=some n→v'.cell? ⟨r,n,none⟩=v.cell? ⟨r,n,none⟩
theorem Out.after {z:Nat→Option Nat} {wr:Bool} {v v₁ v' w w₁ w':World} (h:Out z wr v₁ v' w₁ w') (hst:∀ r n,z r=some n→v₁.cell? ⟨r,n,none⟩=v.cell? ⟨r,n,none⟩) (hk:Keeps wr v v₁) (ht:v₁.tape=v.tape) (ht':w₁.tape=w.tape) (hl:v.drawn≤v₁.drawn) (hd:w₁.drawn=w.drawn+(v₁.drawn - v.drawn)):Out z wr v v' w w' :=
 ⟨h.rel,h.tape.trans ht,h.tape'.trans ht',Nat.le_trans hl h.le,by have:=h.drawn;have:=h.le;omega,hk.trans h.keeps,fun r n hz=>(h.still r n hz).trans (hst r n hz)⟩
theorem Out.refl {z:Nat→Option Nat} {wr:Bool} {v w:World} (hr:Rel z v w):Out z wr v v w w:=⟨hr,rfl,rfl,Nat.le_refl _,by omega,Keeps.refl _ _,fun _ _ _=>rfl⟩
theorem runT_fst {P:Program} {α:Type}:∀ (s:Sem α) (w:World) (es:Array Event),(s.runT P w es).1=s.run P w:=by
 intro s
 induction s with
 |pure a=>intros;rfl
 |load m a k ih =>
  intro w es;simp only [Sem.runT,Sem.run]
  cases w.cell? a with
  |some v=>exact ih v w _
  |none=>cases w.farLoad P a (m==.atomic) with
   |ok r=>exact ih r.1 w _
   |error h=>rfl
 |store m a v k ih =>
  intro w es
  cases v<;>first|rfl|skip
  all_goals
   simp only [Sem.runT,Sem.run]
   cases w.cell? a with
   |some v =>
    simp only []
    split
    ·rfl
    ·exact ih _ _
   |none =>
    simp only []
    split
    ·exact ih _ _
    ·rfl
 |new o k ih=>intro w es;exact ih _ _ _
 |shape r k ih=>intro w es;exact ih _ _ _
 |freeze a n k ih=>intro w es;exact ih _ _
 |frozen a k ih=>intro w es;exact ih _ _ _
 |getObj r k ih =>
  intro w es;simp only [Sem.runT,Sem.run]
  split<;>first|rfl|exact ih _ _ _
 |setObj r o k ih =>
  intro w es;simp only [Sem.runT,Sem.run]
  split<;>first|rfl|exact ih _ _
 |choose q k ih =>
  intro w es;simp only [Sem.runT,Sem.run]
  split<;>exact ih _ _ _
 |sys c k ih=>intro w es;exact ih _ _ _
 |program k ih=>intro w es;exact ih _ _ _
 |mark m k ih=>intro w es;exact ih _ _
 |halt h=>intros;rfl
theorem seen_rel {P:Program} {z:Nat→Option Nat} {v w:World} (h:Rel z v w) (at_:Addr) (u:TypeId) (k:Addr) (b:Bool) :
 w.seen P at_ u k b=(v.seen P at_ u k b).map fun q=>(q.1,q.2.1,(if (z at_.block).isSome then (0,0) else q.2.2.1),q.2.2.2):=by
 unfold World.seen
 simp only [bind,Except.bind,pure,Except.pure,throw,throwThe,MonadExceptOf.throw]
 split
 ·rfl
 ·cases plainCell P P.depth u k.off with
  |none=>rfl
  |some like =>
   simp only
   cases like.bytes?.map (·.length) with
   |none=>rfl
   |some size =>
    simp only
    cases byteOfCell P P.depth u k.off with
    |none=>rfl
    |some β =>
     simp only
     rw [h.heap]
     cases v.heap[at_.block]? with
     |none=>rfl
     |some o =>
      cases o with
      |cells c e f =>
       cases hz:z at_.block <;>
       ·simp only [Option.map_some,zap,Option.isSome_none,Option.isSome_some,Bool.false_eq_true,if_false,if_true]
        split
        ·rfl
        ·cases byteOfCell P P.depth e (at_.off % P.cellsOf e) with
         |none=>rfl
         |some b0 =>
          simp only
          cases seenCells P c e (size+1) (at_.off / P.cellsOf e*P.bytesOf e+b0+β) (at_.off / P.cellsOf e*P.bytesOf e+b0+β+size) with
          |error e=>rfl
          |ok cells =>
           simp only
           split
           ·split
            ·split<;>rfl
            ·rfl
           ·rfl
      |_=>cases z at_.block<;>rfl
theorem farLoad_rel {P:Program} {z:Nat→Option Nat} {v w:World} (h:Rel z v w) (a:Addr) (b:Bool):w.farLoad P a b=v.farLoad P a b:=by
 have hv:∀ at_ u,w.viewLoad P at_ u a b=v.viewLoad P at_ u a b:=fun at_ u=>by
  unfold World.viewLoad
  rw [seen_rel h]
  cases v.seen P at_ u a b<;>rfl
 unfold World.farLoad World.noCell
 simp only [hv]
 rw [h.heap]
 cases v.heap[a.block]? with
 |none=>rfl
 |some o=>cases z a.block<;>cases o<;>rfl
theorem fold_mono {γ:Type} {N:γ→Prop} {M:Nat→Prop} {F G:Array Value→γ→Except String (Array Value)} (hFG:∀ c x c1,F c x=.ok c1→(G c x=.ok c1∧N x)∧∀ n:Nat,M n→c1[n]? = c[n]?):∀ (l:List γ) (c c':Array Value),
 l.foldlM (m:=Except String) F c=.ok c'→(l.foldlM (m:=Except String) G c=.ok c'∧∀ x∈l,N x)∧∀ n:Nat,M n→c'[n]? = c[n]?
 | [],c,c',h=>⟨⟨h,fun _ hx=>by cases hx⟩,fun n _=>by cases h;rfl⟩
 |x :: l,c,c',h=>by
  simp only [List.foldlM_cons,bind,Except.bind] at h ⊢
  cases hg:F c x with
  |error e=>rw [hg] at h;cases h
  |ok c1 =>
   rw [hg] at h
   obtain ⟨⟨j1,j2⟩,j3⟩:=hFG c x c1 hg
   obtain ⟨⟨i1,i2⟩,i3⟩:=fold_mono hFG l c1 c' h
   rw [j1]
   exact ⟨⟨i1,fun y hy=>by rcases List.mem_cons.1 hy with rfl|hy;exact j2;exact i2 y hy⟩,fun n hn=>(i3 n hn).trans (j3 n hn)⟩
theorem seen_heap {P:Program} {v:World} {at_:Addr} {u:TypeId} {k:Addr} {b:Bool} {q:Array Value×TypeId×(Nat×Nat)×Nat×Value×List (Nat×Nat×List UInt8)} (h:v.seen P at_ u k b=.ok q):v.heap[at_.block]? = some (.cells q.1 q.2.1 q.2.2.1):=by
 unfold World.seen at h
 simp only [bind,Except.bind,pure,Except.pure,throw,throwThe,MonadExceptOf.throw] at h
 split at h
 ·cases h
 ·cases h1:plainCell P P.depth u k.off with
  |none=>rw [h1] at h;cases h
  |some like =>
   rw [h1] at h
   simp only at h
   cases h2:like.bytes?.map (·.length) with
   |none=>rw [h2] at h;cases h
   |some size =>
    rw [h2] at h
    simp only at h
    cases h3:byteOfCell P P.depth u k.off with
    |none=>rw [h3] at h;cases h
    |some β =>
     rw [h3] at h
     simp only at h
     cases h4:v.heap[at_.block]? with
     |none=>rw [h4] at h;cases h
     |some o =>
      rw [h4] at h
      cases o with
      |cells c e f =>
       simp only at h
       split at h
       ·cases h
       ·split at h
        ·split at h
         ·cases h
         ·split at h
          ·split at h
           ·split at h
            ·cases h
            ·cases h;rfl
           ·cases h
          ·cases h;rfl
        ·cases h
      |_=>cases h
theorem viewStore_rel {P:Program} {z:Nat→Option Nat} {v w:World} (h:Rel z v w) {at_:Addr} {u:TypeId} {k:Addr} {x:Value} {b:Bool} {v':World} {l:List Addr} (hv:v.viewStore P at_ u k x b=.ok (v',l)) :
 ∃ w',w.viewStore P at_ u k x b=.ok (w',l)∧Rel z v' w'∧v'.tape=v.tape∧v'.drawn=v.drawn∧w'.tape=w.tape∧w'.drawn=w.drawn∧v'.heap.size=v.heap.size∧v'.os=v.os∧v'.output=v.output∧(∀ a∈l,z a.block≠some a.off)∧(∀ r n,z r=some n→v'.cell? ⟨r,n,none⟩=v.cell? ⟨r,n,none⟩)∧∀ (r:Nat) (o:Obj),v.heap[r]? = some o→(∀ c e f,o≠.cells c e f)→v'.heap[r]? = some o:=by
 unfold World.viewStore at hv ⊢
 rw [seen_rel h]
 simp only [bind,Except.bind,pure,Except.pure,throw,throwThe,MonadExceptOf.throw] at hv ⊢
 split at hv
 ·cases hv
 ·rename_i ht
  rw [if_neg ht]
  cases hq:v.seen P at_ u k b with
  |error e=>rw [hq] at hv;cases hv
  |ok q =>
   rw [hq] at hv
   have hh:=seen_heap hq
   obtain ⟨c,e,f,first,like,cells⟩:=q
   simp only [Except.map] at hv hh ⊢
   cases hb:x.bytes? with
   |none=>rw [hb] at hv;cases hv
   |some bytes =>
    rw [hb] at hv
    simp only at hv ⊢
    split at hv
    ·cases hv
    ·rename_i hlen
     rw [if_neg hlen]
     split at hv
     ·cases hv
     ·rename_i c' hfold
      cases hv
      have hw:w.heap[at_.block]? = some (.cells c e (if (z at_.block).isSome then (0,0) else f)):=by
       rw [h.heap,hh]
       cases z at_.block<;>rfl
      have st:∀ (F:Array Value→Nat×Nat×List UInt8→Except String (Array Value)),cells.foldlM (m:=Except String) F c=.ok c'→(∀ c x c1,F c x=.ok c1→¬ (f.1≤x.1∧x.1<f.2)∧∀ n:Nat,(f.1≤n∧n<f.2)→c1[n]? = c[n]?)→(∀ c x c1,F c x=.ok c1→¬ (f.1≤x.1∧x.1<f.2)∧∀ n:Nat,(f.1≤n∧n<f.2)→c1[n]? = c[n]?)∧(∀ x∈cells,¬ (f.1≤x.1∧x.1<f.2))∧∀ n:Nat,(f.1≤n∧n<f.2)→c'[n]? = c[n]?:=fun F hf hF=>by
       have:=fold_mono (N:=fun x:Nat×Nat×List UInt8=>¬ (f.1≤x.1∧x.1<f.2)) (M:=fun n=>f.1≤n∧n<f.2) (F:=F) (G:=F) (fun c x c1 h=>⟨⟨h,(hF c x c1 h).1⟩,(hF c x c1 h).2⟩) cells c c' hf
       exact ⟨hF,this.1.2,this.2⟩
      obtain ⟨stp,k2,k3⟩:=st _ hfold (fun c x c1 hF=>by
       obtain ⟨i,s,bs⟩:=x
       simp only at hF
       split at hF
       ·cases hF
       ·split at hF
        ·cases hF
        ·rename_i g2
         have g3:¬ (f.1≤i∧i<f.2):=by simpa using g2
         refine ⟨g3,fun n hn=>?_⟩
         split at hF
         ·split at hF
          ·cases hF
           exact Array.getElem?_setIfInBounds_ne (fun e=>g3 (by rw [e];exact hn))
          ·cases hF
         ·cases hF)
      rw [(fold_mono (N:=fun x:Nat×Nat×List UInt8=>¬ (f.1≤x.1∧x.1<f.2)) (M:=fun n=>f.1≤n∧n<f.2) (fun c x c1 hF=>?_) cells c c' hfold).1.1]
      rotate_left
      ·have hx:¬ (f.1≤x.1∧x.1<f.2)∧∀ n:Nat,(f.1≤n∧n<f.2)→c1[n]? = c[n]?:=stp c x c1 hF
       refine ⟨⟨?_,hx.1⟩,hx.2⟩
       rw [←hF]
       obtain ⟨i,s,bs⟩:=x
       have g3:¬ (f.1≤i∧i<f.2):=hx.1
       have g4:(decide (f.1≤i)&&decide (i<f.2))=false:=by simpa using g3
       have g5:(decide ((if (z at_.block).isSome then ((0,0):Nat×Nat) else f).1≤i)&&decide (i<(if (z at_.block).isSome then ((0,0):Nat×Nat) else f).2))=false:=by
        split
        ·simp
        ·exact g4
       simp only [g4,g5]
      refine ⟨_,rfl,h.setRow hh hw,rfl,rfl,rfl,rfl,by simp,rfl,rfl,fun a ha hz=>?_,fun r n hz=>?_,fun r o ho hc=>?_⟩
      ·obtain ⟨y,hy,rfl⟩:=List.mem_map.1 ha
       simp only at hz
       have:=h.kept _ _ _ _ _ hz hh
       subst this
       exact k2 y hy ⟨Nat.le_refl _,Nat.lt_succ_self _⟩
      ·unfold World.cell?
       by_cases er:at_.block=r
       ·subst er
        have:=h.kept _ _ _ _ _ hz hh
        subst this
        simp only [Array.getElem?_setIfInBounds,(Array.getElem?_eq_some_iff.1 hh).1,if_true,hh]
        exact k3 n ⟨Nat.le_refl _,Nat.lt_succ_self _⟩
       ·simp only [Array.getElem?_setIfInBounds_ne er]
      ·by_cases er:at_.block=r
       ·subst er
        rw [hh] at ho
        cases ho
        exact absurd rfl (hc _ _ _)
       ·simp only [Array.getElem?_setIfInBounds_ne er]
        exact ho
theorem farStore_rel {P:Program} {z:Nat→Option Nat} {v w:World} (h:Rel z v w) {a:Addr} {x:Value} {b:Bool} {v':World} {l:List Addr} (hv:v.farStore P a x b=.ok (v',l)) :
 ∃ w',w.farStore P a x b=.ok (w',l)∧Rel z v' w'∧v'.tape=v.tape∧v'.drawn=v.drawn∧w'.tape=w.tape∧w'.drawn=w.drawn∧v'.heap.size=v.heap.size∧v'.os=v.os∧v'.output=v.output∧(∀ a∈l,z a.block≠some a.off)∧(∀ r n,z r=some n→v'.cell? ⟨r,n,none⟩=v.cell? ⟨r,n,none⟩)∧∀ (r:Nat) (o:Obj),v.heap[r]? = some o→(∀ c e f,o≠.cells c e f)→v'.heap[r]? = some o:=by
 unfold World.farStore at hv ⊢
 cases hh:v.heap[a.block]? with
 |none=>rw [hh] at hv;cases hv
 |some o =>
  rw [hh] at hv
  cases o with
  |view at_ u =>
   simp only at hv
   cases hs:v.viewStore P at_ u a x b with
   |error e=>rw [hs] at hv;cases hv
   |ok r =>
    rw [hs] at hv
    cases hv
    obtain ⟨w',k1,k2⟩:=viewStore_rel h hs
    refine ⟨w',?_,k2⟩
    have:w.heap[a.block]? = some (.view at_ u):=by
     rw [h.heap,hh]
     cases z a.block<;>rfl
    rw [this]
    simp only [k1]
  |_=>cases hv
theorem still_set {z:Nat→Option Nat} {v:World} {a:Addr} {x:Value} (h:z a.block≠some a.off):∀ r n,z r=some n→(v.setCell a x).cell? ⟨r,n,none⟩=v.cell? ⟨r,n,none⟩:=by
 intro r n hz
 unfold World.cell? World.setCell
 by_cases e:a.block=r
 ·subst e
  simp only [Array.getElem?_modify,if_true]
  cases v.heap[a.block]? with
  |none=>rfl
  |some o =>
   cases o with
   |cells c t f =>
    have hne:a.off≠n:=fun en=>h (by rw [hz,en])
    by_cases hs:a.spot.isSome=true<;>simp [hs,Array.getElem?_setIfInBounds_ne hne]
   |_=>rfl
 ·simp only [Array.getElem?_modify,e,if_false]
theorem objs_set (v:World) (a:Addr) (x:Value):∀ (r:Nat) (o:Obj),v.heap[r]? = some o→(∀ c e f,o≠.cells c e f)→(v.setCell a x).heap[r]? = some o:=by
 intro r o ho hc
 simp only [World.setCell,Array.getElem?_modify]
 split
 ·rw [ho]
  cases o<;>first|rfl|exact absurd rfl (hc _ _ _)
 ·exact ho
theorem push_old {h:Array Obj} {o o':Obj} {r:Nat} (hr:h[r]? = some o):(h.push o')[r]? = some o:=by
 have:=(Array.getElem?_eq_some_iff.1 hr).1
 rw [Array.getElem?_push,if_neg (by omega)]
 exact hr
theorem cell_push {v:World} {o:Obj} {r n:Nat} (hr:r<v.heap.size):({ v with heap:=v.heap.push o }:World).cell? ⟨r,n,none⟩=v.cell? ⟨r,n,none⟩:=by
 unfold World.cell?
 simp only [Array.getElem?_push]
 rw [if_neg (by omega)]
theorem ends_not {P:Program} {α:Type}:∀ (s:Sem α),dead P s→∀ (v:World) (es:Array Event) (a:α) (v':World) (es':Array Event),s.runT P v es=(.ok a v',es')→False:=by
 intro s
 induction s with
 |pure a=>intro h;exact h.elim
 |load m a k ih =>
  intro h v es x v' es' e
  simp only [Sem.runT] at e
  split at e
  ·exact ih _ (h _) _ _ _ _ _ e
  ·split at e
   ·exact ih _ (h _) _ _ _ _ _ e
   ·cases e
 |store m a y k ih =>
  intro h v es x v' es' e
  cases y
  case agg=>cases e
  case tuple=>cases e
  all_goals
   simp only [Sem.runT] at e
   split at e
   ·split at e
    ·cases e
    ·exact ih h _ _ _ _ _ e
   ·split at e
    ·exact ih h _ _ _ _ _ e
    ·cases e
 |new o k ih=>intro h v es x v' es' e;exact ih _ (h _) _ _ _ _ _ e
 |shape r k ih=>intro h v es x v' es' e;exact ih _ (h _) _ _ _ _ _ e
 |freeze a n k ih=>intro h v es x v' es' e;exact ih h _ _ _ _ _ e
 |frozen a k ih=>intro h v es x v' es' e;exact ih _ (h _) _ _ _ _ _ e
 |getObj r k ih =>
  intro h v es x v' es' e
  simp only [Sem.runT] at e
  split at e
  ·cases e
  ·exact ih _ (h _) _ _ _ _ _ e
  ·cases e
 |setObj r o k ih =>
  intro h v es x v' es' e
  simp only [Sem.runT] at e
  split at e
  ·cases e
  ·exact ih h _ _ _ _ _ e
  ·cases e
 |choose q k ih =>
  intro h v es x v' es' e
  simp only [Sem.runT] at e
  split at e<;>exact ih _ (h _) _ _ _ _ _ e
 |sys c k ih=>intro h;exact h.elim
 |program k ih=>intro h v es x v' es' e;exact ih _ h _ _ _ _ _ e
 |mark m k ih=>intro h v es x v' es' e;exact ih h _ _ _ _ _ e
 |halt y=>intro h v es x v' es' e;cases e
theorem Out.lowS {z:Nat→Option Nat} {wr:Bool} {v v' w w':World} (h:Out z wr v v' w w') {r:Nat} (hr:r<v.heap.size):r<w'.heap.size:=by
 rw [h.rel.size]
 exact Nat.lt_of_lt_of_le hr h.keeps.size
theorem seen_low {P:Program} {v:World} {at_:Addr} {u:TypeId} {k:Addr} {b:Bool} {r:Array Value×TypeId×(Nat×Nat)×Nat×Value×List (Nat×Nat×List UInt8)} (h:v.seen P at_ u k b=.ok r):at_.block<v.heap.size:=by
 rcases Nat.lt_or_ge at_.block v.heap.size with hh|hh
 ·exact hh
 ·exfalso
  have e:v.heap[at_.block]? = none:=by simpa using hh
  unfold World.seen at h
  rw [e] at h
  simp only [bind,Except.bind,throw,throwThe,MonadExceptOf.throw,pure,Except.pure] at h
  repeat' split at h
  all_goals first|cases h|simp_all
theorem farLoad_low {P:Program} {v:World} {a:Addr} {b:Bool} {r:Value×List Addr} (h:v.farLoad P a b=.ok r):∀ c∈r.2,c.block<v.heap.size:=by
 unfold World.farLoad at h
 cases hh:v.heap[a.block]? with
 |none=>rw [hh] at h;cases h
 |some o =>
  rw [hh] at h
  cases o with
  |view at_ u =>
   simp only at h
   cases hs:v.viewLoad P at_ u a b with
   |error e=>rw [hs] at h;cases h
   |ok r' =>
    rw [hs] at h
    cases h
    unfold World.viewLoad at hs
    cases hq:v.seen P at_ u a b with
    |error e=>rw [hq] at hs;cases hs
    |ok q =>
     have hl:=seen_low hq
     rw [hq] at hs
     simp only [bind,Except.bind,throw,throwThe,MonadExceptOf.throw,pure,Except.pure] at hs
     split at hs
     ·cases hs
      intro c hc
      obtain ⟨x,_,rfl⟩:=List.mem_map.1 hc
      exact hl
     ·cases hs
  |_=>cases h
theorem farStore_low {P:Program} {v v':World} {a:Addr} {x:Value} {b:Bool} {l:List Addr} (h:v.farStore P a x b=.ok (v',l)):∀ c∈l,c.block<v.heap.size:=by
 unfold World.farStore at h
 cases hh:v.heap[a.block]? with
 |none=>rw [hh] at h;cases h
 |some o =>
  rw [hh] at h
  cases o with
  |view at_ u =>
   simp only at h
   cases hs:v.viewStore P at_ u a x b with
   |error e=>rw [hs] at h;cases h
   |ok r' =>
    rw [hs] at h
    cases h
    unfold World.viewStore at hs
    cases hq:v.seen P at_ u a b with
    |error e =>
     rw [hq] at hs
     simp only [bind,Except.bind,throw,throwThe,MonadExceptOf.throw,pure,Except.pure] at hs
     split at hs<;>cases hs
    |ok q =>
     have hl:=seen_low hq
     rw [hq] at hs
     simp only [bind,Except.bind,throw,throwThe,MonadExceptOf.throw,pure,Except.pure] at hs
     repeat' split at hs
     all_goals first
      |cases hs;done
      |(cases hs
        intro c hc
        obtain ⟨x,_,rfl⟩:=List.mem_map.1 hc
        exact hl)
  |_=>cases h
theorem sim {P:Program} {wr:Bool} {α:Type} (z:Nat→Option Nat):∀ (s:Sem α),calm P wr s→∀ (v w:World) (es:Array Event) (a:α) (v':World) (es':Array Event),Rel z v w →
 s.runT P v es=(.ok a v',es')→Same v v' w→∃ w',s.runT P w es=(.ok a w',es')∧Out z wr v v' w w'∧∀ e∈es',e∈es∨(Okay wr e∧Spares z w' e):=by
 intro s
 induction s with
 |pure a =>
  intro hn v w es x v' es' hr h hs
  simp only [Sem.runT,Prod.mk.injEq,Result.ok.injEq] at h
  obtain ⟨⟨rfl,rfl⟩,rfl⟩:=h
  exact ⟨w,rfl,.refl hr,fun e he=>.inl he⟩
 |load m a k ih =>
  intro hn v w es x v' es' hr h hs
  simp only [Sem.runT,hr.cell?,farLoad_rel hr] at h ⊢
  cases hc:v.cell? a with
  |some y =>
   rw [hc] at h
   obtain ⟨w',h1,h2,h3⟩:=ih y (hn y) v w _ x v' es' hr h hs
   refine ⟨w',h1,h2,fun e he=>?_⟩
   rcases h3 e he with h4|h4
   ·rcases Array.mem_push.1 h4 with h5|rfl
    ·exact .inl h5
    ·exact .inr ⟨.inl ⟨a,rfl,fun _=>rfl⟩,spares_read rfl (h2.lowS (World.block_lt_of_cell? _ _ hc))⟩
   ·exact .inr h4
  |none =>
   rw [hc] at h
   cases hfl:v.farLoad P a (m==.atomic) with
   |error e=>simp only [hfl] at h;cases h
   |ok r =>
    simp only [hfl] at h ⊢
    obtain ⟨w',h1,h2,h3⟩:=ih r.1 (hn r.1) v w _ x v' es' hr h hs
    refine ⟨w',h1,h2,fun e he=>?_⟩
    rcases h3 e he with h4|h4
    ·rcases Array.mem_append.1 h4 with h5|h5
     ·exact .inl h5
     ·obtain ⟨b,hb,rfl⟩:=Array.mem_map.1 h5
      exact .inr ⟨.inl ⟨b,rfl,fun _=>rfl⟩,spares_read rfl (h2.lowS (farLoad_low hfl b (by simpa using hb)))⟩
    ·exact .inr h4
 |store m a y k ih =>
  intro hn v w es x v' es' hr h hs
  obtain ⟨rfl,hn⟩:=hn
  cases y
  case agg=>simp [Sem.runT] at h
  case tuple=>simp [Sem.runT] at h
  all_goals
   simp only [Sem.runT,hr.cell?] at h ⊢
   cases hc:v.cell? a with
   |none =>
    rw [hc] at h
    simp only [] at h ⊢
    split at h
    rotate_left
    ·cases h
    ·rename_i v₁ l e1
     obtain ⟨w₁,e2,r1,t1,d1,t2,d2,z1,o1,p1,sp,st,ob⟩:=farStore_rel (P:=P) hr e1
     rw [e2]
     simp only [] at h ⊢
     obtain ⟨w',h1,h2,h3⟩:=ih hn v₁ w₁ _ x v' es' r1 h (fun i hi=>by rw [t1,t2,d1,d2];exact hs i (by omega))
     refine ⟨w',h1,h2.after st ⟨by omega,fun e=>absurd e (by simp),ob,o1,p1⟩ t1 t2 (by omega) (by omega),fun e he=>?_⟩
     rcases h3 e he with h4|h4
     ·rcases Array.mem_append.1 h4 with h5|h5
      ·exact .inl h5
      ·obtain ⟨b,hb,rfl⟩:=Array.mem_map.1 h5
       exact .inr ⟨.inl ⟨b,rfl,fun e=>by cases e⟩,h2.lowS (by rw [z1];exact farStore_low e1 b (by simpa using hb)),fun a' e _=>by cases e;exact sp _ (by simpa using hb)⟩
     ·exact .inr h4
   |some z =>
    rw [hc] at h
    simp only [] at h ⊢
    cases hf:v.frozen? a with
    |true=>rw [hf] at h;simp at h
    |false =>
     rw [hf] at h
     simp only [Bool.false_eq_true,if_false,hr.thawed hf] at h ⊢
     obtain ⟨w',h1,h2,h3⟩:=ih hn (v.setCell a _) (w.setCell a _) _ x v' es' (hr.setCell a _) h hs
     refine ⟨w',h1,h2.after (still_set (hr.spared hc hf)) ⟨by simp [World.setCell],fun e=>absurd e (by simp),objs_set _ _ _,rfl,rfl⟩ rfl rfl (Nat.le_refl _) (by simp [World.setCell]),fun e he=>?_⟩
     rcases h3 e he with h4|h4
     ·rcases Array.mem_push.1 h4 with h5|rfl
      ·exact .inl h5
      ·exact .inr ⟨.inl ⟨a,rfl,fun e=>by cases e⟩,h2.lowS (by have:=World.block_lt_of_cell? _ _ hc;simpa [World.setCell] using this),fun a' e _=>by cases e;exact hr.spared hc hf⟩
     ·exact .inr h4
 |new o k ih =>
  intro hn v w es x v' es' hr h hs
  simp only [Sem.runT,hr.size] at h ⊢
  obtain ⟨w',h1,h2,h3⟩:=ih _ (hn _) { v with heap:=v.heap.push o } { w with heap:=w.heap.push o } es x v' es' (hr.push o) h hs
  refine ⟨w',h1,h2.after (fun r n hz=>cell_push (hr.low r n hz)) ⟨by simp,fun _ r x hx=>push_old hx,fun r x hx _=>push_old hx,rfl,rfl⟩ rfl rfl (Nat.le_refl _) (by simp),h3⟩
 |shape r k ih =>
  intro hn v w es x v' es' hr h hs
  simp only [Sem.runT,hr.shape?] at h ⊢
  exact ih _ (hn _) v w es x v' es' hr h hs
 |freeze a n k ih=>intro hn;exact hn.elim
 |frozen a k ih =>
  intro hn v w es x v' es' hr h hs
  simp only [Sem.runT] at h ⊢
  cases hf:v.frozen? a with
  |true=>rw [hf] at h;exact (ends_not _ hn.2 _ _ _ _ _ h).elim
  |false =>
   rw [hf] at h
   rw [hr.thawed hf]
   exact ih _ (hn.1 _) v w es x v' es' hr h hs
 |getObj r k ih =>
  intro hn v w es x v' es' hr h hs
  simp only [Sem.runT] at h
  split at h
  ·cases h
  ·rename_i o ho1 ho
   have hw:w.heap[r]? = some o:=by
    rw [hr.heap,ho]
    cases z r with
    |none=>simp [zap_none]
    |some n=>cases o<;>first|rfl|exact absurd rfl (ho1 _ _ _)
   have hm:(Sem.getObj r k).runT P w es=Sem.runT P (k o) w (es.push { loc:=Loc.obj r,write:=false,sync:=o.isChan }):=by
    simp only [Sem.runT,hw]
   rw [hm]
   obtain ⟨w',h1,h2,h3⟩:=ih o (hn o) v w _ x v' es' hr h hs
   refine ⟨w',h1,h2,fun e he=>?_⟩
   rcases h3 e he with h4|h4
   ·rcases Array.mem_push.1 h4 with h5|rfl
    ·exact .inl h5
    ·exact .inr ⟨.inr (.inl ⟨r,rfl,rfl⟩),spares_read rfl (h2.lowS (Array.getElem?_eq_some_iff.1 ho).1)⟩
   ·exact .inr h4
  ·cases h
 |setObj r o k ih=>intro hn;exact hn.elim
 |choose q k ih =>
  intro hn v w es x v' es' hr h hs
  simp only [Sem.runT] at h ⊢
  cases hq:q.forced with
  |true =>
   rw [hq] at h
   simp only [if_true] at h ⊢
   exact ih _ (hn _) v w es x v' es' hr h hs
  |false =>
   rw [hq] at h
   simp only [Bool.false_eq_true,if_false] at h ⊢
   have key:∃ w',(k (q.cut (v.tape v.drawn q))).runT P { w with drawn:=w.drawn+1 } es=(.ok x w',es')∧Out z wr { v with drawn:=v.drawn+1 } v' { w with drawn:=w.drawn+1 } w'∧∀ e∈es',e∈es∨(Okay wr e∧Spares z w' e) :=
    ih _ (hn _) { v with drawn:=v.drawn+1 } { w with drawn:=w.drawn+1 } es x v' es' (hr.re rfl rfl rfl rfl rfl rfl) h (fun i hi=>by
     have:=hs (i+1) (by simp only at hi;omega)
     simp only
     rw [show v.drawn+1+i=v.drawn+(i+1) by omega,show w.drawn+1+i=w.drawn+(i+1) by omega];exact this)
   obtain ⟨w',h1,h2,h3⟩:=key
   have hlt:v.drawn<v'.drawn:=h2.le
   have e0:v.tape v.drawn=w.tape w.drawn:=hs 0 (by simpa using hlt)
   rw [←e0]
   exact ⟨w',h1,h2.after (fun _ _ _=>rfl) (Keeps.of_rel ⟨rfl,rfl,rfl⟩) rfl rfl (by simp) (by simp),h3⟩
 |sys c k ih=>intro hn;exact hn.elim
 |program k ih =>
  intro hn v w es x v' es' hr h hs
  exact ih _ hn v w es x v' es' hr h hs
 |mark m k ih =>
  intro hn v w es x v' es' hr h hs
  simp only [Sem.runT] at h ⊢
  obtain ⟨w',h1,h2,h3⟩:=ih hn.2 v w _ x v' es' hr h hs
  refine ⟨w',h1,h2,fun e he=>?_⟩
  rcases h3 e he with h4|h4
  ·rcases Array.mem_push.1 h4 with h5|rfl
   ·exact .inl h5
   ·rcases hn.1 with rfl|⟨f,rfl⟩
    ·exact .inr ⟨.inr (.inr (.inl rfl)),spares_read rfl trivial⟩
    ·exact .inr ⟨.inr (.inr (.inr ⟨f,rfl⟩)),spares_read rfl trivial⟩
  ·exact .inr h4
 |halt y =>
  intro hn v w es x v' es' hr h hs
  simp [Sem.runT] at h
theorem farLoad_soft {P:Program} {v:World} {a:Addr} {b:Bool} {h:Halt} (e:v.farLoad P a b=.error h):Soft h:=by
 unfold World.farLoad World.noCell at e
 repeat' split at e
 all_goals first|(cases e;exact .inr (.inr ⟨_,rfl⟩))|(cases e;exact .inr (.inl ⟨_,rfl⟩))|cases e
theorem farStore_soft {P:Program} {v:World} {a:Addr} {x:Value} {b:Bool} {h:Halt} (e:v.farStore P a x b=.error h):Soft h:=by
 unfold World.farStore World.noCell at e
 repeat' split at e
 all_goals first|(cases e;exact .inr (.inr ⟨_,rfl⟩))|(cases e;exact .inr (.inl ⟨_,rfl⟩))|cases e
theorem calm_halt {P:Program} {wr:Bool} {α:Type}:∀ (s:Sem α),calm P wr s→∀ (v:World) (h:Halt) (v':World),s.run P v=.halt h v'→Soft h:=by
 intro s
 induction s with
 |pure a=>intro _ v h v' e;cases e
 |load m a k ih =>
  intro hn v h v' e
  simp only [Sem.run] at e
  cases hc:v.cell? a with
  |some y=>rw [hc] at e;exact ih y (hn y) v h v' e
  |none =>
   rw [hc] at e
   cases hf:v.farLoad P a (m==.atomic) with
   |ok r=>simp only [hf] at e;exact ih _ (hn _) v h v' e
   |error x=>simp only [hf] at e;cases e;exact farLoad_soft hf
 |store m a y k ih =>
  intro hn v h v' e
  cases y
  case agg=>cases e;exact .inr (.inl ⟨_,rfl⟩)
  case tuple=>cases e;exact .inr (.inl ⟨_,rfl⟩)
  all_goals
   simp only [Sem.run] at e
   cases hc:v.cell? a with
   |none =>
    rw [hc] at e
    simp only [] at e
    split at e
    ·exact ih hn.2 _ h v' e
    ·rename_i e';cases e;exact farStore_soft e'
   |some z =>
    rw [hc] at e
    simp only [] at e
    split at e
    ·cases e;exact .inr (.inr ⟨_,rfl⟩)
    ·exact ih hn.2 _ h v' e
 |new o k ih=>intro hn v h v' e;exact ih _ (hn _) _ h v' e
 |shape r k ih=>intro hn v h v' e;exact ih _ (hn _) v h v' e
 |freeze a n k ih=>intro hn;exact hn.elim
 |frozen a k ih=>intro hn v h v' e;exact ih _ (hn.1 _) v h v' e
 |getObj r k ih =>
  intro hn v h v' e
  simp only [Sem.run] at e
  split at e
  ·cases e;exact .inr (.inl ⟨_,rfl⟩)
  ·exact ih _ (hn _) v h v' e
  ·cases e;exact .inr (.inl ⟨_,rfl⟩)
 |setObj r o k ih=>intro hn;exact hn.elim
 |choose q k ih =>
  intro hn v h v' e
  simp only [Sem.run] at e
  split at e
  ·exact ih _ (hn _) v h v' e
  ·exact ih _ (hn _) _ h v' e
 |sys c k ih=>intro hn;exact hn.elim
 |program k ih=>intro hn v h v' e;exact ih _ hn v h v' e
 |mark m k ih=>intro hn v h v' e;exact ih hn.2 v h v' e
 |halt y =>
  intro hn v h v' e
  cases e
  exact hn
section
variable (P:Program) (wr:Bool) (L:FuncId→Prop)
def fineOp (o:Oper):Prop:=∀ a:Act,calm P wr (execOp a.eval o) ∧
 ∀ w x w',(execOp a.eval o).run P w=.ok x w'→(∃ v,x=.value v)∨x=.skip∨∃ f args,x=.enter f args∧L f
def fineCode:Code→Prop
 |.skip|.ret|.label _|.exit _=>True
 |.seq a b=>fineCode a∧fineCode b
 |.cond _ a b=>fineCode a∧fineCode b
 |.block _ c=>fineCode c
 |.loop c=>fineCode c
 |.region _ ops _=>∀ o∈ops,fineOp P wr L o
 |_=>False
def fineItem:Item→Prop
 |.code c=>fineCode P wr L c
 |.inBlock _=>True
 |.inLoop c=>fineCode P wr L c
 |.inRegion ops _=>∀ o∈ops,fineOp P wr L o
 |_=>False
def fineFn (f:FuncId):Prop:=∃ fn c,P.funcs[f]? = some fn∧fn.body=some c∧fineCode P wr L c∧∀ tmps,calm P wr (results fn tmps)
end
structure F where
 b:Frame
 a:Act
 todo:List Item
 ret:Bool
def F.fr (f:F) (k:List Item):Frame:=if f.ret then { f.b.at f.a (f.todo++k) with mode:=.returning } else f.b.at f.a (f.todo++k)
structure fineF (P:Program) (wr:Bool) (L:FuncId→Prop) (f:F):Prop where
 items:∀ x∈f.todo,fineItem P wr L x
 defers:f.a.defers=[]
 kind:f.b.kind≠.early
theorem exitTo_app {id:Nat}:∀ {l l':List Item} (k:List Item),exitTo id l=some l'→exitTo id (l++k)=some (l'++k)
 |.inBlock id' :: l,l',k,h=>by
  simp only [exitTo,List.cons_append] at h ⊢
  split at h
  ·rename_i e;simp only [e,if_true];cases h;rfl
  ·rename_i e;simp only [e];exact exitTo_app k h
 |.code _ :: l,l',k,h=>exitTo_app (l:=l) k h
 |.inLoop _ :: l,l',k,h=>exitTo_app (l:=l) k h
 |.inScope _ :: l,l',k,h=>exitTo_app (l:=l) k h
 |.inRegion _ _ :: l,l',k,h=>exitTo_app (l:=l) k h
 |.inRangeFunc _ :: l,l',k,h=>exitTo_app (l:=l) k h
 |.endRangeFunc _ :: l,l',k,h=>exitTo_app (l:=l) k h
 |.beginRound :: l,l',k,h=>exitTo_app (l:=l) k h
 |.call .. :: l,l',k,h=>exitTo_app (l:=l) k h
 |.extern .. :: l,l',k,h=>exitTo_app (l:=l) k h
 | [],_,_,h=>by cases h
theorem exitTo_none {id:Nat} {kk:List Item} (hk:exitTo id kk=none):∀ {l:List Item},exitTo id l=none→exitTo id (l++kk)=none
 |.inBlock id' :: l,h=>by
  simp only [exitTo,List.cons_append] at h ⊢
  split at h
  ·cases h
  ·rename_i e;simp only [e];exact exitTo_none hk h
 |.code _ :: l,h=>exitTo_none hk (l:=l) h
 |.inLoop _ :: l,h=>exitTo_none hk (l:=l) h
 |.inScope _ :: l,h=>exitTo_none hk (l:=l) h
 |.inRegion _ _ :: l,h=>exitTo_none hk (l:=l) h
 |.inRangeFunc _ :: l,h=>exitTo_none hk (l:=l) h
 |.endRangeFunc _ :: l,h=>exitTo_none hk (l:=l) h
 |.beginRound :: l,h=>exitTo_none hk (l:=l) h
 |.call .. :: l,h=>exitTo_none hk (l:=l) h
 |.extern .. :: l,h=>exitTo_none hk (l:=l) h
 | [],_=>hk
theorem exitTo_mem {id:Nat}:∀ {l l':List Item},exitTo id l=some l'→∀ x∈l',x∈l
 |.inBlock id' :: l,l',h,x,hx=>by
  simp only [exitTo] at h
  split at h
  ·cases h;exact List.mem_cons_of_mem _ hx
  ·exact List.mem_cons_of_mem _ (exitTo_mem h x hx)
 |.code _ :: l,l',h,x,hx=>List.mem_cons_of_mem _ (exitTo_mem (l:=l) h x hx)
 |.inLoop _ :: l,l',h,x,hx=>List.mem_cons_of_mem _ (exitTo_mem (l:=l) h x hx)
 |.inScope _ :: l,l',h,x,hx=>List.mem_cons_of_mem _ (exitTo_mem (l:=l) h x hx)
 |.inRegion _ _ :: l,l',h,x,hx=>List.mem_cons_of_mem _ (exitTo_mem (l:=l) h x hx)
 |.inRangeFunc _ :: l,l',h,x,hx=>List.mem_cons_of_mem _ (exitTo_mem (l:=l) h x hx)
 |.endRangeFunc _ :: l,l',h,x,hx=>List.mem_cons_of_mem _ (exitTo_mem (l:=l) h x hx)
 |.beginRound :: l,l',h,x,hx=>List.mem_cons_of_mem _ (exitTo_mem (l:=l) h x hx)
 |.call .. :: l,l',h,x,hx=>List.mem_cons_of_mem _ (exitTo_mem (l:=l) h x hx)
 |.extern .. :: l,l',h,x,hx=>List.mem_cons_of_mem _ (exitTo_mem (l:=l) h x hx)
 | [],_,h,_,_=>by cases h
structure Step (P:Program) (wr:Bool) (f:F) (T:List Item→List Frame→Goroutine) (v v':World) (es:Array Event):Prop where
 here:∀ k cs main,stepG P main (G (f.fr k) cs) v=.go (T k cs) v' es
 okay:∀ e∈es,Okay wr e
 tape:v'.tape=v.tape
 le:v.drawn≤v'.drawn
 like:∀ z w,Rel z v w→Same v v' w→∃ w',Out z wr v v' w w'∧(∀ e∈es,Spares z w' e)∧∀ k cs main,stepG P main (G (f.fr k) cs) w=.go (T k cs) w' es
theorem Step.ctl {P:Program} {wr:Bool} {f:F} {T:List Item→List Frame→Goroutine} {v:World} (h:∀ k cs main w,stepG P main (G (f.fr k) cs) w=.go (T k cs) w #[]):Step P wr f T v v #[] :=
 ⟨fun k cs main=>h k cs main v,fun e he=>by simp at he,rfl,Nat.le_refl _,fun z w hr _=>⟨w,.refl hr,fun e he=>by simp at he,fun k cs main=>h k cs main w⟩⟩
def Doomed (cs:List Frame) (s:GStep):Prop:=(∃ o w es,s=.ended o w es)∨∃ (fr:Frame) (chain:List PanicEntry) (w:World) (es:Array Event),s=.go (G { fr with mode:=.panicking chain } cs) w es∧fr.defers=[]
theorem seen_okay {P:Program} {wr:Bool} {fn:FuncId} {es:Array Event} (h:∀ e∈es,Okay wr e):∀ e∈seen P fn es,Okay wr e:=fun e he=>h e (mem_seen he)
section
variable {P:Program} {wr:Bool} {L:FuncId→Prop} {f:F} {v:World}
theorem F.fr_run {b:Frame} {a:Act} {todo k:List Item}:(F.mk b a todo false).fr k=b.at a (todo++k):=rfl
theorem F.fr_ret {b:Frame} {a:Act} {todo k:List Item}:(F.mk b a todo true).fr k={ b.at a (todo++k) with mode:=.returning }:=rfl
theorem local_step (hf:fineF P wr L f) (hr:f.ret=false) (hne:f.todo≠[]) (hE:∀ fr cs dy g w,∃ o w',early P fr cs dy g w=.ended o w') (hL:∀ g,L g→fineFn P wr L g) {kk:List Item} (hkk:∀ id,exitTo id kk=none) :
 (∃ f' v' es,f'.b=f.b∧fineF P wr L f'∧Step P wr f (fun k cs=>G (f'.fr k) cs) v v' es) ∨
 (∃ g v' es,fineF P wr L g∧g.ret=false∧g.b.kind=.normal∧L g.b.fn∧(∃ ops i rest more,f.todo=.inRegion ops (i :: rest) :: more)∧Step P wr f (fun k cs=>G (g.fr []) (f.fr k :: cs)) v v' es) ∨
 ∀ cs,Doomed cs (stepG P true (G (f.fr kk) cs) v):=by
 obtain ⟨b,a,todo,ret⟩:=f
 simp only at hr hne
 subst hr
 obtain ⟨hi,hd,hk⟩:=hf
 simp only at hi hd hk
 cases todo with
 |nil=>exact absurd rfl hne
 |cons x rest =>
  have hx:=hi x (List.mem_cons_self ..)
  have hrest:∀ y∈rest,fineItem P wr L y:=fun y hy=>hi y (List.mem_cons_of_mem _ hy)
  have mv:∀ (a':Act) (t:List Item),a'.defers=[]→(∀ y∈t,fineItem P wr L y)→fineF P wr L ⟨b,a',t,false⟩:=fun a' t h1 h2=>⟨h2,h1,hk⟩
  cases x with
  |inScope c=>exact hx.elim
  |inRangeFunc l=>exact hx.elim
  |endRangeFunc l=>exact hx.elim
  |beginRound=>exact hx.elim
  |call d w r s=>exact hx.elim
  |extern r as=>exact hx.elim
  |inBlock id=>exact .inl ⟨⟨b,a,rest,false⟩,v,#[],rfl,mv a rest hd hrest,.ctl fun k cs main w=>stepG_inBlock⟩
  |inLoop c =>
   exact .inl ⟨⟨b,a,.code c :: .inLoop c :: rest,false⟩,v,#[],rfl,mv a _ hd (fun y hy=>by
    rcases List.mem_cons.1 hy with rfl|hy
    ·exact hx
    ·rcases List.mem_cons.1 hy with rfl|hy
     ·exact hx
     ·exact hrest y hy),.ctl fun k cs main w=>stepG_inLoop⟩
  |code c =>
   cases c with
   |skip=>exact .inl ⟨⟨b,a,rest,false⟩,v,#[],rfl,mv a rest hd hrest,.ctl fun k cs main w=>stepG_skip⟩
   |label l=>exact .inl ⟨⟨b,a,rest,false⟩,v,#[],rfl,mv a rest hd hrest,.ctl fun k cs main w=>stepG_label⟩
   |ret=>exact .inl ⟨⟨b,a,.code .ret :: rest,true⟩,v,#[],rfl,⟨hi,hd,hk⟩,.ctl fun k cs main w=>by
     simp [F.fr_run,F.fr_ret,G,stepG,stepG.exec,Frame.at]⟩
   |exit id =>
    cases he:exitTo id rest with
    |some t =>
     exact .inl ⟨⟨b,a,t,false⟩,v,#[],rfl,mv a t hd (fun y hy=>hrest y (exitTo_mem he y hy)),.ctl fun k cs main w=>stepG_exit (exitTo_app k he)⟩
    |none =>
     refine .inr (.inr fun cs=>Or.inl ?_)
     have h0:=exitTo_none (hkk id) he
     simp [F.fr_run,G,stepG,stepG.exec,Frame.at,h0]
   |seq c d =>
    exact .inl ⟨⟨b,a,.code c :: .code d :: rest,false⟩,v,#[],rfl,mv a _ hd (fun y hy=>by
     rcases List.mem_cons.1 hy with rfl|hy
     ·exact hx.1
     ·rcases List.mem_cons.1 hy with rfl|hy
      ·exact hx.2
      ·exact hrest y hy),.ctl fun k cs main w=>stepG_seq⟩
   |cond o c d =>
    cases ho:a.eval o with
    |bool t =>
     exact .inl ⟨⟨b,a,.code (if t then c else d) :: rest,false⟩,v,#[],rfl,mv a _ hd (fun y hy=>by
      rcases List.mem_cons.1 hy with rfl|hy
      ·cases t
       ·exact hx.2
       ·exact hx.1
      ·exact hrest y hy),.ctl fun k cs main w=>stepG_cond ho⟩
    |_ =>
     refine .inr (.inr fun cs=>Or.inl ?_)
     have he:=Frame.eval_at b a (.code (.cond o c d) :: (rest++kk)) o
     simp only [Frame.at] at he
     simp [F.fr_run,G,stepG,stepG.exec,Frame.at,he,ho]
   |block id c =>
    exact .inl ⟨⟨b,a,.code c :: .inBlock id :: rest,false⟩,v,#[],rfl,mv a _ hd (fun y hy=>by
     rcases List.mem_cons.1 hy with rfl|hy
     ·exact hx
     ·rcases List.mem_cons.1 hy with rfl|hy
      ·trivial
      ·exact hrest y hy),.ctl fun k cs main w=>stepG_block⟩
   |loop c =>
    exact .inl ⟨⟨b,a,.code c :: .inLoop c :: rest,false⟩,v,#[],rfl,mv a _ hd (fun y hy=>by
     rcases List.mem_cons.1 hy with rfl|hy
     ·exact hx
     ·rcases List.mem_cons.1 hy with rfl|hy
      ·exact hx
      ·exact hrest y hy),.ctl fun k cs main w=>stepG_loop⟩
   |region id ops draw =>
    have hreg:∀ t,∀ y∈(Item.inRegion ops t :: rest),fineItem P wr L y:=fun t y hy=>by
     rcases List.mem_cons.1 hy with rfl|hy
     ·exact hx
     ·exact hrest y hy
    cases draw with
    |false=>exact .inl ⟨⟨b,a,.inRegion ops (List.range ops.size) :: rest,false⟩,v,#[],rfl,mv a _ hd (hreg _),.ctl fun k cs main w=>stepG_region⟩
    |true =>
     refine .inl ⟨⟨b,a,.inRegion ops (Region.schedule (P.follows .mixedOrders) ops (v.tape v.drawn (.order b.fn id))) :: rest,false⟩,{ v with drawn:=v.drawn+1 },#[],rfl,mv a _ hd (hreg _),
      fun k cs main=>stepG_region_draw,fun e he=>by simp at he,rfl,Nat.le_succ _,fun z w hr hs=>⟨{ w with drawn:=w.drawn+1 },⟨hr.re rfl rfl rfl rfl rfl rfl,rfl,rfl,Nat.le_succ _,by simp,.of_rel ⟨rfl,rfl,rfl⟩,fun _ _ _=>rfl⟩,fun e he=>by simp at he,fun k cs main=>?_⟩⟩
     have e0:v.tape v.drawn=w.tape w.drawn:=hs 0 (by simp)
     rw [e0]
     exact stepG_region_draw
   |_=>exact hx.elim
  |inRegion ops todo =>
   have hreg:∀ t,∀ y∈(Item.inRegion ops t :: rest),fineItem P wr L y:=fun t y hy=>by
    rcases List.mem_cons.1 hy with rfl|hy
    ·exact hx
    ·exact hrest y hy
   cases todo with
   |nil=>exact .inl ⟨⟨b,a,rest,false⟩,v,#[],rfl,mv a rest hd hrest,.ctl fun k cs main w=>stepG_region_end⟩
   |cons i t =>
    cases ho:ops[i]? with
    |none =>
     refine .inl ⟨⟨b,a,.inRegion ops t :: rest,false⟩,v,#[],rfl,mv a _ hd (hreg _),.ctl fun k cs main w=>?_⟩
     simp [F.fr_run,G,stepG,stepG.exec,Frame.at,ho,Frame.finish]
    |some o =>
     have hof:fineOp P wr L o:=hx o (Array.mem_of_getElem? ho)
     cases hw:Region.wanted o (yielded ops a.tmps) with
     |false =>
      refine .inl ⟨⟨b,a.put o.dst undef,.inRegion ops t :: rest,false⟩,v,#[],rfl,mv _ _ (by rw [←hd];unfold Act.put;split<;>rfl) (hreg _),.ctl fun k cs main w=>?_⟩
      have:=Frame.finish_at b a ops i t (rest++k) undef
      rw [ho] at this
      simp only [Frame.at] at this
      simp [F.fr_run,G,stepG,stepG.exec,Frame.at,ho,hw,this]
     |true =>
      have hput:∀ x,(a.put o.dst x).defers=[]:=fun x=>by rw [←hd];unfold Act.put;split<;>rfl
      have hk':(b.kind==CallKind.early)=false:=by simpa using hk
      obtain ⟨hn,hout⟩:=hof a
      cases hres:(execOp a.eval o).run P v with
      |ok x v' =>
       have hT:(execOp a.eval o).runT P v #[]=(.ok x v',(execOp a.eval o).events P v #[]):=by
        have:=runT_fst (P:=P) (execOp a.eval o) v #[]
        rw [hres] at this
        exact Prod.ext this rfl
       have hs:=fun z=>sim z _ hn v
       have hok:∀ e∈listed P b.fn a o v,Okay wr e:=seen_okay fun e he=>by
        obtain ⟨_,_,_,h3⟩:=hs zn v #[] x v' _ (Rel.refl v) hT (fun i _=>rfl)
        rcases h3 e he with h|h
        ·simp at h
        ·exact h.1
       have hO:Out zn wr v v' v v':=by
        obtain ⟨w',h1,h2,_⟩:=hs zn v #[] x v' _ (Rel.refl v) hT (fun i _=>rfl)
        rw [hT] at h1
        cases h1
        exact h2
       have lk:∀ z w,Rel z v w→Same v v' w→∃ w',Out z wr v v' w w'∧(execOp a.eval o).run P w=.ok x w'∧listed P b.fn a o w=listed P b.fn a o v∧∀ e∈listed P b.fn a o v,Spares z w' e:=fun z w hr hS=>by
        obtain ⟨w',h1,h2,h3⟩:=hs z w #[] x v' _ hr hT hS
        refine ⟨w',h2,by rw [←runT_fst (P:=P) _ w #[],h1],?_,fun e he=>by
         rcases h3 e (mem_seen he) with h|h
         ·simp at h
         ·exact h.2⟩
        unfold listed
        have:(execOp a.eval o).events P w #[]=(execOp a.eval o).events P v #[]:=by
         show ((execOp a.eval o).runT P w #[]).2=_
         rw [h1]
        rw [this]
       rcases hout v x v' hres with ⟨y,rfl⟩|rfl|⟨g,args,rfl,hg⟩
       ·refine .inl ⟨⟨b,a.put o.dst y,.inRegion ops t :: rest,false⟩,v',listed P b.fn a o v,rfl,mv _ _ (hput _) (hreg _),fun k cs main=>stepG_value ho hw hk hres,hok,hO.tape,hO.le,fun z w hr hS=>?_⟩
        obtain ⟨w',h2,h3,h4,h5⟩:=lk z w hr hS
        exact ⟨w',h2,h5,fun k cs main=>by rw [←h4];exact stepG_value ho hw hk h3⟩
       ·refine .inl ⟨⟨b,a.put o.dst undef,.inRegion ops t :: rest,false⟩,v',listed P b.fn a o v,rfl,mv _ _ (hput _) (hreg _),fun k cs main=>stepG_none ho hw hk hres,hok,hO.tape,hO.le,fun z w hr hS=>?_⟩
        obtain ⟨w',h2,h3,h4,h5⟩:=lk z w hr hS
        exact ⟨w',h2,h5,fun k cs main=>by rw [←h4];exact stepG_none ho hw hk h3⟩
       ·obtain ⟨fn,c,hfn,hbody,hfine,hresn⟩:=hL g hg
        have hent:Frame.enter P g args .normal=(F.mk (base g) { tmps:=args++Array.replicate (fn.ntmps - args.size) undef,defers:=[] } [.code c] false).fr []:=enter_at args hfn hbody
        refine .inr (.inl ⟨⟨base g,{ tmps:=args++Array.replicate (fn.ntmps - args.size) undef,defers:=[] },[.code c],false⟩,v',listed P b.fn a o v,
         ⟨fun y hy=>by rcases List.mem_singleton.1 hy with rfl;exact hfine,rfl,by simp [base]⟩,rfl,rfl,hg,⟨ops,i,t,rest,rfl⟩,
         fun k cs main=>by rw [←hent];exact stepG_enter ho hw hk hres,hok,hO.tape,hO.le,fun z w hr hS=>?_⟩)
        obtain ⟨w',h2,h3,h4,h5⟩:=lk z w hr hS
        exact ⟨w',h2,h5,fun k cs main=>by rw [←h4,←hent];exact stepG_enter ho hw hk h3⟩
      |halt h v' =>
       refine .inr (.inr fun cs=>?_)
       have hsoft:=calm_halt _ hn v h v' hres
       have e1:stepG P true (G ((F.mk b a (.inRegion ops (i :: t) :: rest) false).fr kk) cs) v=stepG.apply P true (b.at a (.inRegion ops (i :: t) :: (rest++kk))) cs none (execOp a.eval o) v:=stepG_oper ho hw
       rcases hsoft with ⟨x,rfl⟩|⟨s,rfl⟩|⟨u,rfl⟩
       ·refine Or.inr ⟨b.at a (.inRegion ops (i :: t) :: (rest++kk)),[{ v:=x,recovered:=false }],v',listed P b.fn a o v,?_,hd⟩
        rw [e1]
        simp [stepG.apply,hres,G,Frame.at,hk',GStep.after,Frame.raise,listed]
       ·left
        rw [e1]
        simp [stepG.apply,hres,Frame.at,hk',GStep.after]
       ·left
        rw [e1]
        cases u
        case initOrder g =>
         obtain ⟨o',w',e2⟩:=hE (b.at a (.inRegion ops (i :: t) :: (rest++kk))) cs none g v'
         simp only [Frame.at] at e2
         simp [stepG.apply,hres,Frame.at,GStep.after,e2]
        all_goals simp [stepG.apply,hres,Frame.at,hk',GStep.after]
end
end Go.Lift
