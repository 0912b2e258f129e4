/- CounterLinear, part 18 of 24: CtI1, CtI2, CtI3, CtI4, CtI5, CtI6, CtI7, CtL1, CtL2, CtL3, CtL4. -/
import Derived.Test.YtfjjoohflcchnaaDoorCounterLinear01
import Derived.Test.YtfjjoohflcchnaaDoorCounterLinear10
import Derived.Test.YtfjjoohflcchnaaDoorCounterLinear15
import Derived.Test.YtfjjoohflcchnaaDoorCounterLinear16
import Derived.Test.YtfjjoohflcchnaaDoorCounterLinear17
set_option linter.unusedSimpArgs false
set_option linter.unusedVariables false
set_option maxHeartbeats 4000000
set_option maxRecDepth 100000
noncomputable section
namespace Go.Proofs.YtfjjoohflcchnaaDoor.Gen
open Go Go.Lift Go.Conc Go.RowKit
open Go.ConcN (upd upd_same upd_ne)
variable {x y:Int} {N i ii j k s:Nat} {K K' d snap:List Int} {l:Nat->Ph} {c:Cl} {q:Q} {v v1:Vw}
def Le (x y:Int):Prop:=R1.ver x<=R1.ver y∧(R1.ver x=R1.ver y->x=y)
theorem Le.refl (x:Int):Le x x:=⟨Int.le_refl _,λ_=>rfl⟩
theorem Le.trans {z:Int}(h:Le x y) (k:Le y z):Le x z:=⟨Int.le_trans h.1 k.1,λe=>by have h1:=h.1;have k1:=k.1;rw[h.2 (by omega),k.2 (by omega)]⟩
theorem Le.anti (h:Le x y) (k:Le y x):x=y:=h.2 (Int.le_antisymm h.1 k.1)
theorem Le.add {x:Int}(n:Int) (h:R1.ver x<1073741823):Le x (R1.addI x n):=by have h1:=R1.ver_addI x n;have h2:=R1.ver_in x;exact ⟨by omega,λe=>by omega⟩
structure Snap (s:Nat) (d snap K:List Int):Prop where
 len:snap.length=s
 klen:K.length=s
 fst:∀ (j:Nat) (x y:Int),j<s->d[j]? = some x->snap[j]? = some y->Le x y
 snd:∀ (j:Nat) (x y:Int),d[s+j]? = some x->snap[j]? = some y->Le y x
 now:∀ (j:Nat) (x y:Int),snap[j]? = some x->K[j]? = some y->Le x y
theorem Snap.same (h:Snap s d snap K) (hl:d.length=2*s) (e:d.take s=d.drop s):d.drop s=snap:=by
 apply List.ext_getElem?;intro j;rw[List.getElem?_drop];by_cases hj:j<s
 .obtain ⟨x,hx⟩:∃ x,d[j]? = some x:=⟨_,Qf (by omega)⟩
  obtain ⟨z,hz⟩:∃ z,d[s+j]? = some z:=⟨_,Qf (by omega)⟩
  obtain ⟨y,hy⟩:∃ y,snap[j]? = some y:=⟨_,Qf (by have:=h.len;omega)⟩
  have e1:d[j]? = d[s+j]?:=by have:=congrArg (λl=>l[j]?) e;simp only[List.getElem?_take,List.getElem?_drop,if_pos hj] at this;exact this
  rw[hx,hz] at e1;cases e1;rw[hz,hy,Le.anti (h.fst j _ y hj hx hy) (h.snd j _ y hz hy)]
 rw[List.getElem?_eq_none (by omega),List.getElem?_eq_none (by have:=h.len;omega)]
theorem Snap.up (h:Snap s d snap K) (hx:K[j]? = some x) (hle:Le x y):Snap s d snap (K.set j y):=by
 refine ⟨h.len,by rw[List.length_set];exact h.klen,h.fst,h.snd,λk a b ha hb=>?_⟩;rw[Qq] at hb;by_cases e:j=k
 .subst e
  rw[if_pos rfl] at hb;split at hb
  .cases hb
   exact (h.now j a x ha hx).trans hle
  cases hb
 .rw[if_neg e] at hb
  exact h.now k a b ha hb
theorem Snap.look (h:Snap s d snap K) (hs:s<=d.length) (hx:K[d.length - s]? = some x):Snap s (d++[x]) snap K:=by
 refine ⟨h.len,h.klen,λj a b hj ha hb=>?_,λj a b ha hb=>?_,h.now⟩
 .rw[Qn (by omega)] at ha
  exact h.fst j a b hj ha hb
 .by_cases e:s+j<d.length
  .rw[Qn e] at ha
   exact h.snd j a b ha hb
  .rw[List.getElem?_append_right (by omega)] at ha
   have e2:s+j - d.length=0:=by
    cases hk:s+j - d.length with
    |zero=>rfl
    |succ n=>rw[hk] at ha;simp at ha
   rw[e2] at ha;simp at ha;subst ha;have e3:d.length - s=j:=by omega
   rw[e3] at hx;exact h.now j b _ hb hx
theorem Snap.first (hK:K.length=s) (hl:d.length=s) (h:∀ (j:Nat) (x y:Int),d[j]? = some x->K[j]? = some y->Le x y):Snap s d K K :=
 ⟨hK,hK,λj x y _ hx hy=>h j x y hx hy,λj x y hx _=>(by rw[List.getElem?_eq_none (by omega)] at hx;cases hx),λj x y hx hy=>by rw[hx] at hy;cases hy;exact Le.refl _⟩
structure Rp where
 total:Int
 busy:Int
 call:Nat->Nat
 seen:Nat->List Int
 quiet:Nat->Bool
 count:Nat->Nat
def rp0:Rp:=⟨0,0,λ_=>0,λ_=>[],λ_=>false,λ_=>0⟩
def poOf (cl:Nat->List Cl) (i k:Nat):Int:=match (cl i)[k]? with|some c=>c.po|none=>0
def caOf (cl:Nat->List Cl) (i k:Nat):Int:=match (cl i)[k]? with|some c=>c.ca|none=>0
def rs (cl:Nat->List Cl) (r:Rp) (s:Stp):Rp :=
 let t:=s.th.toNat
 if s.op=9 then
  let k:=s.ol.toNat
  let b:=if poOf cl t k=1 then r.busy+1 else r.busy
  { total:=r.total,busy:=b,call:=upd r.call t k,seen:=upd r.seen t [r.total],
    quiet:=upd (if poOf cl t k=1 then λ_=>false else r.quiet) t (b==0),count:=upd r.count t 0 }
 else if s.op=10 then
  { r with call:=upd r.call t s.ol.toNat,busy:=if poOf cl t s.ol.toNat=1 then r.busy - 1 else r.busy }
 else if s.op=4∧poOf cl t (r.call t)=1∧s.ne≠s.ol then
  { r with count:=upd r.count t (r.count t+1),total:=r.total+(caOf cl t (r.call t)).tmod 1000,seen:=λk=>r.seen k++[r.total+(caOf cl t (r.call t)).tmod 1000] }
 else { r with count:=upd r.count t (r.count t+1) }
def rep (cl:Nat->List Cl) (L:List Stp):Rp:=L.foldl (rs cl) rp0
theorem rep_app (cl:Nat->List Cl) (A B:List Stp):rep cl (A++B)=B.foldl (rs cl) (rep cl A):=List.foldl_append
theorem rep_one (cl:Nat->List Cl) (A:List Stp) (s:Stp):rep cl (A++[s])=rs cl (rep cl A) s:=by rw[rep_app];rfl
section
variable {cl:Nat->List Cl}{r:Rp}{i:Nat}
theorem rs_begin (k:Nat) (h:poOf cl i k≠1):rs cl r ⟨i,-1,9,k,0⟩={ r with call:=upd r.call i k,seen:=upd r.seen i [r.total],quiet:=upd r.quiet i (r.busy==0),count:=upd r.count i 0 }:=by unfold rs;simp[h]
theorem rs_begin1 (k:Nat) (h:poOf cl i k=1):rs cl r ⟨i,-1,9,k,0⟩={ r with busy:=r.busy+1,call:=upd r.call i k,seen:=upd r.seen i [r.total],quiet:=upd (λ_=>false) i (r.busy+1==0),count:=upd r.count i 0 }:=by unfold rs;simp[h]
theorem rs_end (k:Nat) (e:Int):rs cl r ⟨i,-1,10,k,e⟩={ r with call:=upd r.call i k,busy:=if poOf cl i k=1 then r.busy - 1 else r.busy }:=by unfold rs;simp
theorem rs_look (j:Nat) (x:Int):rs cl r ⟨i,j,1,x,x⟩={ r with count:=upd r.count i (r.count i+1) }:=by unfold rs;simp
theorem rs_vain (j:Nat) (x:Int):rs cl r ⟨i,j,4,x,x⟩={ r with count:=upd r.count i (r.count i+1) }:=by unfold rs;simp
theorem rs_cas (j:Nat) (x y:Int) (h:poOf cl i (r.call i)=1) (hne:y≠x):rs cl r ⟨i,j,4,x,y⟩={ r with count:=upd r.count i (r.count i+1),total:=r.total+(caOf cl i (r.call i)).tmod 1000,seen:=λk=>r.seen k++[r.total+(caOf cl i (r.call i)).tmod 1000] }:=by unfold rs;simp[h,hne]
end
structure Fst (s:Nat) (r:Rp) (K:List Int) (i:Nat) (l:List Int):Prop where
 lt:l.length<s
 le:∀ (j:Nat) (x y:Int),l[j]? = some x->K[j]? = some y->Le x y
 qt:r.quiet i=true->r.count i=l.length∧l=K.take l.length
structure Snd (s:Nat) (r:Rp) (K:List Int) (i:Nat) (d snap:List Int):Prop where
 ge:s<=d.length
 lt:d.length<2*s
 sn:Snap s d snap K
 sum:R1.totI snap∈r.seen i
 qt:r.quiet i=true->r.count i=d.length∧d.take s=K∧d.drop s=K.take (d.length - s)
def CSeat (s:Nat) (calls:List Cl) (r:Rp) (K:List Int) (i:Nat):Ph->Prop
 |.turn op j q rest ii ans=>rest=calls.drop (ii+1)∧r.call i=ii∧r.total∈r.seen i∧j=clC s q∧∃ c,calls[ii]? = some c ∧
   ((c.po=1∧op=1∧q=(0,[((i % s:Nat):Int),c.ca.tmod 1000]))∨(c.po=1∧op=4∧∃ x,q=(1,[((i % s:Nat):Int),c.ca.tmod 1000,x])) ∨
    (c.po=2∧op=1∧∃ l,q=(2,l)∧Fst s r K i l)∨(c.po=2∧op=1∧∃ d snap,q=(3,d)∧Snd s r K i d snap))
 |.wait _ _ _ _ _=>False
 |.done _=>True
structure Oth (r r':Rp) (K K':List Int) (i:Nat):Prop where
 call:r'.call i=r.call i
 count:r'.count i=r.count i
 sub:∀ x∈r.seen i,x∈r'.seen i
 tot:r.total∈r.seen i->r'.total∈r'.seen i
 qt:r'.quiet i=true->r.quiet i=true∧K'=K
 up:∀ (j:Nat) (x y:Int),K[j]? = some x->K'[j]? = some y->Le x y
 len:K'.length=K.length
theorem get_len (h:K'.length=K.length) (hy:K'[j]? = some y):∃ x,K[j]? = some x:=⟨_,Qf (by have:=(Qc hy).1;omega)⟩
theorem Fst.oth {r r':Rp}{l:List Int}(h:Fst s r K i l) (o:Oth r r' K K' i):Fst s r' K' i l :=
 ⟨h.lt,λj x y hx hy=>by
  obtain ⟨z,hz⟩:=get_len o.len hy;exact (h.le j x z hx hz).trans (o.up j z y hz hy),λhq=>by
  obtain ⟨q1,rfl⟩:=o.qt hq;rw[o.count];exact h.qt q1⟩
theorem Snd.oth {r r':Rp}(h:Snd s r K i d snap) (o:Oth r r' K K' i):Snd s r' K' i d snap :=
 ⟨h.ge,h.lt,⟨h.sn.len,by rw[o.len];exact h.sn.klen,h.sn.fst,h.sn.snd,λj x y hx hy=>by
  obtain ⟨z,hz⟩:=get_len o.len hy;exact (h.sn.now j x z hx hz).trans (o.up j z y hz hy)⟩,o.sub _ h.sum,λhq=>by
  obtain ⟨q1,rfl⟩:=o.qt hq;rw[o.count];exact h.qt q1⟩
theorem CSeat.oth {calls:List Cl}{r r':Rp}{l:Ph}(h:CSeat s calls r K i l) (o:Oth r r' K K' i):CSeat s calls r' K' i l:=by
 cases l with
 |done a=>trivial
 |wait j q rest ii ans=>exact h
 |turn op j q rest ii ans =>
  obtain ⟨h1,h2,h3,h4,c,hc,h5⟩:=h;refine ⟨h1,by rw[o.call];exact h2,o.tot h3,h4,c,hc,?_⟩;rcases h5 with h5|h5|⟨p,e,l,e2,h5⟩|⟨p,e,d,sn,e2,h5⟩
  exact .inl h5;exact .inr (.inl h5);exact .inr (.inr (.inl ⟨p,e,l,e2,h5.oth o⟩));exact .inr (.inr (.inr ⟨p,e,d,sn,e2,h5.oth o⟩))
theorem Fst.look {r:Rp}{l:List Int}(h:Fst s r K i l) (hK:K.length=s) (hx:K[l.length]? = some x) (hlt:l.length+1<s):Fst s { r with count:=upd r.count i (r.count i+1) } K i (l++[x]):=by
 refine ⟨by simpa using hlt,λj a b ha hb=>?_,λhq=>?_⟩
 .by_cases e:j<l.length
  .rw[Qn e] at ha
   exact h.le j a b ha hb
  .have hj:j=l.length:=by have:=(Qc ha).1;simp at this;omega
   subst hj;rw[List.getElem?_append_right (Qi _)] at ha;simp at ha;rw[hx] at hb;cases hb;rw[ha];exact Le.refl _
 .obtain ⟨q1,q2⟩:=h.qt hq
  refine ⟨?_,?_⟩
  .show upd r.count i (r.count i+1) i=_
   rw[upd_same,q1];simp
  .rw[Qj,List.length_singleton,List.take_add_one,hx,<-q2]
   rfl
theorem Fst.last {r:Rp}{l:List Int}(h:Fst s r K i l) (hK:K.length=s) (hx:K[l.length]? = some x) (hlt:l.length+1=s) (hT:R1.totI K∈r.seen i):Snd s { r with count:=upd r.count i (r.count i+1) } K i (l++[x]) K:=by
 have hl:(l++[x]).length=s:=by simpa using hlt
 refine ⟨by omega,by omega,Snap.first hK hl (λj a b ha hb=>?_),hT,λhq=>?_⟩
 .by_cases e:j<l.length
  .rw[Qn e] at ha
   exact h.le j a b ha hb
  .have hj:j=l.length:=by have:=(Qc ha).1;simp at this;omega
   subst hj;rw[List.getElem?_append_right (Qi _)] at ha;simp at ha;rw[hx] at hb;cases hb;rw[ha];exact Le.refl _
 .obtain ⟨q1,q2⟩:=h.qt hq
  refine ⟨?_,?_,?_⟩
  .show upd r.count i (r.count i+1) i=_
   rw[upd_same,q1];simp
  .rw[List.take_of_length_le (by omega)]
   have e:K.take (l.length+1)=l++[x]:=by rw[List.take_add_one,hx,<-q2];rfl
   rw[<-e,hlt,List.take_of_length_le (by omega)]
  rw[hl,Nat.sub_self,List.take_zero,List.drop_eq_nil_of_le (by omega)]
theorem Snd.look {r:Rp}(h:Snd s r K i d snap) (hx:K[d.length - s]? = some x) (hlt:d.length+1<2*s):Snd s { r with count:=upd r.count i (r.count i+1) } K i (d++[x]) snap:=by
 refine ⟨by have:=h.ge;simp;omega,by simpa using hlt,h.sn.look h.ge hx,h.sum,λhq=>?_⟩;obtain ⟨q1,q2,q3⟩:=h.qt hq;have hge:=h.ge;refine ⟨?_,?_,?_⟩
 .show upd r.count i (r.count i+1) i=_
  rw[upd_same,q1];simp
 rw[List.take_append_of_le_length hge];exact q2
 .rw[List.drop_append_of_le_length hge,q3,Qj,List.length_singleton,show d.length+1 - s=(d.length - s)+1 by omega,List.take_add_one,hx]
  rfl
theorem Snd.last {r:Rp}(h:Snd s r K i d snap) (hx:K[d.length - s]? = some x) (hlt:d.length+1=2*s):
 ((d++[x]).take s=(d++[x]).drop s->R1.totI ((d++[x]).drop s)∈r.seen i)∧(r.quiet i=true->r.count i+1=2*s∧(d++[x]).take s=(d++[x]).drop s):=by
 have hge:=h.ge;have hl:(d++[x]).length=2*s:=by simpa using hlt
 refine ⟨λe=>?_,λhq=>?_⟩;rw[(h.sn.look hge hx).same hl e];exact h.sum
 .obtain ⟨q1,q2,q3⟩:=h.qt hq
  refine ⟨by rw[q1];exact hlt,?_⟩;have hK:=h.sn.klen;rw[List.take_append_of_le_length hge,q2,List.drop_append_of_le_length hge,q3];have e:K.take (d.length - s+1)=K.take (d.length - s)++[x]:=by rw[List.take_add_one,hx];rfl
  rw[<-e,List.take_of_length_le (by omega)]
theorem Oth.refl (r:Rp) (K:List Int) (i:Nat):Oth r r K K i:=⟨rfl,rfl,λ_ h=>h,λh=>h,λh=>⟨h,rfl⟩,λj x y hx hy=>by rw[hx] at hy;cases hy;exact Le.refl _,rfl⟩
theorem Oth.trans {r r1 r2:Rp}{K1 K2:List Int}(h:Oth r r1 K K1 i) (k:Oth r1 r2 K1 K2 i):Oth r r2 K K2 i :=
 ⟨k.call.trans h.call,k.count.trans h.count,λx hx=>k.sub x (h.sub x hx),λht=>k.tot (h.tot ht),λhq=>by
  obtain ⟨a,rfl⟩:=k.qt hq;exact h.qt a,λj x y hx hy=>by
  obtain ⟨z,hz⟩:=get_len k.len hy;exact (h.up j x z hx hz).trans (k.up j z y hz hy),k.len.trans h.len⟩
theorem up_same (K:List Int):∀ (j:Nat) (x y:Int),K[j]? = some x->K[j]? = some y->Le x y:=λj x y hx hy=>by rw[hx] at hy;cases hy;exact Le.refl _
def inA:Ph->Nat
 |.turn _ _ q _ _ _=>if q.1<=1 then 1 else 0
 |_=>0
def upC (calls:List Cl):Ph->Nat
 |.turn _ _ _ _ ii _=>ii
 |.wait _ _ _ ii _=>ii
 |.done _=>calls.length
theorem po_of {cl:Nat->List Cl}(h:(cl i)[k]? = some c):poOf cl i k=c.po∧caOf cl i k=c.ca:=by unfold poOf caOf;rw[h];exact ⟨rfl,rfl⟩
theorem beg_oth (cl:Nat->List Cl) (r:Rp) (K:List Int) (ii:Nat) (hk:k≠i):Oth r (rs cl r ⟨i,-1,9,ii,0⟩) K K k:=by
 by_cases h:poOf cl i ii=1
 .rw[rs_begin1 ii h]
  refine ⟨?_,?_,λx hx=>?_,λht=>?_,λhq=>?_,up_same K,rfl⟩
  .show upd r.call i ii k=_;rw[upd_ne _ _ hk]
  .show upd r.count i 0 k=_;rw[upd_ne _ _ hk]
  .show x∈upd r.seen i [r.total] k;rw[upd_ne _ _ hk];exact hx
  .show r.total∈upd r.seen i [r.total] k;rw[upd_ne _ _ hk];exact ht
  .have hq:upd (λ_=>false) i (r.busy+1==0) k=true:=hq
   rw[upd_ne _ _ hk] at hq;cases hq
 .rw[rs_begin ii h]
  refine ⟨?_,?_,λx hx=>?_,λht=>?_,λhq=>?_,up_same K,rfl⟩
  .show upd r.call i ii k=_;rw[upd_ne _ _ hk]
  .show upd r.count i 0 k=_;rw[upd_ne _ _ hk]
  .show x∈upd r.seen i [r.total] k;rw[upd_ne _ _ hk];exact hx
  .show r.total∈upd r.seen i [r.total] k;rw[upd_ne _ _ hk];exact ht
  .have hq:upd r.quiet i (r.busy==0) k=true:=hq
   rw[upd_ne _ _ hk] at hq;exact ⟨hq,rfl⟩
theorem end_oth (cl:Nat->List Cl) (r:Rp) (K:List Int) (ii:Nat) (e:Int) (hk:k≠i):Oth r (rs cl r ⟨i,-1,10,ii,e⟩) K K k:=by rw[rs_end ii e];exact ⟨by show upd r.call i ii k=_;rw[upd_ne _ _ hk],rfl,λ_ h=>h,λh=>h,λh=>⟨h,rfl⟩,up_same K,rfl⟩
theorem look_oth (r:Rp) (K:List Int) (hk:k≠i):Oth r { r with count:=upd r.count i (r.count i+1) } K K k :=
 ⟨rfl,by show upd r.count i (r.count i+1) k=_;rw[upd_ne _ _ hk],λ_ h=>h,λh=>h,λh=>⟨h,rfl⟩,up_same K,rfl⟩
theorem mcC_ans {e:Int}(h:(mcC s).start i c=.ans e x):e=1∧x=0∧c.po≠1∧c.po≠2:=by
 unfold mcC at h;simp only at h;split at h;cases h
 .split at h
  cases h
  .cases h
   exact ⟨rfl,rfl,by assumption,by assumption⟩
theorem mcC_turn {op:Int}(h:(mcC s).start i c=.turn op j q):op=1∧((c.po=1∧j=i % s∧q=(0,[((i % s:Nat):Int),c.ca.tmod 1000]))∨(c.po=2∧j=0∧q=(2,[]))):=by
 unfold mcC at h;simp only at h;split at h
 .cases h
  exact ⟨rfl,.inl ⟨by assumption,rfl,rfl⟩⟩
 .split at h
  .cases h
   exact ⟨rfl,.inr ⟨by assumption,rfl,rfl⟩⟩
  cases h
theorem mcC_wait :(mcC s).start i c≠.wait j q:=λh=>by
 unfold mcC at h;simp only at h;split at h;cases h
 .split at h<;>cases h
def XOk (cl:Nat->List Cl) (i ii:Nat) (l:Ph) (st:Stp):Prop:=(st.op=9∨st.op=10)∧∃ (k:Nat) (c:Cl),st.th=i∧st.ol=k∧ii<=k∧(cl i)[k]? = some c∧(st.op=10->k<upC (cl i) l∧c.po≠1∧c.po≠2)
structure FwOk (s:Nat) (cl:Nat->List Cl) (i ii:Nat) (ans:List (Int×Int)) (r r':Rp) (K:List Int) (X:List Stp) (l:Ph):Prop where
 seat:CSeat s (cl i) r' K i l
 oth:∀ k,k≠i->Oth r r' K K k
 busy:r'.busy=r.busy+inA l
 qb:∀ k,r'.quiet k=true->r'.busy=0
 tot:r'.total=r.total
 len:l.ans.length=(cl i).length
 xs:∀ st∈X,XOk cl i ii l st
 up:ii<=upC (cl i) l
 old:∀ k,k<ii->l.ans[k]? = ans[k]?
theorem fw_ctr (h0:0<s) {cl:Nat->List Cl}{rest:List Cl}{sk:Bool}{ans:List (Int×Int)}{X:List Stp}{l:Ph}(h:Fw (mcC s) i false rest ii sk ans X l):
 ∀ (r:Rp) (K:List Int),rest=(cl i).drop ii->ii<=(cl i).length->ans.length=(cl i).length->sk=false->0<=r.busy->(∀ k,r.quiet k=true->r.busy=0)->FwOk s cl i ii ans r (X.foldl (rs cl) r) K X l:=by
 induction h with
 |@nil ii sk ans =>
  intro r K hr hl ha hs hb hq;have e:ii=(cl i).length:=by have:=congrArg List.length hr;simp at this;omega
  exact ⟨trivial,λk _=>Oth.refl r K k,by show r.busy=r.busy+0;omega,hq,rfl,ha,λst hs=>(nomatch hs),by show ii<=(cl i).length;exact hl,λk _=>rfl⟩
 |skip _ _ =>intro r K hr hl ha hs hb hq;cases hs
 |@ans c rest ii ans X l e x hst h ih =>
  intro r K hr hl ha hs hb hq;have hlt:ii<(cl i).length:=by have:=congrArg List.length hr;simp at this;omega
  have hc:(cl i)[ii]? = some c:=by
   have:((cl i).drop ii)[0]? = some c:=by rw[<-hr];rfl
   simpa using this
  have hr':rest=(cl i).drop (ii+1):=by have:=congrArg List.tail hr;simpa [List.tail_drop] using this
  obtain ⟨rfl,rfl,p1,p2⟩:=mcC_ans hst;have hpo:poOf cl i ii≠1:=by rw[(po_of hc).1];exact p1
  have e1:=rs_begin (cl:=cl) (r:=r) (i:=i) ii hpo;have e2:=rs_end (cl:=cl) (r:=rs cl r ⟨i,-1,9,ii,0⟩) (i:=i) ii 1;have hb2:(rs cl (rs cl r ⟨i,-1,9,ii,0⟩) ⟨i,-1,10,ii,1⟩).busy=r.busy:=by rw[e2,e1];simp[hpo]
  have hq2:∀ k,(rs cl (rs cl r ⟨i,-1,9,ii,0⟩) ⟨i,-1,10,ii,1⟩).quiet k=true->r.busy=0:=λk hk=>by
   rw[e2,e1] at hk;have hk:upd r.quiet i (r.busy==0) k=true:=hk;by_cases hki:k=i
   .subst hki
    rw[upd_same] at hk;simpa using hk
   .rw[upd_ne _ _ hki] at hk
    exact hq k hk
  have ht2:(rs cl (rs cl r ⟨i,-1,9,ii,0⟩) ⟨i,-1,10,ii,1⟩).total=r.total:=by rw[e2,e1]
  have f:=ih (rs cl (rs cl r ⟨i,-1,9,ii,0⟩) ⟨i,-1,10,ii,1⟩) K hr' (by omega) (by simpa using ha) rfl (by rw[hb2];exact hb) (λk hk=>by rw[hb2];exact hq2 k hk);refine ⟨f.seat,λk hk=>((beg_oth cl r K ii hk).trans (end_oth cl _ K ii 1 hk)).trans (f.oth k hk),by rw[<-hb2];exact f.busy,f.qb,f.tot.trans ht2,f.len,λst hs=>?_,by have:=f.up;omega,λk hk=>?_⟩
  .simp only[List.mem_cons] at hs
   rcases hs with rfl|rfl|hs;exact ⟨.inl rfl,ii,c,rfl,rfl,Qi _,hc,λh=>absurd (show (9:Int)=10 from h) (by decide)⟩;exact ⟨.inr rfl,ii,c,rfl,rfl,Qi _,hc,λ_=>⟨by have:=f.up;omega,p1,p2⟩⟩
   .obtain ⟨a1,k,c',a2,a3,a4,a5,a6⟩:=f.xs st hs
    exact ⟨a1,k,c',a2,a3,by omega,a5,a6⟩
  rw[f.old k (by omega),Qq,if_neg (by omega)]
 |@turn c rest ii ans op j q hst =>
  intro r K hr hl ha hs hb hq;have hlt:ii<(cl i).length:=by have:=congrArg List.length hr;simp at this;omega
  have hc:(cl i)[ii]? = some c:=by
   have:((cl i).drop ii)[0]? = some c:=by rw[<-hr];rfl
   simpa using this
  have hr':rest=(cl i).drop (ii+1):=by have:=congrArg List.tail hr;simpa [List.tail_drop] using this
  obtain ⟨rfl,hst'⟩:=mcC_turn hst;have hxs:∀ st∈[(⟨i,-1,9,ii,0⟩:Stp)],XOk cl i ii (.turn 1 j q rest ii ans) st:=λst hs=>by simp only[List.mem_singleton] at hs;subst hs;exact ⟨.inl rfl,ii,c,rfl,rfl,Qi _,hc,λh=>absurd (show (9:Int)=10 from h) (by decide)⟩
  rcases hst' with ⟨p1,rfl,rfl⟩|⟨p2,rfl,rfl⟩
  .have hpo:poOf cl i ii=1:=by rw[(po_of hc).1];exact p1
   have e1:=rs_begin1 (cl:=cl) (r:=r) (i:=i) ii hpo;refine ⟨?_,λk hk=>beg_oth cl r K ii hk,?_,λk hk=>?_,?_,ha,hxs,Qi _,λk _=>rfl⟩
   .show CSeat s (cl i) (rs cl r ⟨i,-1,9,ii,0⟩) K i _
    rw[e1];refine ⟨hr',by show upd r.call i ii i=ii;rw[upd_same],by show r.total∈upd r.seen i [r.total] i;rw[upd_same];simp,by simp[clC,-Int.natCast_emod],c,hc,.inl ⟨p1,rfl,rfl⟩⟩
   .show (rs cl r ⟨i,-1,9,ii,0⟩).busy=_
    rw[e1];rfl
   .have hk:(rs cl r ⟨i,-1,9,ii,0⟩).quiet k=true:=hk
    rw[e1] at hk;have hk:upd (λ_=>false) i (r.busy+1==0) k=true:=hk;exfalso;by_cases hki:k=i
    .subst hki
     rw[upd_same] at hk;have:r.busy+1=0:=by simpa using hk
     omega
    rw[upd_ne _ _ hki] at hk;cases hk
   .show (rs cl r ⟨i,-1,9,ii,0⟩).total=_
    rw[e1]
  .have hpo:poOf cl i ii≠1:=by rw[(po_of hc).1,p2];decide
   have e1:=rs_begin (cl:=cl) (r:=r) (i:=i) ii hpo;refine ⟨?_,λk hk=>beg_oth cl r K ii hk,?_,λk hk=>?_,?_,ha,hxs,Qi _,λk _=>rfl⟩
   .show CSeat s (cl i) (rs cl r ⟨i,-1,9,ii,0⟩) K i _
    rw[e1];refine ⟨hr',by show upd r.call i ii i=ii;rw[upd_same],by show r.total∈upd r.seen i [r.total] i;rw[upd_same];simp,by simp[clC],c,hc,.inr (.inr (.inl ⟨p2,rfl,[],rfl,⟨h0,λj x y hx _=>by simp at hx,λ_=>⟨?_,by simp⟩⟩⟩))⟩;show upd r.count i 0 i=_;rw[upd_same];rfl
   .show (rs cl r ⟨i,-1,9,ii,0⟩).busy=_
    rw[e1];show r.busy=r.busy+((if (2:Nat)<=1 then 1 else 0:Nat):Int);simp
   .have hk:(rs cl r ⟨i,-1,9,ii,0⟩).quiet k=true:=hk
    show (rs cl r ⟨i,-1,9,ii,0⟩).busy=0;rw[e1] at hk ⊢;have hk:upd r.quiet i (r.busy==0) k=true:=hk;show r.busy=0;by_cases hki:k=i
    .subst hki
     rw[upd_same] at hk;simpa using hk
    .rw[upd_ne _ _ hki] at hk
     exact hq k hk
   .show (rs cl r ⟨i,-1,9,ii,0⟩).total=_
    rw[e1]
 |wait hst _ =>intro r K hr hl ha hs hb hq;exact absurd hst mcC_wait
 |waits hst hs' _ _ =>intro r K hr hl ha hs hb hq;exact absurd hst mcC_wait
def sumT (N:Nat) (g:Nat->Ph->Nat) (l:Nat->Ph):Nat:=((List.range N).map λi=>g i (l i)).sum
theorem sumT_upd (g:Nat->Ph->Nat) (l:Nat->Ph) (hi:i<N) (l':Ph):sumT N g (upd l i l')+g i (l i)=sumT N g l+g i l':=by
 unfold sumT;induction N with
 |zero=>omega
 |succ N ih =>
  rw[List.range_succ,List.map_append,List.map_append,List.sum_append,List.sum_append];simp only[List.map_cons,List.map_nil,List.sum_cons,List.sum_nil,Nat.add_zero];by_cases hk:i=N
  .subst hk
   rw[upd_same];have e1:(List.range i).map (λk=>g k (upd l i l' k))=(List.range i).map (λk=>g k (l k)):=List.map_congr_left λk hk=>by have:k<i:=List.mem_range.1 hk;rw[upd_ne _ _ (by omega)]
   rw[e1];omega
  .have:=ih (by omega)
   rw[upd_ne _ _ (λx=>hk x.symm)];omega
theorem sumT_le (g:Nat->Ph->Nat) (l:Nat->Ph) (hi:i<N):g i (l i)<=sumT N g l:=by
 unfold sumT;induction N with
 |zero=>omega
 |succ N ih =>rw[List.range_succ,List.map_append,List.sum_append];simp only[List.map_cons,List.map_nil,List.sum_cons,List.sum_nil,Nat.add_zero];by_cases hk:i=N;subst hk;omega;have:=ih (by omega);omega
theorem sumT_mono (g h:Nat->Ph->Nat) (l l':Nat->Ph) (hh:∀ i,i<N->g i (l i)<=h i (l' i)):sumT N g l<=sumT N h l':=by
 unfold sumT;induction N with
 |zero=>simp
 |succ N ih =>rw[List.range_succ,List.map_append,List.map_append,List.sum_append,List.sum_append];simp only[List.map_cons,List.map_nil,List.sum_cons,List.sum_nil,Nat.add_zero];have:=ih (λi hi=>hh i (by omega));have:=hh N (by omega);omega
def busyN (N:Nat) (l:Nat->Ph):Nat:=sumT N (λ_=>inA) l
def doneN (N:Nat) (cl:Nat->List Cl) (l:Nat->Ph):Nat:=sumT N (λi=>upC (cl i)) l
def StC (N s:Nat) (cl:Nat->List Cl) (l:Nat->Ph) (A:List Stp) (st:Stp):Prop :=
 ∃ i:Nat,st.th=i∧i<N∧(st.op=9->∃ ii:Nat,st.ol=ii∧ii<(cl i).length) ∧
   (st.op=10->∃ (ii:Nat) (c:Cl),st.ol=ii∧(cl i)[ii]? = some c∧ii<upC (cl i) (l i)∧(c.po=2->∀ a,(l i).ans[ii]? = some a->a.2∈(rep cl A).seen i∧((rep cl A).quiet i=true->(rep cl A).count i=2*s)))
def EndsC (N s:Nat) (cl:Nat->List Cl) (l:Nat->Ph) (L:List Stp):Prop:=∀ A st B,L=A++st :: B->StC N s cl l A st
def Stay (N:Nat) (cl:Nat->List Cl) (l l':Nat->Ph):Prop:=∀ i,i<N->upC (cl i) (l i)<=upC (cl i) (l' i)∧∀ k,k<upC (cl i) (l i)->(l' i).ans[k]? = (l i).ans[k]?
theorem StC.stay {cl:Nat->List Cl}{l':Nat->Ph}{A:List Stp}{st:Stp}(h:StC N s cl l A st) (k:Stay N cl l l'):StC N s cl l' A st:=by obtain ⟨i,h1,h2,h3,h4⟩:=h;obtain ⟨k1,k2⟩:=k i h2;refine ⟨i,h1,h2,h3,λe=>?_⟩;obtain ⟨ii,c,a1,a2,a3,a4⟩:=h4 e;exact ⟨ii,c,a1,a2,by omega,λp a ha=>a4 p a (by rw[<-k2 ii a3];exact ha)⟩
theorem EndsC.one {cl:Nat->List Cl}{L:List Stp}(h:EndsC N s cl l L) {st:Stp}(hs:StC N s cl l L st):EndsC N s cl l (L++[st]):=λA x B e=>by
 rcases List.append_eq_append_iff.1 e with ⟨A',e1,e2⟩|⟨A',e1,e2⟩
 .cases A' with
  |nil =>simp at e1 e2;obtain ⟨rfl,_⟩:=e2;rw[e1];exact hs
  |cons y ys=>simp at e2
 .cases A' with
  |nil =>simp at e1 e2;obtain ⟨rfl,_⟩:=e2;rw[<-e1];exact hs
  |cons y ys =>simp at e2;obtain ⟨rfl,_⟩:=e2;exact h A x ys e1
theorem EndsC.more {cl:Nat->List Cl}:∀ (X:List Stp) {L:List Stp},EndsC N s cl l L->(∀ A st,st∈X->StC N s cl l A st)->EndsC N s cl l (L++X)
 | [],L,h,_=>by rw[List.append_nil];exact h
 |st :: X,L,h,hX=>by have:=EndsC.more X (h.one (hX L st (List.mem_cons_self ..))) (λA x hx=>hX A x (List.mem_cons_of_mem _ hx));rw[List.append_assoc,List.singleton_append] at this;exact this
theorem xok_stc {cl:Nat->List Cl}(hi:i<N) {st:Stp}(h:XOk cl i ii (l i) st) (A:List Stp):StC N s cl l A st:=by obtain ⟨h1,k,c,h2,h3,h4,h5,h6⟩:=h;refine ⟨i,h2,hi,λ_=>⟨k,h3,(Qc h5).1⟩,λe=>?_⟩;obtain ⟨a1,a2,a3⟩:=h6 e;exact ⟨k,c,h3,h5,a1,λp=>absurd p a3⟩
structure CI (N s:Nat) (cl:Nat->List Cl) (v:Vw):Prop where
 kl:v.K.length=s
 stk:v.stk=false
 seat:∀ i,i<N->CSeat s (cl i) (rep cl v.L) v.K i (v.l i)
 alen:∀ i,i<N->(v.l i).ans.length=(cl i).length
 busy:(rep cl v.L).busy=busyN N v.l
 qb:∀ i,(rep cl v.L).quiet i=true->(rep cl v.L).busy=0
 tot:(rep cl v.L).total=(v.K.map R1.amtS).sum
 sml:∀ x∈v.K,R1.ver x<=doneN N cl v.l∧-1000*(doneN N cl v.l:Int)<=R1.amtS x∧R1.amtS x<=1000*(doneN N cl v.l:Int)
 ends:EndsC N s cl v.l v.L
theorem CI.few {cl:Nat->List Cl}(h:CI N s cl v) (hc:((List.range N).map λi=>(cl i).length).sum<=512):doneN N cl v.l<=512:=by
 refine Qk ?_ hc;refine sumT_mono (λi=>upC (cl i)) (λi _=>(cl i).length) v.l v.l (λi hi=>?_);have hs:=h.seat i hi;cases hl:v.l i with
 |done a=>exact Qi _
 |wait j q r k a=>rw[hl] at hs;exact hs.elim
 |turn op j q r k a =>rw[hl] at hs;obtain ⟨_,_,_,_,c,hc,_⟩:=hs;exact Nat.le_of_lt (Qc hc).1
theorem CI.totI {cl:Nat->List Cl}(h:CI N s cl v) (h16:s<=16) (hd:doneN N cl v.l<=512):R1.totI v.K=(rep cl v.L).total:=by rw[h.tot];exact R1.totI_is v.K (λx hx=>by have:=h.sml x hx;omega) (by rw[h.kl];exact h16)
theorem CI.stays {cl:Nat->List Cl}(h:CI N s cl v) (hi:i<N) {op:Int}{rest:List Cl}{ans:List (Int×Int)}(hl:v.l i=.turn op j q rest ii ans) {op':Int}{j':Nat}{q':Q}
 (e:Els i (.turn op' j' q' rest ii ans) v v1) (hK:v1.K=v.K) (hst:v1.stk=v.stk) (hL:v1.L=v.L++[⟨i,j,op,x,x⟩]) (hop:op=1∨op=4) (hin:inA (.turn op' j' q' rest ii ans)=inA (v.l i))
 (hs:CSeat s (cl i) { rep cl v.L with count:=upd (rep cl v.L).count i ((rep cl v.L).count i+1) } v.K i (.turn op' j' q' rest ii ans)):CI N s cl v1:=by
 have hr:rep cl v1.L={ rep cl v.L with count:=upd (rep cl v.L).count i ((rep cl v.L).count i+1) }:=by rw[hL,rep_one];rcases hop with rfl|rfl;exact rs_look j x;exact rs_vain j x
 have hu:upC (cl i) (.turn op' j' q' rest ii ans)=upC (cl i) (v.l i):=by rw[hl];rfl
 have hdn:doneN N cl v1.l=doneN N cl v.l:=by have:=sumT_upd (λi=>upC (cl i)) v.l hi (.turn op' j' q' rest ii ans);unfold doneN;rw[e.l];omega
 have hbn:busyN N v1.l=busyN N v.l:=by have:=sumT_upd (λ_=>inA) v.l hi (.turn op' j' q' rest ii ans);unfold busyN;rw[e.l];omega
 have hsty:Stay N cl v.l v1.l:=λk hk=>by
  rw[e.l];by_cases hne:k=i
  .subst hne
   rw[upd_same];exact ⟨Nat.le_of_eq hu.symm,λm _=>by rw[hl];rfl⟩
  rw[upd_ne _ _ hne];exact ⟨Qi _,λ_ _=>rfl⟩
 refine ⟨by rw[hK];exact h.kl,by rw[hst];exact h.stk,λk hk=>?_,λk hk=>?_,by rw[hr,hbn];exact h.busy,λk hk=>by rw[hr] at hk ⊢;exact h.qb k hk,by rw[hr,hK];exact h.tot,by rw[hK,hdn];exact h.sml,?_⟩
 .rw[hr,hK,e.l]
  by_cases hne:k=i;subst hne;rw[upd_same];exact hs;rw[upd_ne _ _ hne];exact (h.seat k hk).oth (look_oth _ _ hne)
 .rw[e.l]
  by_cases hne:k=i
  .subst hne
   rw[upd_same];have:=h.alen k hk;rw[hl] at this;exact this
  rw[upd_ne _ _ hne];exact h.alen k hk
 .rw[hL]
  refine EndsC.one (λA st B e'=>(h.ends A st B e').stay hsty) ⟨i,rfl,hi,λe9=>?_,λe10=>?_⟩
  .have e9:op=9:=e9
   rcases hop with rfl|rfl<;>simp at e9
  .have e10:op=10:=e10
   rcases hop with rfl|rfl<;>simp at e10
theorem CI.answers (h0:0<s) {cl:Nat->List Cl}(h:CI N s cl v) (hi:i<N) {op:Int}{rest:List Cl}{ans:List (Int×Int)}(hl:v.l i=.turn op j q rest ii ans) {l':Ph}{o n:Int}{X:List Stp}
 (hrest:rest=(cl i).drop (ii+1)) (hc:(cl i)[ii]? = some c) (hin:inA (v.l i)=if c.po=1 then 1 else 0) (hop:op=1∨op=4)
 (hfw:Fw (mcC s) i false rest (ii+1) ((0:Int)==4) (ans.set ii (0,x)) X l') (e:Els i l' v v1) (hst:v1.stk=v.stk) (hL:v1.L=v.L++⟨i,j,op,o,n⟩ :: ⟨i,-1,10,ii,0⟩ :: X)
 {r1:Rp} (hr1:rs cl (rep cl v.L) ⟨i,j,op,o,n⟩=r1) (kl:v1.K.length=s) (hoth:∀ k,k<N->k≠i->CSeat s (cl k) r1 v1.K k (v.l k)) (hb:r1.busy=busyN N v.l) (hq:∀ k,r1.quiet k=true->r1.busy=0) (ht:r1.total=(v1.K.map R1.amtS).sum)
 (hsm:∀ y∈v1.K,R1.ver y<=doneN N cl v.l+1∧-1000*((doneN N cl v.l:Int)+1)<=R1.amtS y∧R1.amtS y<=1000*((doneN N cl v.l:Int)+1))
 (hans:c.po=2->x∈r1.seen i∧(r1.quiet i=true->r1.count i=2*s)):CI N s cl v1:=by
 have hpo:=(po_of hc).1;have hlt:ii<(cl i).length:=(Qc hc).1;have hal:ans.length=(cl i).length:=by have:=h.alen i hi;rw[hl] at this;exact this
 have hile:inA (v.l i)<=busyN N v.l:=sumT_le (λ_=>inA) v.l hi;have e2:=rs_end (cl:=cl) (r:=r1) (i:=i) ii 0;have hb2:(rs cl r1 ⟨i,-1,10,ii,0⟩).busy=(busyN N v.l:Int) - inA (v.l i):=by rw[e2,hin];show (if poOf cl i ii=1 then r1.busy - 1 else r1.busy)=_;rw[hpo,hb];split<;>simp
 have hq2:∀ k,(rs cl r1 ⟨i,-1,10,ii,0⟩).quiet k=true->(rs cl r1 ⟨i,-1,10,ii,0⟩).busy=0:=λk hk=>by rw[hb2];rw[e2] at hk;have:=hq k hk;omega
 have hrep:rep cl v1.L=X.foldl (rs cl) (rs cl r1 ⟨i,-1,10,ii,0⟩):=by rw[hL,rep_app,<-hr1];rfl
 have f:=fw_ctr h0 (cl:=cl) hfw (rs cl r1 ⟨i,-1,10,ii,0⟩) v1.K hrest hlt (by rw[List.length_set];exact hal) rfl (by rw[hb2];omega) hq2;rw[<-hrep] at f;have hup:upC (cl i) (v.l i)=ii:=by rw[hl];rfl
 have hul:=f.up;have hdn:doneN N cl v.l+1<=doneN N cl v1.l:=by have:=sumT_upd (λi=>upC (cl i)) v.l hi l';unfold doneN;rw[e.l];omega
 have hbn:=sumT_upd (λ_=>inA) v.l hi l';have hsty:Stay N cl v.l v1.l:=λk hk=>by
  rw[e.l];by_cases hne:k=i
  .subst hne
   rw[upd_same];refine ⟨by omega,λm hm=>?_⟩;rw[f.old m (by omega),Qq,if_neg (by omega),hl];rfl
  rw[upd_ne _ _ hne];exact ⟨Qi _,λ_ _=>rfl⟩
 have hli:v1.l i=l':=by rw[e.l,upd_same]
 refine ⟨kl,by rw[hst];exact h.stk,λk hk=>?_,λk hk=>?_,?_,f.qb,?_,λy hy=>?_,?_⟩
 .rw[e.l]
  by_cases hne:k=i
  .subst hne;rw[upd_same];exact f.seat
  .rw[upd_ne _ _ hne]
   exact ((hoth k hk hne).oth (end_oth cl r1 v1.K ii 0 hne)).oth (f.oth k hne)
 .rw[e.l]
  by_cases hne:k=i;subst hne;rw[upd_same];exact f.len;rw[upd_ne _ _ hne];exact h.alen k hk
 .rw[f.busy,hb2,e.l]
  unfold busyN at hile ⊢;omega
 rw[f.tot,e2];exact ht
 .have:=hsm y hy
  omega
 .rw[hL]
  have hst1:StC N s cl v1.l v.L ⟨i,j,op,o,n⟩:=⟨i,rfl,hi,λe9=>by
   have e9:op=9:=e9;rcases hop with rfl|rfl<;>simp at e9,λe10=>by
   have e10:op=10:=e10;rcases hop with rfl|rfl<;>simp at e10⟩
  have hst2:StC N s cl v1.l (v.L++[⟨i,j,op,o,n⟩]) ⟨i,-1,10,ii,0⟩:=by refine ⟨i,rfl,hi,λe9=>absurd (show (10:Int)=9 from e9) (by decide),λ_=>⟨ii,c,rfl,hc,by rw[hli];omega,λp a ha=>?_⟩⟩;rw[hli,f.old ii (by omega),Qq,if_pos rfl,if_pos (by omega)] at ha;cases ha;rw[rep_one,hr1];exact hans p
  have:=EndsC.more X (EndsC.one (EndsC.one (λA st B e'=>(h.ends A st B e').stay hsty) hst1) hst2) (λA st hs=>xok_stc hi (by rw[hli];exact f.xs st hs) A);rw[List.append_assoc,List.append_assoc] at this;exact this
theorem set_getD (hj:j<K.length):K.set j (K.getD j 0)=K∧K[j]? = some (K.getD j 0):=by
 have h:K[j]? = some (K.getD j 0):=by rw[Ql,Qf hj];rfl
 refine ⟨?_,h⟩;apply List.ext_getElem?;intro k;rw[Qq];split
 .rename_i e
  subst e;first|exact h.symm|rw[if_pos hj,h]
 rfl
theorem sum_set (f:Int->Int):∀ (K:List Int) (j:Nat) (x y:Int),K[j]? = some x->((K.set j y).map f).sum=(K.map f).sum - f x+f y
 |a :: K,0,x,y,h=>by simp at h;subst h;simp only[List.set_cons_zero,List.map_cons,List.sum_cons];omega
 |a :: K,j+1,x,y,h=>by have:=sum_set f K j x y (by simpa using h);simp only[List.set_cons_succ,List.map_cons,List.sum_cons];omega
theorem cas_oth (cl:Nat->List Cl) (r:Rp) {n:Int}(hne:k≠i) (hy:K[j]? = some y) (hle:Le y (R1.addI y n)) (hp:poOf cl i (r.call i)=1) (hq:r.quiet k=false):Oth r (rs cl r ⟨i,j,4,y,R1.addI y n⟩) K (K.set j (R1.addI y n)) k:=by
 rw[rs_cas j y (R1.addI y n) hp (R1.addI_ne y n)];refine ⟨rfl,by show upd r.count i (r.count i+1) k=_;rw[upd_ne _ _ hne],λx hx=>List.mem_append_left _ hx,λ_=>?_,λh=>?_,λm a b ha hb=>?_,by rw[List.length_set]⟩
 .show _∈r.seen k++[_]
  simp
 .have h:r.quiet k=true:=h
  rw[hq] at h;cases h
 .rw[Qq] at hb
  split at hb
  .rename_i e
   subst e;split at hb
   .cases hb
    rw[hy] at ha;cases ha;exact hle
   cases hb
  .rw[ha] at hb
   cases hb;exact Le.refl _
theorem ctr_mv (h0:0<s) (h16:s<=16) {cl:Nat->List Cl}(hcs:((List.range N).map λi=>(cl i).length).sum<=512) (h:CI N s cl v) (m:Mv (mcC s) N v v1):CI N s cl v1:=by
 have hd:=h.few hcs;cases m with
 |stuck hs hall hex e =>obtain ⟨i,hi,j,q,r,k,a,hl⟩:=hex;have:=h.seat i hi;rw[hl] at this;exact this.elim
 |wake i j q rest ii ans X l' hi hl _ _ _ _ _ _ _ _ =>have:=h.seat i hi;rw[hl] at this;exact this.elim
 |free i j q rest ii ans X l' hi hl _ _ _ _ _ _ _ =>have:=h.seat i hi;rw[hl] at this;exact this.elim
 |turn i op j q rest ii ans X l' hi hl ho e hK hst hchg hL =>
  have hs:=h.seat i hi;rw[hl] at hs;obtain ⟨hrest,hcall,htot,hj,c,hc,h5⟩:=hs;have hpc:=po_of hc;rcases h5 with ⟨p1,rfl,rfl⟩|⟨p1,rfl,y,rfl⟩|⟨p2,rfl,l,rfl,hF⟩|⟨p2,rfl,d,snap,rfl,hF⟩
  . -- an Add looks
   have hjs:j<v.K.length:=by rw[hj,h.kl];simp only[clC,if_true,List.getD_cons_zero,Int.toNat_natCast];exact Nat.mod_lt _ h0
   obtain ⟨g1,g2⟩:=set_getD hjs;generalize v.K.getD j 0=x at *;have e3:(mcC s).turn (0,[((i % s:Nat):Int),c.ca.tmod 1000]) x=((x,x),x,.turn 4 (((i % s:Nat):Int)).toNat (1,[((i % s:Nat):Int),c.ca.tmod 1000,x])):=rfl;rw[e3] at ho hK hL;cases ho;exact h.stays hi hl e (hK.trans g1) hst hL (.inl rfl) (by rw[hl];rfl) ⟨hrest,hcall,htot,rfl,c,hc,.inr (.inl ⟨p1,rfl,x,rfl⟩)⟩
  . -- an Add tries
   have hjs:j<v.K.length:=by rw[hj,h.kl];simp only[clC,show ¬ ((1:Nat)=0) by decide,if_false,if_true,List.getD_cons_zero,Int.toNat_natCast];exact Nat.mod_lt _ h0
   obtain ⟨g1,g2⟩:=set_getD hjs;generalize v.K.getD j 0=x at *;by_cases hx:x=y
   .subst hx
    have e3:(mcC s).turn (1,[((i % s:Nat):Int),c.ca.tmod 1000,x]) x=((x,R1.addI x (c.ca.tmod 1000)),R1.addI x (c.ca.tmod 1000),.ans 0 0):=by simp[mcC,effCas,-Int.natCast_emod]
    rw[e3] at ho hK hL;rw[h.stk] at ho;have hin:inA (v.l i)=1:=by rw[hl];rfl
    have hile:inA (v.l i)<=busyN N v.l:=sumT_le (λ_=>inA) v.l hi;have hnq:∀ k,(rep cl v.L).quiet k=false:=λk=>by
     cases hk:(rep cl v.L).quiet k with
     |false=>rfl
     |true =>have h1:=h.qb k hk;have h2:=h.busy;omega
    have hxm:x∈v.K:=List.mem_of_getElem? g2;have hsx:=h.sml x hxm;have hle:Le x (R1.addI x (c.ca.tmod 1000)):=Le.add _ (by omega);have hp:poOf cl i ((rep cl v.L).call i)=1:=by rw[hcall,hpc.1];exact p1
    have hca:caOf cl i ((rep cl v.L).call i)=c.ca:=by rw[hcall];exact hpc.2
    have hn:-1000<c.ca.tmod 1000∧c.ca.tmod 1000<1000:=by
     have h1:=Int.tmod_lt_of_pos c.ca (show (0:Int)<1000 by decide);have h2:-1000<c.ca.tmod 1000:=by have:=Int.tmod_lt_of_pos (-c.ca) (show (0:Int)<1000 by decide);rw[Int.neg_tmod] at this;omega
     exact ⟨h2,h1⟩
    have ham:=R1.amtS_small hn (show -1000000<=R1.amtS x∧R1.amtS x<=1000000 by omega);have hrs:=rs_cas (cl:=cl) (r:=rep cl v.L) (i:=i) j x (R1.addI x (c.ca.tmod 1000)) hp (R1.addI_ne x _);cases ho with
    |ans hfw =>
     have hK:v1.K=v.K.set j (R1.addI x (c.ca.tmod 1000)):=hK;refine h.answers h0 hi hl hrest hc (by rw[hin,if_pos p1]) (.inr rfl) hfw e hst hL rfl (by rw[hK,List.length_set];exact h.kl) (λk hk hne=>by rw[hK];exact (h.seat k hk).oth (cas_oth cl _ hne g2 hle hp (hnq k))) ?_ (λk hk=>?_) ?_ (λz hz=>?_) (λp=>absurd p (by omega));rw[hrs];exact h.busy
     .rw[hrs] at hk
      have hk:(rep cl v.L).quiet k=true:=hk;rw[hnq k] at hk;cases hk
     .rw[hrs,hK,sum_set _ _ _ _ _ g2,ham,hca]
      show (rep cl v.L).total+_=_;rw[h.tot];omega
     .rw[hK] at hz
      rcases List.mem_or_eq_of_mem_set hz with hz|rfl;have:=h.sml z hz;omega
      .have hv:=R1.ver_addI x (c.ca.tmod 1000)
       have:=R1.ver_in x;rw[ham];omega
   .have e3:(mcC s).turn (1,[((i % s:Nat):Int),c.ca.tmod 1000,y]) x=((x,x),x,.turn 1 (((i % s:Nat):Int)).toNat (0,[((i % s:Nat):Int),c.ca.tmod 1000])):=by simp[mcC,effCas,hx,-Int.natCast_emod]
    rw[e3] at ho hK hL;cases ho;exact h.stays hi hl e (hK.trans g1) hst hL (.inr rfl) (by rw[hl];rfl) ⟨hrest,hcall,htot,rfl,c,hc,.inl ⟨p1,rfl,rfl⟩⟩
  . -- a Sum looks
   have hjl:j=l.length:=hj;subst hjl;have hjs:l.length<v.K.length:=by rw[h.kl];exact hF.lt
   obtain ⟨g1,g2⟩:=set_getD hjs;generalize v.K.getD l.length 0=x at *;have e3:(mcC s).turn (2,l) x=((x,x),x,nx2 s (l++[x])):=rfl;rw[e3] at ho hK hL;have hlen:(l++[x]).length=l.length+1:=by simp
   by_cases hlt:l.length+1<s
   .have e2:nx2 s (l++[x])=.turn 1 (l++[x]).length (2,l++[x]):=by unfold nx2;rw[if_pos (by rw[hlen];exact hlt)]
    have ho:On (mcC s) i v.stk rest ii ans (nx2 s (l++[x])) X l':=ho;rw[e2] at ho;cases ho;exact h.stays hi hl e (hK.trans g1) hst hL (.inl rfl) (by rw[hl];rfl) ⟨hrest,hcall,htot,rfl,c,hc,.inr (.inr (.inl ⟨p2,rfl,_,rfl,hF.look h.kl g2 hlt⟩))⟩
   .have e2:nx2 s (l++[x])=.turn 1 0 (3,l++[x]):=by unfold nx2;rw[if_neg (by rw[hlen];exact hlt)]
    have ho:On (mcC s) i v.stk rest ii ans (nx2 s (l++[x])) X l':=ho;rw[e2] at ho;cases ho;have hls:=hF.lt;exact h.stays hi hl e (hK.trans g1) hst hL (.inl rfl) (by rw[hl];rfl) ⟨hrest,hcall,htot,by simp[clC];omega,c,hc,.inr (.inr (.inr ⟨p2,rfl,_,v.K,rfl,hF.last h.kl g2 (by omega) (by rw[h.totI h16 hd];exact htot)⟩))⟩
  . -- it looks again
   have hjl:j=d.length - s:=hj;subst hjl;have hge:=hF.ge;have hlt2:=hF.lt;have hjs:d.length - s<v.K.length:=by rw[h.kl];omega
   obtain ⟨g1,g2⟩:=set_getD hjs;generalize v.K.getD (d.length - s) 0=x at *;have e3:(mcC s).turn (3,d) x=((x,x),x,nx3 s (d++[x])):=rfl;rw[e3] at ho hK hL;have hlen:(d++[x]).length=d.length+1:=by simp
   have ho:On (mcC s) i v.stk rest ii ans (nx3 s (d++[x])) X l':=ho;by_cases hlt:d.length+1<2*s
   .have e2:nx3 s (d++[x])=.turn 1 ((d++[x]).length - s) (3,d++[x]):=by unfold nx3;rw[if_pos (by rw[hlen];exact hlt)]
    rw[e2] at ho;cases ho;exact h.stays hi hl e (hK.trans g1) hst hL (.inl rfl) (by rw[hl];rfl) ⟨hrest,hcall,htot,rfl,c,hc,.inr (.inr (.inr ⟨p2,rfl,_,snap,rfl,hF.look g2 hlt⟩))⟩
   .obtain ⟨z1,z2⟩:=hF.last g2 (by omega)
    by_cases ht:(d++[x]).take s=(d++[x]).drop s
    .have e2:nx3 s (d++[x])=.ans 0 (R1.totI ((d++[x]).drop s)):=by unfold nx3;rw[if_neg (by rw[hlen];exact hlt),if_pos ht]
     rw[e2] at ho;rw[h.stk] at ho;have hK:v1.K=v.K:=hK.trans g1;have hrs:=rs_look (cl:=cl) (r:=rep cl v.L) (i:=i) (d.length - s) x;cases ho with
     |ans hfw =>refine h.answers h0 hi hl hrest hc (by rw[hl,p2];rfl) (.inl rfl) hfw e hst hL hrs (by rw[hK];exact h.kl) (λk hk hne=>by rw[hK];exact (h.seat k hk).oth (look_oth _ _ hne)) h.busy h.qb (by rw[hK];exact h.tot) (λy hy=>by rw[hK] at hy;have:=h.sml y hy;omega) (λ_=>⟨z1 ht,λhq=>?_⟩);show upd (rep cl v.L).count i ((rep cl v.L).count i+1) i=_;rw[upd_same];exact (z2 hq).1
    .have e2:nx3 s (d++[x])=.turn 1 0 (2,[]):=by unfold nx3;rw[if_neg (by rw[hlen];exact hlt),if_neg ht]
     rw[e2] at ho;cases ho;exact h.stays hi hl e (hK.trans g1) hst hL (.inl rfl) (by rw[hl];rfl) ⟨hrest,hcall,htot,rfl,c,hc,.inr (.inr (.inl ⟨p2,rfl,[],rfl,⟨h0,λj a b ha _=>by simp at ha,λhq=>absurd (z2 hq).2 ht⟩⟩))⟩
theorem sumT_succ (N:Nat) (g:Nat->Ph->Nat) (l:Nat->Ph) (l':Ph):sumT (N+1) g (upd l N l')=sumT N g l+g N l':=by
 unfold sumT;rw[List.range_succ,List.map_append,List.sum_append];simp only[List.map_cons,List.map_nil,List.sum_cons,List.sum_nil,Nat.add_zero];rw[upd_same];have e1:(List.range N).map (λk=>g k (upd l N l' k))=(List.range N).map (λk=>g k (l k)):=List.map_congr_left λk hk=>by have:k<N:=List.mem_range.1 hk;rw[upd_ne _ _ (by omega)]
 rw[e1]
theorem hi_ctr (h0:0<s) {cl:Nat->List Cl}{cs:List (List Cl)}{v':Vw}(h:Hi (mcC s) k cs v v'):cs=(List.range' k cs.length).map cl->CI k s cl v->CI (k+cs.length) s cl v':=by
 induction h with
 |nil=>exact λ_ hv=>hv
 |@cons k c cs v v1 v2 X l' hF e1 e2 e3 e4 e5 _ ih =>
  intro hc hv;rw[List.length_cons,List.range'_succ,List.map_cons] at hc;obtain ⟨hc1,hc2⟩:=List.cons.inj hc;rw[hv.stk] at hF;have hbn:(0:Int)<=(rep cl v.L).busy:=by rw[hv.busy];omega
  have f:=fw_ctr h0 (cl:=cl) (i:=k) hF (rep cl v.L) v.K (by rw[hc1];rfl) (Nat.zero_le _) (by rw[List.length_replicate,hc1]) rfl hbn hv.qb;rw[<-rep_app,<-e4] at f;have hl:v1.l=upd v.l k l':=e5.l;have hsty:∀ {A st},StC k s cl v.l A st->StC (k+1) s cl v1.l A st:=λ{A st} h=>by obtain ⟨i,a1,a2,a3,a4⟩:=h;refine ⟨i,a1,by omega,a3,λe=>?_⟩;rw[hl,upd_ne _ _ (by omega)];exact a4 e
  have hd:doneN k cl v.l<=doneN (k+1) cl v1.l:=by unfold doneN;rw[hl,sumT_succ];omega
  have:=ih hc2 ⟨by rw[e1];exact hv.kl,by rw[e2];exact hv.stk,λi hi=>?_,λi hi=>?_,?_,f.qb,by rw[f.tot,e1];exact hv.tot,λx hx=>?_,?_⟩
  .rw[show k+(c :: cs).length=k+1+cs.length by simp only[List.length_cons];omega]
   exact this
  .rw[hl,e1]
   by_cases hne:i=k
   .subst hne;rw[upd_same];exact f.seat
   rw[upd_ne _ _ hne];exact (hv.seat i (by omega)).oth (f.oth i hne)
  .rw[hl]
   by_cases hne:i=k;subst hne;rw[upd_same];exact f.len;rw[upd_ne _ _ hne];exact hv.alen i (by omega)
  .rw[f.busy,hv.busy,hl]
   unfold busyN;rw[sumT_succ];simp
  .rw[e1] at hx
   have:=hv.sml x hx;omega
  .rw[e4]
   refine EndsC.more X (λA st B e'=>hsty (hv.ends A st B e')) (λA st hs=>xok_stc (i:=k) (ii:=0) (by omega) ?_ A);rw[hl,upd_same];exact f.xs st hs
theorem ctr_run (h0:0<s) (h16:s<=16) {ss:List (Scr (mcC s))}{cl:Nat->List Cl}{n:Nat}{S S1:TS}{l0 l1:Nat->Ph}{K:List (Nat×Int)}{m:Nat}{p':PSt}
 (hn:ss.length=n) (hn8:n<=8) (hcs:((List.range n).map λi=>(cl i).length).sum<=512) (hss:ss.map (·.calls)=(List.range' 0 n).map cl) (ha:∀ x∈ss,x.ans=List.replicate x.calls.length (0,0))
 (ht:S.thr=[]) (htr:S.tr=[]) (hSn:S.n=0) (hsk:S.stk=false) (hK:K.map (·.2)=List.replicate s 0)
 (hH:Hires (mcC s) 0 ss S l0 S1 l1) (hT:Turns (mcC s) m ⟨S1,K,l1⟩ p'):
 ∃ v,p'.S.tr=flat v.L∧p'.S.n=v.L.length∧p'.S.stk=false∧v.l=p'.l∧CI n s cl v∧∀ i,i<n->∃ a,p'.l i=.done a:=by
 let v0:Vw:=⟨List.replicate s 0,false,S.chg,λi=>(thrI S i).se,l0,[]⟩
 have hs0:Seen ⟨S,K,l0⟩ v0:=⟨hK.symm,hsk.symm,rfl,λi=>rfl,rfl,htr,hSn,λi t h=>by rw[ht] at h;cases h⟩
 obtain ⟨v1,hi1,hs1⟩:=hires_hi (K:=K) hH v0 (by rw[ht];rfl) ha hs0;rw[hss] at hi1;have hc0:CI 0 s cl v0:=⟨by simp[v0],rfl,λi hi=>by omega,λi hi=>by omega,rfl,λi hi=>(by cases hi),by
  show (0:Int)=((List.replicate s 0).map R1.amtS).sum;rw[List.map_replicate,R1.amtS_zero];induction s with
  |zero=>rfl
  |succ k _=>simp,λx hx=>by
  have:x=0:=(List.mem_replicate.1 hx).2;subst this;have e1:=R1.amtS_zero;have e2:=R1.ver_zero;rw[e1,e2];omega,λA st B e=>by simp[v0] at e⟩
 have hci:=hi_ctr h0 hi1 (by simp) hc0;rw[List.length_map,List.length_range',Nat.zero_add] at hci;obtain ⟨a1,a2,a3,a4⟩:=Mf.hires_gd (metC s h0 h16) hH (by rw[ht];rfl) (by omega) (λi t h=>by rw[ht] at h;cases h);have g:Mf.Gd (metC s h0 h16) ⟨S1,K,l1⟩:=⟨by show S1.thr.length<=8;omega,a2⟩
 obtain ⟨v',hI,hs',_,hd⟩:=Mf.turns_mv (metC s h0 h16) (N:=n) (Inv:=CI n s cl) (λv v1 hv hm=>ctr_mv h0 h16 hcs hv hm) hT v1 (by show S1.thr.length=n;omega) g hs1 hci;exact ⟨v',hs'.tr,hs'.n,by rw[<-hs'.stk];exact hI.stk,hs'.l,hI,λi hi=>by rw[<-hs'.l];exact hd i hi⟩
end Go.Proofs.YtfjjoohflcchnaaDoor.Gen
namespace Go.Proofs.YtfjjoohflcchnaaDoor.Gen
open Go Go.Lift Go.Conc Go.RowKit
open Go.Proofs.YtfjjoohflcchnaaDoor.His
open Go.ConcN (upd upd_same upd_ne)
variable {N i n:Nat} {an:Nat->List (Int×Int)} {L:List Stp}
inductive Sn9 (N:Nat) (cl:Nat->List Cl) (an:Nat->List (Int×Int)):List Stp->Prop
 |nil:Sn9 N cl an []
 |other {L:List Stp} {x:Stp}:Sn9 N cl an L->x.op≠9->x.op≠10->(rep cl (L++[x])).total=(rep cl L).total->(rep cl (L++[x])).seen=(rep cl L).seen->Sn9 N cl an (L++[x])
 |beg {L:List Stp} {i k:Nat} {c:Cl}:Sn9 N cl an L->i<N->nt L i=2*k->(cl i)[k]? = some c->No4 (an i) k->Sn9 N cl an (L++[⟨i,-1,9,k,0⟩])
 |add {L:List Stp} {x:Stp} {i k:Nat} {c:Cl}:Sn9 N cl an L->i<N->nt L i=2*k+1->(cl i)[k]? = some c->c.po=1->(an i)[k]? = some (0,0)->x.op≠9->x.op≠10->(rep cl (L++[x])).total=(rep cl L).total+c.ca.tmod 1000->(rep cl (L++[x])).seen=(λj=>(rep cl L).seen j++[(rep cl L).total+c.ca.tmod 1000])->Sn9 N cl an ((L++[x])++[⟨i,-1,10,k,0⟩])
 |sum {L:List Stp} {i k:Nat} {c:Cl} {y:Int}:Sn9 N cl an L->i<N->nt L i=2*k+1->(cl i)[k]? = some c->c.po=2->(an i)[k]? = some (0,y)->y∈(rep cl L).seen i->Sn9 N cl an (L++[⟨i,-1,10,k,0⟩])
def am (e:His.Ev):Int:=if e.op=1 then e.a.tmod 1000 else 0
def sumA:List His.Ev->Int
 | []=>0
 |e :: r=>am e+sumA r
theorem Ad:∀ (l r:List His.Ev),sumA (l++r)=sumA l+sumA r
 | [],r=>by simp[sumA]
 |e :: l,r=>by simp only[List.cons_append,sumA,Ad l r];omega
def okE (s:Int) (e:His.Ev):Prop:=(e.op=1∧e.ans=(0,0))∨(e.op=2∧e.ans=(0,s))
def okL:Int->List His.Ev->Prop
 |_,[]=>True
 |s,e :: r=>okE s e∧okL (s+am e) r
theorem okL_app:∀ (l r:List His.Ev) (s:Int),okL s (l++r)↔okL s l∧okL (s+sumA l) r
 | [],r,s=>by simp[okL,sumA]
 |e :: l,r,s=>by simp only[List.cons_append,okL,sumA,okL_app l r,and_assoc,Int.add_assoc]
theorem am_in (e:His.Ev):-1000<am e∧am e<1000:=by
 unfold am;split
 .have h1:=Int.tmod_lt_of_pos e.a (show (0:Int)<1000 by decide)
  have h2:=Int.tmod_lt_of_pos (-e.a) (show (0:Int)<1000 by decide);rw[Int.neg_tmod] at h2;omega
 omega
structure LC (cl:Nat->List Cl) (L:List Stp) (E:List His.Ev) (id:Nat->Nat) (ord R:List Nat):Prop where
 perm:R.Perm ord
 rel:R.Pairwise λm m'=>(E.getD m ev0).beg<(E.getD m' ev0).fin∧((E.getD m ev0).op=1->(E.getD m ev0).fin<(E.getD m' ev0).fin)
 ok:okL 0 (R.map λm=>E.getD m ev0)
 tot:sumA (R.map λm=>E.getD m ev0)=(rep cl L).total
 seen:∀ (i k:Nat),nt L i=2*k+1->∀ y∈(rep cl L).seen i,∃ U V,R=U++V∧sumA (U.map λm=>E.getD m ev0)=y∧(V=[]∨∃ A V',V=A :: V'∧(E.getD A ev0).op=1∧(E.getD (id i) ev0).beg<(E.getD A ev0).fin)
def triv:Ways Unit:=λ_ e=>[(e.ans,())]
section
variable {cl:Nat->List Cl}{an:Nat->List (Int×Int)}{L:List Stp}{E:List His.Ev}{id:Nat->Nat}{ord R:List Nat}
theorem rep_beg (i k:Nat):(rep cl (L++[⟨i,-1,9,k,0⟩])).total=(rep cl L).total∧(rep cl (L++[⟨i,-1,9,k,0⟩])).seen=upd (rep cl L).seen i [(rep cl L).total]:=by rw[rep_one];by_cases h:poOf cl i k=1;rw[rs_begin1 k h];exact ⟨rfl,rfl⟩;rw[rs_begin k h];exact ⟨rfl,rfl⟩
theorem rep_fin (i k:Nat) (e:Int):(rep cl (L++[⟨i,-1,10,k,e⟩])).total=(rep cl L).total∧(rep cl (L++[⟨i,-1,10,k,e⟩])).seen=(rep cl L).seen:=by rw[rep_one,rs_end k e];exact ⟨rfl,rfl⟩
theorem LC.skip (h:LC cl L E id ord R) {x:Stp}(h9:x.op≠9) (h10:x.op≠10) (ht:(rep cl (L++[x])).total=(rep cl L).total) (hs:(rep cl (L++[x])).seen=(rep cl L).seen):LC cl (L++[x]) E id ord R :=
 ⟨h.perm,h.rel,h.ok,h.tot.trans ht.symm,λi k hn y hy=>h.seen i k (by rw[nt_no h9 h10] at hn;exact hn) y (by rw[hs] at hy;exact hy)⟩
theorem in_len (hI:EvI cl an triv () L E id ord ()) (hp:R.Perm ord) {m:Nat}(hm:m∈R):∃ e,E[m]? = some e∧e.over=true:=hI.over m (hp.mem_iff.1 hm)
theorem LC.begin (hI:EvI cl an triv () L E id ord ()) (h:LC cl L E id ord R) {k:Nat}(hn:nt L i=2*k) (ev:His.Ev):LC cl (L++[⟨i,-1,9,k,0⟩]) (E++[ev]) (upd id i E.length) ord R:=by
 have old:∀ (m:Nat) (e:His.Ev),E[m]? = some e->(E++[ev]).getD m ev0=E.getD m ev0:=λm e he=>by rw[Ql,Ql,Qn (Qc he).1]
 have mem:∀ m∈R,(E++[ev]).getD m ev0=E.getD m ev0:=λm hm=>by obtain ⟨e,he,_⟩:=in_len hI h.perm hm;exact old m e he
 have mapR:∀ U:List Nat,(∀ m∈U,m∈R)->U.map (λm=>(E++[ev]).getD m ev0)=U.map λm=>E.getD m ev0:=λU hU=>List.map_congr_left λm hm=>mem m (hU m hm);obtain ⟨r1,r2⟩:=rep_beg (cl:=cl) (L:=L) i k;refine ⟨h.perm,h.rel.imp_of_mem λha hb hr=>by rw[mem _ ha,mem _ hb];exact hr,by rw[mapR R λ_ hm=>hm];exact h.ok,by rw[mapR R λ_ hm=>hm,r1];exact h.tot,λj q hq y hy=>?_⟩;by_cases e:j=i
 .subst e
  rw[r2,upd_same,List.mem_singleton] at hy;subst hy;exact ⟨R,[],(List.append_nil R).symm,by rw[mapR R λ_ hm=>hm];exact h.tot,.inl rfl⟩
 .rw[r2,upd_ne _ _ e] at hy
  rw[nt_oth _ e] at hq;obtain ⟨U,V,hR,hu,hv⟩:=h.seen j q hq y hy;obtain ⟨e1,c1,k1,_⟩:=hI.act j q hq;refine ⟨U,V,hR,by rw[mapR U λm hm=>by rw[hR];exact List.mem_append_left _ hm];exact hu,hv.imp (λx=>x) λ⟨A,V',a1,a2,a3⟩=>⟨A,V',a1,?_⟩⟩;rw[mem A (by rw[hR,a1];simp),upd_ne _ _ e,old _ e1 k1];exact ⟨a2,a3⟩
theorem fin_aux (hI:EvI cl an triv () L E id ord ()) (hp:R.Perm ord) {e0:His.Ev}(he0:E[id i]? = some e0) (hf0:e0.fin=-1) (ht0:e0.thr=(i:Int)) (e':His.Ev):
 (∀ m∈R,(E.set (id i) e').getD m ev0=E.getD m ev0)∧(E.set (id i) e').getD (id i) ev0=e'∧(∀ j q,j≠i->nt L j=2*q+1->(E.set (id i) e').getD (id j) ev0=E.getD (id j) ev0)∧(∀ m∈R,(E.getD m ev0).beg<L.length∧(E.getD m ev0).fin<L.length):=by
 have hlt0:id i<E.length:=(Qc he0).1;have ne:∀ m,m≠id i->(E.set (id i) e').getD m ev0=E.getD m ev0:=λm hm=>by rw[Ql,Ql,Qq,if_neg (λx=>hm x.symm)]
 refine ⟨λm hm=>ne m λx=>?_,?_,λj q hj hq=>ne _ λx=>?_,λm hm=>?_⟩
 .obtain ⟨e,he,ho⟩:=in_len hI hp hm
  rw[x,he0] at he;cases he;exact over_fin.1 ho hf0
 rw[Ql,Qq,if_pos rfl,if_pos hlt0];rfl
 .obtain ⟨e1,c1,k1,k2,_⟩:=hI.act j q hq
  rw[x,he0] at k1;cases k1;rw[ht0] at k2;exact hj (by omega)
 .obtain ⟨e,he,ho⟩:=in_len hI hp hm
  rw[getD_ev he];have:=hI.timed m e he;refine ⟨this.2.1,?_⟩;rcases this.2.2 with h|h;exact absurd h (over_fin.1 ho);exact h.2
theorem LC.add (hI:EvI cl an triv () L E id ord ()) (h:LC cl L E id ord R) {i k:Nat}{c:Cl}{x:Stp}{e0:His.Ev}(hn:nt L i=2*k+1) (he0:E[id i]? = some e0) (hf0:e0.fin=-1) (ht0:e0.thr=(i:Int)) (hop:e0.op=1) (ha:e0.a=c.ca) (h9:x.op≠9) (h10:x.op≠10)
 (ht:(rep cl (L++[x])).total=(rep cl L).total+c.ca.tmod 1000) (hs:(rep cl (L++[x])).seen=(λj=>(rep cl L).seen j++[(rep cl L).total+c.ca.tmod 1000])):
 LC cl ((L++[x])++[⟨i,-1,10,k,0⟩]) (E.set (id i) ⟨e0.thr,e0.op,e0.a,e0.b,e0.beg,(L++[x]).length,0,0⟩) id (ord++[id i]) (R++[id i]):=by
 obtain ⟨f1,f2,f3,f4⟩:=fin_aux hI h.perm he0 hf0 ht0 ⟨e0.thr,e0.op,e0.a,e0.b,e0.beg,(L++[x]).length,0,0⟩;generalize hE:E.set (id i) (⟨e0.thr,e0.op,e0.a,e0.b,e0.beg,(L++[x]).length,0,0⟩:His.Ev)=E2 at f1 f2 f3;have hlen:((L++[x]).length:Int)=(L.length:Int)+1:=by simp
 have mapR:∀ U:List Nat,(∀ m∈U,m∈R)->U.map (λm=>E2.getD m ev0)=U.map λm=>E.getD m ev0:=λU hU=>List.map_congr_left λm hm=>f1 m (hU m hm);obtain ⟨r1,r2⟩:=rep_fin (cl:=cl) (L:=L++[x]) i k 0;have ham:am (⟨e0.thr,e0.op,e0.a,e0.b,e0.beg,(L++[x]).length,0,0⟩:His.Ev)=c.ca.tmod 1000:=by unfold am;rw[if_pos hop,<-ha]
 have hsum:sumA ((R++[id i]).map λm=>E2.getD m ev0)=(rep cl L).total+c.ca.tmod 1000:=by rw[List.map_append,Ad,mapR R λ_ hm=>hm,h.tot,List.map_singleton,f2];show _+(am _+0)=_;rw[ham];omega
 refine ⟨h.perm.append_right _,?_,?_,by rw[r1,ht];exact hsum,λj q hq y hy=>?_⟩
 .rw[List.pairwise_append]
  refine ⟨h.rel.imp_of_mem λha hb hr=>by rw[f1 _ ha,f1 _ hb];exact hr,List.pairwise_singleton _ _,λu hu z hz=>?_⟩;rw[List.mem_singleton] at hz;subst hz;have:=f4 u hu;rw[f1 u hu,f2];exact ⟨by show _<((L++[x]).length:Int);omega,λ_=>by show _<((L++[x]).length:Int);omega⟩
 .rw[List.map_append,okL_app,mapR R λ_ hm=>hm,List.map_singleton,f2]
  exact ⟨h.ok,.inl ⟨hop,rfl⟩,trivial⟩
 .have hji:j≠i:=λe=>by subst e;rw[nt_own _ _ _ _ (.inr rfl),nt_no h9 h10,hn] at hq;omega
  rw[nt_oth _ hji,nt_no h9 h10] at hq;rw[r2,hs] at hy;have hy:y∈(rep cl L).seen j++[(rep cl L).total+c.ca.tmod 1000]:=hy;rw[List.mem_append,List.mem_singleton] at hy;rcases hy with hy|rfl
  .obtain ⟨U,V,hR,hu,hv⟩:=h.seen j q hq y hy
   refine ⟨U,V++[id i],by rw[hR,List.append_assoc],by rw[mapR U λm hm=>by rw[hR];exact List.mem_append_left _ hm];exact hu,.inr ?_⟩;rcases hv with rfl|⟨A,V',rfl,a2,a3⟩
   .refine ⟨id i,[],rfl,by rw[f2];exact hop,?_⟩
    rw[f3 j q hji hq,f2];obtain ⟨e1,c1,k1,_⟩:=hI.act j q hq;rw[getD_ev k1];have:=(hI.timed _ _ k1).2.1;show _<((L++[x]).length:Int);omega
   .refine ⟨A,V'++[id i],rfl,?_,?_⟩
    rw[f1 A (by rw[hR];simp)];exact a2;rw[f1 A (by rw[hR];simp),f3 j q hji hq];exact a3
  exact ⟨R++[id i],[],(List.append_nil _).symm,hsum,.inl rfl⟩
theorem LC.sum (hI:EvI cl an triv () L E id ord ()) (h:LC cl L E id ord R) {i k:Nat}{y:Int}{e0:His.Ev}(hn:nt L i=2*k+1) (he0:E[id i]? = some e0) (hf0:e0.fin=-1) (ht0:e0.thr=(i:Int)) (hop:e0.op=2) (hy:y∈(rep cl L).seen i):
 ∃ R',LC cl (L++[⟨i,-1,10,k,0⟩]) (E.set (id i) ⟨e0.thr,e0.op,e0.a,e0.b,e0.beg,L.length,0,y⟩) id (ord++[id i]) R':=by
 obtain ⟨f1,f2,f3,f4⟩:=fin_aux hI h.perm he0 hf0 ht0 ⟨e0.thr,e0.op,e0.a,e0.b,e0.beg,L.length,0,y⟩;generalize hE:E.set (id i) (⟨e0.thr,e0.op,e0.a,e0.b,e0.beg,L.length,0,y⟩:His.Ev)=E2 at f1 f2 f3 ⊢;have mapR:∀ U:List Nat,(∀ m∈U,m∈R)->U.map (λm=>E2.getD m ev0)=U.map λm=>E.getD m ev0:=λU hU=>List.map_congr_left λm hm=>f1 m (hU m hm);obtain ⟨r1,r2⟩:=rep_fin (cl:=cl) (L:=L) i k 0;have ham:am (⟨e0.thr,e0.op,e0.a,e0.b,e0.beg,L.length,0,y⟩:His.Ev)=0:=by unfold am;rw[if_neg (by show ¬ e0.op=1;rw[hop];decide)]
 obtain ⟨U,V,hR,hu,hv⟩:=h.seen i k hn y hy;have inU:∀ m∈U,m∈R:=λm hm=>by rw[hR];exact List.mem_append_left _ hm
 have inV:∀ m∈V,m∈R:=λm hm=>by rw[hR];exact List.mem_append_right _ hm
 have hrel:=h.rel;rw[hR,List.pairwise_append] at hrel;obtain ⟨p1,p2,p3⟩:=hrel;have hbeg:(E.getD (id i) ev0).beg=e0.beg:=by rw[getD_ev he0]
 have hok:=h.ok;rw[hR,List.map_append,okL_app] at hok;refine ⟨U++id i :: V,?_,?_,?_,?_,λj q hq z hz=>?_⟩
 .refine List.perm_middle.trans ((List.perm_append_singleton _ _).symm.trans ?_)
  rw[<-hR];exact h.perm.append_right _
 .rw[List.pairwise_append,List.pairwise_cons]
  refine ⟨p1.imp_of_mem λha hb hr=>by rw[f1 _ (inU _ ha),f1 _ (inU _ hb)];exact hr,⟨λv hv'=>?_,p2.imp_of_mem λha hb hr=>by rw[f1 _ (inV _ ha),f1 _ (inV _ hb)];exact hr⟩,λu hu' z hz=>?_⟩
  .rw[f2,f1 v (inV v hv')]
   refine ⟨?_,λq=>absurd (q.symm.trans hop) (by decide)⟩;show e0.beg<_;rcases hv with rfl|⟨A,V',rfl,a2,a3⟩
   cases hv'
   .rw[hbeg] at a3
    rcases List.mem_cons.1 hv' with rfl|hv';exact a3
    .have:=((List.pairwise_cons.1 p2).1 v hv').2 a2
     omega
  .have:=f4 u (inU u hu')
   rcases List.mem_cons.1 hz with rfl|hz
   .rw[f1 u (inU u hu'),f2]
    exact ⟨this.1,λ_=>this.2⟩
   .rw[f1 u (inU u hu'),f1 z (inV z hz)]
    exact p3 u hu' z hz
 .rw[List.map_append,okL_app,mapR U inU,List.map_cons,mapR V inV,f2]
  refine ⟨hok.1,.inr ⟨hop,?_⟩,?_⟩;rw[hu];show ((0:Int),y)=(0,0+y);rw[Int.zero_add];rw[ham,Int.add_zero];exact hok.2
 .have:=h.tot
  rw[hR,List.map_append,Ad] at this;rw[r1,List.map_append,Ad,mapR U inU,List.map_cons,mapR V inV,f2];show _+(am _+_)=_;rw[ham];omega
 .have hji:j≠i:=λe=>by subst e;rw[nt_own _ _ _ _ (.inr rfl),hn] at hq;omega
  rw[nt_oth _ hji] at hq;rw[r2] at hz;obtain ⟨U2,V2,hR2,hu2,hv2⟩:=h.seen j q hq z hz;have inU2:∀ m∈U2,m∈R:=λm hm=>by rw[hR2];exact List.mem_append_left _ hm
  have inV2:∀ m∈V2,m∈R:=λm hm=>by rw[hR2];exact List.mem_append_right _ hm
  have hv3:V2=[]∨∃ A V',V2=A :: V'∧(E2.getD A ev0).op=1∧(E2.getD (id j) ev0).beg<(E2.getD A ev0).fin:=hv2.imp (λx=>x) λ⟨A,V',a1,a2,a3⟩=>⟨A,V',a1,by
   rw[f1 A (inV2 A (by rw[a1];exact List.mem_cons_self ..)),f3 j q hji hq];exact ⟨a2,a3⟩⟩
  rcases List.append_eq_append_iff.1 (hR2.symm.trans hR) with ⟨W,w1,w2⟩|⟨W,w1,w2⟩
  .cases W with
   |nil =>rw[List.append_nil] at w1;rw[List.nil_append] at w2;refine ⟨U2++[id i],V2,by rw[w1,w2];simp,?_,hv3⟩;rw[List.map_append,Ad,mapR U2 inU2,hu2,List.map_singleton,f2];show _+(am _+0)=_;rw[ham];omega
   |cons w W =>
    refine ⟨U2,w :: (W++id i :: V),by rw[w1];simp,by rw[mapR U2 inU2];exact hu2,.inr ?_⟩;rcases hv3 with q|⟨A,V',q,a2,a3⟩
    rw[w2] at q;cases q
    .rw[w2] at q
     obtain ⟨rfl,_⟩:=List.cons.inj q;exact ⟨w,_,rfl,a2,a3⟩
  .refine ⟨U++id i :: W,V2,by rw[w2];simp,?_,hv3⟩
   rw[w1,List.map_append,Ad] at hu2;rw[List.map_append,Ad,mapR U inU,List.map_cons,mapR W (λm hm=>inV m (by rw[w2];exact List.mem_append_left _ hm)),f2];show _+(am _+_)=_;rw[ham];omega
end
theorem sn_lin {cl:Nat->List Cl}(h:Sn9 N cl an L):∃ E id ord R,Ev9 cl an L E id∧EvI cl an triv () L E id ord ()∧LC cl L E id ord R:=by
 induction h with
 |nil=>exact ⟨[],_,[],[],.nil,⟨λm e he=>by simp at he,λi k hn=>by simp[nt] at hn,λm m' e e' _ he=>by simp at he,λm e i he=>by simp at he,List.nodup_nil,λm hm=>(nomatch hm),λm e he=>by simp at he,.nil,rfl⟩,⟨.nil,.nil,trivial,rfl,λi k hn=>by simp[nt] at hn⟩⟩
 |@other L x h h9 h10 ht hs ih =>obtain ⟨E,id,ord,R,h1,h2,h3⟩:=ih;exact ⟨E,id,ord,R,.other h1 h9 h10,h2.skip x (λi k hn=>by rw[nt_no h9 h10] at hn;exact hn) (λi m _ _=>.inl (nt_no h9 h10 i)),h3.skip h9 h10 ht hs⟩
 |beg h hi hn hc h4 ih =>obtain ⟨E,id,ord,R,h1,h2,h3⟩:=ih;exact ⟨_,_,ord,R,.beg h1 hn hc,h2.begin hn hc h4,LC.begin h2 h3 hn _⟩
 |@add L x i k c h hi hn hc hp ha h9 h10 ht hs ih =>
  obtain ⟨E,id,ord,R,h1,h2,h3⟩:=ih;obtain ⟨e0,c0,k1,k2,k3,k4,k5,k6,k7⟩:=h2.act i k hn;obtain rfl:c=c0:=by rw[hc] at k4;exact Qd k4
  have hn':nt (L++[x]) i=2*k+1:=by rw[nt_no h9 h10];exact hn
  have h2':=h2.skip x (λi k hn=>by rw[nt_no h9 h10] at hn;exact hn) (λi m _ _=>.inl (nt_no h9 h10 i));exact ⟨_,_,_,_,.fin (a:=(0,0)) (.other h1 h9 h10) hn' ha (by decide) k1,h2'.finish (a:=(0,0)) (o:=((0,0),())) hn' k1 k3 k2 (List.mem_singleton.2 rfl) rfl,LC.add h2 h3 hn k1 k3 k2 (k5.trans hp) k6 h9 h10 ht hs⟩
 |@sum L i k c y h hi hn hc hp ha hy ih =>
  obtain ⟨E,id,ord,R,h1,h2,h3⟩:=ih;obtain ⟨e0,c0,k1,k2,k3,k4,k5,k6,k7⟩:=h2.act i k hn;obtain rfl:c=c0:=by rw[hc] at k4;exact Qd k4
  obtain ⟨R',h4⟩:=LC.sum h2 h3 hn k1 k3 k2 (k5.trans hp) hy;exact ⟨_,_,_,R',.fin (a:=(0,y)) h1 hn ha (show ¬ (0:Int)=4 by decide) k1,h2.finish (a:=(0,y)) (o:=((0,y),())) hn k1 k3 k2 (List.mem_singleton.2 rfl) rfl,h4⟩
theorem Sn9.mono {cl:Nat->List Cl}{an':Nat->List (Int×Int)}(h:Sn9 N cl an L):(∀ i k,k<nt L i / 2->(an' i)[k]? = (an i)[k]?)->Sn9 N cl an' L:=by
 induction h with
 |nil=>intro _;exact .nil
 |@other L x h h9 h10 ht hs ih=>intro hk;exact .other (ih λi k hi=>hk i k (by have:=nt_le L x i;omega)) h9 h10 ht hs
 |@beg L i k c h hi hn hc h4 ih =>intro hk;refine .beg (ih λj q hq=>hk j q (by have:=nt_le L ⟨i,-1,9,k,0⟩ j;omega)) hi hn hc λq a hq ha=>h4 q a hq ?_;rw[<-hk i q (by rw[nt_own _ _ _ _ (.inl rfl)];omega)];exact ha
 |@add L x i k c h hi hn hc hp ha h9 h10 ht hs ih =>intro hk;refine .add (ih λj q hq=>hk j q (by have:=nt_le L x j;have:=nt_le (L++[x]) ⟨i,-1,10,k,0⟩ j;omega)) hi hn hc hp ?_ h9 h10 ht hs;rw[hk i k (by rw[nt_own _ _ _ _ (.inr rfl),nt_no h9 h10];omega)];exact ha
 |@sum L i k c y h hi hn hc hp ha hy ih =>intro hk;refine .sum (ih λj q hq=>hk j q (by have:=nt_le L ⟨i,-1,10,k,0⟩ j;omega)) hi hn hc hp ?_ hy;rw[hk i k (by rw[nt_own _ _ _ _ (.inr rfl)];omega)];exact ha
section
variable {s N:Nat}{cl:Nat->List Cl}
theorem opOk_ctr:OpOk (mcC s):=by
 refine ⟨λi c op j q h=>?_,λq x op j q' h=>?_,λq op j q' h=>by cases h⟩
 .unfold mcC at h
  simp only at h;split at h;cases h;exact ⟨by decide,by decide⟩
  .split at h
   cases h;exact ⟨by decide,by decide⟩;cases h
 .unfold mcC at h
  simp only at h;split at h;cases h;exact ⟨by decide,by decide⟩
  .split at h
   .simp only at h
    split at h;cases h;cases h;exact ⟨by decide,by decide⟩
   .split at h
    .simp only[nx2] at h
     split at h<;>cases h<;>exact ⟨by decide,by decide⟩
    .simp only[nx3] at h
     split at h;cases h;exact ⟨by decide,by decide⟩
     .split at h
      cases h;cases h;exact ⟨by decide,by decide⟩
theorem mcC_waitF {c:Cl}{j:Nat}{q:Q}(h:(mcC s).start i c=.wait j q):False:=by
 unfold mcC at h;simp only at h;split at h;cases h
 .split at h<;>cases h
theorem fw_two {rest:List Cl}{ii:Nat}{sk:Bool}{ans:List (Int×Int)}{X:List Stp}{l:Ph}(h:Fw (mcC s) i false rest ii sk ans X l):sk=false->(∀ c∈rest,c.po=1∨c.po=2)->l.ans=ans∧(X=[]∨(X=[⟨i,-1,9,ii,0⟩]∧∃ c,rest.head? = some c)):=by
 intro hsk hops;cases h with
 |nil=>exact ⟨rfl,.inl rfl⟩
 |skip=>cases hsk
 |@ans c _ _ _ _ _ _ _ hst hF =>obtain ⟨_,_,h1,h2⟩:=mcC_ans hst;rcases hops c (List.mem_cons_self ..) with q|q;exact absurd q h1;exact absurd q h2
 |turn hst=>exact ⟨rfl,.inr ⟨rfl,_,rfl⟩⟩
 |wait hst=>exact (mcC_waitF hst).elim
 |waits hst hs=>cases hs
theorem rep_stay (L:List Stp) (i j:Nat) {op:Int}(x:Int) (hop:op=1∨op=4):(rep cl (L++[⟨i,j,op,x,x⟩])).total=(rep cl L).total∧(rep cl (L++[⟨i,j,op,x,x⟩])).seen=(rep cl L).seen:=by rw[rep_one];rcases hop with rfl|rfl;rw[rs_look];exact ⟨rfl,rfl⟩;rw[rs_vain];exact ⟨rfl,rfl⟩
theorem ctr_sn (h0:0<s) (hops:∀ i,i<N->∀ c∈cl i,c.po=1∨c.po=2) {v v1:Vw}(h:CI N s cl v) (h1:CI N s cl v1) (hN:NI N cl v) (hA:Sn9 N cl (λi=>(v.l i).ans) v.L) (m:Mv (mcC s) N v v1):Sn9 N cl (λi=>(v1.l i).ans) v1.L:=by
 cases m with
 |stuck hs hall hex e =>obtain ⟨i,hi,j,q,r,k,a,hl⟩:=hex;have:=h.seat i hi;rw[hl] at this;exact this.elim
 |wake i j q rest ii ans X l' hi hl _ _ _ _ _ _ _ _ =>have:=h.seat i hi;rw[hl] at this;exact this.elim
 |free i j q rest ii ans X l' hi hl _ _ _ _ _ _ _ =>have:=h.seat i hi;rw[hl] at this;exact this.elim
 |turn i op j q rest ii ans X l' hi hl ho e hK hst hchg hL =>
  have hs:=h.seat i hi;have hn:=hN.thr i hi;rw[hl] at hs hn;obtain ⟨hrest,hcall,htot,hj,c,hc,h5⟩:=hs;obtain ⟨hlen,hn,hlt,_,hno,h9,h10⟩:=hn;have hpc:=po_of hc;have hlen:ans.length=(cl i).length:=hlen;have hno:No4 ans ii:=hno;have hE:∀ A st B,v1.L=A++st :: B->StC N s cl v1.l A st:=h1.ends;have stay:∀ (x:Int),(op=1∨op=4)->v1.L=v.L++[⟨i,j,op,x,x⟩]->l'.ans=ans->Sn9 N cl (λi=>(v1.l i).ans) v1.L:=λx k1 k2 k5=>by rw[k2,e.l,ans_upd,k5,upd_self (by rw[hl];rfl)];obtain ⟨r1,r2⟩:=rep_stay (cl:=cl) v.L i j x k1;exact .other hA h9 h10 r1 r2
  have done:∀ (x:Stp) (yy:Int) (X':List Stp),x.op≠9->x.op≠10->Fw (mcC s) i false rest (ii+1) ((0:Int)==4) (ans.set ii (0,yy)) X' l'->v1.L=v.L++x :: ⟨i,-1,10,ii,0⟩ :: X' ->
   (Sn9 N cl (upd (λk=>(v.l k).ans) i (ans.set ii (0,yy))) v.L->(upd (λk=>(v.l k).ans) i (ans.set ii (0,yy)) i)[ii]? = some (0,yy)->Sn9 N cl (upd (λk=>(v.l k).ans) i (ans.set ii (0,yy))) ((v.L++[x])++[⟨i,-1,10,ii,0⟩]))->Sn9 N cl (λi=>(v1.l i).ans) v1.L:=λx yy X' k9 k10 kf kL kk=>by
   obtain ⟨f1,f2⟩:=fw_two kf rfl (λc hc'=>hops i hi c (by rw[hrest] at hc';exact List.mem_of_mem_drop hc'));rw[kL,e.l,ans_upd,f1];have b:=kk (hA.mono λj k hk=>by
    by_cases ej:j=i
    .subst ej
     rw[upd_same,Qq,if_neg (by omega),hl];rfl
    rw[upd_ne _ _ ej]) (by rw[upd_same,Qq,if_pos rfl,if_pos (by omega)])
   rcases f2 with rfl|⟨rfl,c',hc'⟩
   rw[List.append_assoc] at b;exact b
   .have hc2:(cl i)[ii+1]? = some c':=by rw[hrest,List.head?_drop] at hc';exact hc'
    have b2:=b.beg (i:=i) (k:=ii+1) (c:=c') hi (by rw[nt_own _ _ _ _ (.inr rfl),nt_no k9 k10,hn];omega) hc2 (by rw[upd_same];exact hno.next (show ¬ (0:Int)=4 by decide));simp only[List.append_assoc,List.singleton_append,List.cons_append,List.nil_append] at b2;exact b2
  rcases h5 with ⟨p1,rfl,rfl⟩|⟨p1,rfl,y,rfl⟩|⟨p2,rfl,l,rfl,hF⟩|⟨p2,rfl,d,snap,rfl,hF⟩
  . -- an Add looks
   generalize v.K.getD j 0=x at *;have e3:(mcC s).turn (0,[((i % s:Nat):Int),c.ca.tmod 1000]) x=((x,x),x,.turn 4 (((i % s:Nat):Int)).toNat (1,[((i % s:Nat):Int),c.ca.tmod 1000,x])):=rfl;rw[e3] at ho hK hL;cases ho;exact stay x (.inl rfl) hL rfl
  . -- an Add tries
   generalize v.K.getD j 0=x at *;by_cases hx:x=y
   .subst hx
    have e3:(mcC s).turn (1,[((i % s:Nat):Int),c.ca.tmod 1000,x]) x=((x,R1.addI x (c.ca.tmod 1000)),R1.addI x (c.ca.tmod 1000),.ans 0 0):=by simp[mcC,effCas,-Int.natCast_emod]
    rw[e3] at ho hK hL;rw[h.stk] at ho;have hp:poOf cl i ((rep cl v.L).call i)=1:=by rw[hcall,hpc.1];exact p1
    have hca:caOf cl i ((rep cl v.L).call i)=c.ca:=by rw[hcall];exact hpc.2
    have hrs:=rs_cas (cl:=cl) (r:=rep cl v.L) (i:=i) j x (R1.addI x (c.ca.tmod 1000)) hp (R1.addI_ne x _);cases ho with
    |ans hfw =>refine done ⟨i,j,4,x,R1.addI x (c.ca.tmod 1000)⟩ 0 _ h9 h10 hfw hL λb1 b2=>.add b1 hi hn hc p1 b2 h9 h10 ?_ ?_;rw[rep_one,hrs,hca];rw[rep_one,hrs,hca]
   .have e3:(mcC s).turn (1,[((i % s:Nat):Int),c.ca.tmod 1000,y]) x=((x,x),x,.turn 1 (((i % s:Nat):Int)).toNat (0,[((i % s:Nat):Int),c.ca.tmod 1000])):=by simp[mcC,effCas,hx,-Int.natCast_emod]
    rw[e3] at ho hK hL;cases ho;exact stay x (.inr rfl) hL rfl
  . -- a Sum looks
   generalize v.K.getD j 0=x at *;have e3:(mcC s).turn (2,l) x=((x,x),x,nx2 s (l++[x])):=rfl;rw[e3] at ho hK hL;have ho:On (mcC s) i v.stk rest ii ans (nx2 s (l++[x])) X l':=ho;unfold nx2 at ho;split at ho;cases ho;exact stay x (.inl rfl) hL rfl;cases ho;exact stay x (.inl rfl) hL rfl
  . -- it looks again
   generalize v.K.getD j 0=x at *;have e3:(mcC s).turn (3,d) x=((x,x),x,nx3 s (d++[x])):=rfl;rw[e3] at ho hK hL;have ho:On (mcC s) i v.stk rest ii ans (nx3 s (d++[x])) X l':=ho;unfold nx3 at ho;split at ho;cases ho;exact stay x (.inl rfl) hL rfl
   .split at ho
    .rw[h.stk] at ho
     generalize R1.totI ((d++[x]).drop s)=y at ho;cases ho with
     |@ans _ _ X' _ hfw =>
      obtain ⟨r1,r2⟩:=rep_stay (cl:=cl) v.L i j x (op:=1) (.inl rfl);refine done ⟨i,j,1,x,x⟩ y _ h9 h10 hfw hL λb1 b2=>.sum (.other b1 h9 h10 r1 r2) hi (by rw[nt_no h9 h10];exact hn) hc p2 b2 ?_;obtain ⟨i',t1,_,_,t2⟩:=hE (v.L++[⟨i,j,1,x,x⟩]) ⟨i,-1,10,ii,0⟩ X' (by rw[hL,List.append_assoc];rfl);have t1:(i:Int)=i':=t1;obtain rfl:i=i':=by omega
      obtain ⟨k',c',q1,q2,_,q3⟩:=t2 rfl;have q1:(ii:Int)=k':=q1;obtain rfl:ii=k':=by omega
      obtain rfl:c=c':=by rw[hc] at q2;exact Qd q2
      obtain ⟨f1,_⟩:=fw_two hfw rfl (λc hc'=>hops i hi c (by rw[hrest] at hc';exact List.mem_of_mem_drop hc'));exact (q3 p2 (0,y) (by rw[e.l,upd_same,f1,Qq,if_pos rfl,if_pos (by omega)])).1
    cases ho;exact stay x (.inl rfl) hL rfl
end
section
variable {s:Nat}{cl:Nat->List Cl}
theorem hi_sn {k:Nat}{cs:List (List Cl)}{v v':Vw}(h:Hi (mcC s) k cs v v'):cs=(List.range' k cs.length).map cl->k+cs.length=N->v.stk=false->(∀ i,i<N->∀ c∈cl i,c.po=1∨c.po=2)->(∀ i,k<=i->nt v.L i=0)->Sn9 N cl (λi=>(v.l i).ans) v.L->Sn9 N cl (λi=>(v'.l i).ans) v'.L:=by
 induction h with
 |nil=>intro _ _ _ _ _ hA;exact hA
 |@cons k c cs v v1 v2 X l' hF e1 e2 e3 e4 e5 h ih =>
  intro hc hN hsk ho h0 hA;rw[List.length_cons,List.range'_succ,List.map_cons] at hc;obtain ⟨hc1,hc2⟩:=List.cons.inj hc;subst hc1;simp only[List.length_cons] at hN;rw[hsk] at hF;obtain ⟨f1,f2⟩:=fw_two hF rfl (ho k (by omega));have hA':Sn9 N cl (upd (λi=>(v.l i).ans) k l'.ans) v.L:=hA.mono λj q hq=>by by_cases e:j=k;subst e;rw[h0 j (Qi _)] at hq;omega;rw[upd_ne _ _ e]
  refine ih hc2 (by omega) (e2.trans hsk) ho (λi hi=>?_) ?_
  .rw[e4]
   rcases f2 with rfl|⟨rfl,_⟩
   rw[List.append_nil];exact h0 i (by omega);rw[nt_oth _ (by omega)];exact h0 i (by omega)
  .rw[e4,e5.l,ans_upd]
   rcases f2 with rfl|⟨rfl,c',hc'⟩
   rw[List.append_nil];exact hA';exact hA'.beg (k:=0) (by omega) (by rw[h0 k (Qi _)]) (by rw[<-List.head?_eq_getElem?];exact hc') (λq a hq _=>by omega)
theorem ctr_calls (h0:0<s) (h16:s<=16) {ss:List (Scr (mcC s))}{S S1:TS}{l0 l1:Nat->Ph}{K:List (Nat×Int)}{m:Nat}{p':PSt}(hl0:∀ i,l0 i=.done [])
 (hn:ss.length=n) (hn8:n<=8) (hcs:((List.range n).map λi=>(cl i).length).sum<=512) (hss:ss.map (·.calls)=(List.range' 0 n).map cl) (ha:∀ x∈ss,x.ans=List.replicate x.calls.length (0,0)) (hops:∀ i,i<n->∀ c∈cl i,c.po=1∨c.po=2)
 (ht:S.thr=[]) (htr:S.tr=[]) (hSn:S.n=0) (hsk:S.stk=false) (hK:K.map (·.2)=List.replicate s 0)
 (hH:Hires (mcC s) 0 ss S l0 S1 l1) (hT:Turns (mcC s) m ⟨S1,K,l1⟩ p'):
 ∃ L,p'.S.tr=flat L∧p'.S.n=L.length∧Fit9 n cl (λi=>(p'.l i).ans) L∧Sn9 n cl (λi=>(p'.l i).ans) L∧∀ i,i<n->(p'.l i).ans.length=(cl i).length:=by
 let v0:Vw:=⟨List.replicate s 0,false,S.chg,λi=>(thrI S i).se,l0,[]⟩
 have hs0:Seen ⟨S,K,l0⟩ v0:=⟨hK.symm,hsk.symm,rfl,λi=>rfl,rfl,htr,hSn,λi t h=>by rw[ht] at h;cases h⟩
 obtain ⟨v1,hi1,hs1⟩:=hires_hi (K:=K) hH v0 (by rw[ht];rfl) ha hs0;rw[hss] at hi1;have hc0:CI 0 s cl v0:=⟨by simp[v0],rfl,λi hi=>by omega,λi hi=>by omega,rfl,λi hi=>(by cases hi),by
  show (0:Int)=((List.replicate s 0).map R1.amtS).sum;rw[List.map_replicate,R1.amtS_zero];induction s with
  |zero=>rfl
  |succ k _=>simp,λx hx=>by
  have:x=0:=(List.mem_replicate.1 hx).2;subst this;have e1:=R1.amtS_zero;have e2:=R1.ver_zero;rw[e1,e2];omega,λA st B e=>by simp[v0] at e⟩
 have hci:=hi_ctr h0 hi1 (by simp) hc0;rw[List.length_map,List.length_range',Nat.zero_add] at hci;have hni:NI n cl v1:=hi_note opOk_ctr hi1 (by simp) (by simp) .nil (λi hi=>by omega) (λ_ _=>rfl);have hsi:Sn9 n cl (λi=>(v1.l i).ans) v1.L:=hi_sn (N:=n) hi1 (by simp) (by simp) rfl hops (λ_ _=>rfl) .nil;obtain ⟨a1,a2,a3,a4⟩:=Mf.hires_gd (metC s h0 h16) hH (by rw[ht];rfl) (by omega) (λi t h=>by rw[ht] at h;cases h);have g:Mf.Gd (metC s h0 h16) ⟨S1,K,l1⟩:=⟨by show S1.thr.length<=8;omega,a2⟩
 obtain ⟨v',hI,hs',_,hd⟩:=Mf.turns_mv (metC s h0 h16) (N:=n) (Inv:=λv=>CI n s cl v∧NI n cl v∧Sn9 n cl (λi=>(v.l i).ans) v.L) (λv v1 hv hm=>⟨ctr_mv h0 h16 hcs hv.1 hm,note_mv opOk_ctr hv.2.1 hm,ctr_sn h0 hops hv.1 (ctr_mv h0 h16 hcs hv.1 hm) hv.2.1 hv.2.2 hm⟩) hT v1 (by show S1.thr.length=n;omega) g hs1 ⟨hci,hni,hsi⟩;refine ⟨v'.L,hs'.tr,hs'.n,?_,?_,λi hi=>?_⟩;rw[<-hs'.l];exact hI.2.1.fit;rw[<-hs'.l];exact hI.2.2;rw[<-hs'.l];exact (hI.2.1.thr i hi).1
end
theorem okL_acc (B:Int) (hB:B<=1000000000) (l:List His.Ev):∀ (s:Int),okL s l->1000*(l.length:Int) - B<=s->s<=B - 1000*(l.length:Int)->Acc (refWays 3 0) [s] l:=by
 induction l with
 |nil=>intro _ _ _ _;trivial
 |cons e r ih =>
  intro s h h1 h2;obtain ⟨h3,h4⟩:=h;have hb:=am_in e;simp only[List.length_cons] at h1 h2;have hr:=ih (s+am e) h4 (by omega) (by omega);rcases h3 with ⟨o1,a1⟩|⟨o2,a2⟩
  .have ham:am e=e.a.tmod 1000:=by unfold am;rw[if_pos o1]
   rw[ham] at hb hr;refine ⟨((0,0),[wrap64 (s+e.a.tmod 1000)]),by simp[refWays,o1],λ_=>a1.symm,?_⟩;show Acc (refWays 3 0) [wrap64 (s+e.a.tmod 1000)] r;rw[IntWalk.wrap64_in _ (by omega)];exact hr
  .have ham:am e=0:=by unfold am;rw[if_neg (by rw[o2];decide)]
   rw[ham,Int.add_zero] at hr;exact ⟨((0,s),[s]),by simp[refWays,o2],λ_=>a2.symm,hr⟩
theorem nodup_len:∀ (n:Nat) (l:List Nat),l.Nodup->(∀ m∈l,m<n)->l.length<=n
 |0,[],_,_=>Qi _
 |0,m :: _,_,h=>absurd (h m (List.mem_cons_self ..)) (Nat.not_lt_zero _)
 |n+1,l,hn,h=>by
  by_cases e:n∈l
  .have:=nodup_len n (l.erase n) (hn.erase n) λm hm=>by have h1:=(hn.mem_erase_iff).1 hm;have:=h m h1.2;have:=h1.1;omega
   rw[List.length_erase_of_mem e] at this;omega
  .have:=nodup_len n l hn λm hm=>by have:=h m hm;have:m≠n:=λq=>e (q▸hm);omega
   omega
theorem LC.lin {cl:Nat->List Cl}{E:List His.Ev}{id:Nat->Nat}{ord R:List Nat}(hI:EvI cl an triv () L E id ord ()) (h:LC cl L E id ord R) (h12:E.length<=12):Lin (refWays 3 0) (firstOf 3 0) E:=by
 have hg:∀ m,m<E.length->E[m]? = some (E.getD m ev0):=λm hm=>by rw[Ql,Qf hm];rfl
 have hlt:∀ m∈R,m<E.length:=λm hm=>by obtain ⟨e,he,_⟩:=in_len hI h.perm hm;exact (Qc he).1
 have hnd:R.Nodup:=h.perm.nodup_iff.2 hI.nodup;have hlen:R.length<=12:=Qk (nodup_len _ R hnd hlt) h12;refine ⟨R,hnd,hlt,λm hm ho=>h.perm.mem_iff.2 (hI.all m _ (hg m hm) ho),h.rel.imp λhr=>?_,?_⟩
 .unfold evAhead
  rw[Bool.and_eq_false_iff];right;refine decide_eq_false ?_;have:=hr.1;omega
 exact okL_acc 1000000 (by decide) _ 0 h.ok (by rw[List.length_map];omega) (by rw[List.length_map];omega)
theorem ops_of {cl:Nat->List Cl}{m:Int}(h:∀ i,i<(scL n cl).length->∀ k,k<((scL n cl).getD i []).length->R3.OpIn m (((scL n cl).getD i []).getD k R3.call0)):∀ i,i<n->∀ c∈cl i,1<=c.po∧c.po<=m:=λi hi c hc=>by
 obtain ⟨k,hk,e⟩:=List.mem_iff_getElem.1 hc;have:=h i (by rw[scL_len];exact hi) k (by rw[scL_get cl hi,List.length_map];exact hk);rw[scL_get cl hi] at this;have e2:((cl i).map toCall).getD k R3.call0=toCall c:=by simp[Ql,hk,e]
 rw[e2] at this;exact this
theorem ctr_lin {s:Nat}{cl:Nat->List Cl}(h0:0<s) (h16:s<=16) {ss:List (Scr (mcC s))}{S S1:TS}{l0 l1:Nat->Ph}{K:List (Nat×Int)}(hl0:∀ i,l0 i=.done [])
 (hn:ss.length=N) (hn8:N<=8) (hcs:((List.range N).map λi=>(cl i).length).sum<=512) (hss:ss.map (·.calls)=(List.range' 0 N).map cl) (ha:∀ x∈ss,x.ans=List.replicate x.calls.length (0,0))
 (ht:S.thr=[]) (htr:S.tr=[]) (hSn:S.n=0) (hsk:S.stk=false) (hK:K.map (·.2)=List.replicate s 0) (hH:Hires (mcC s) 0 ss S l0 S1 l1)
 {p':PSt} (hT:Turns (mcC s) n ⟨S1,K,l1⟩ p') (hL:p'.S.tr=flat L)
 (hop:∀ i,i<(scL N cl).length->∀ k,k<((scL N cl).getD i []).length->R3.OpIn 2 (((scL N cl).getD i []).getD k R3.call0)) (h12:R3.sumL (scL N cl) (scL N cl).length<=12):
 R3.Alike (scL N cl) (anL N λi=>(p'.l i).ans)∧∀ r,R3.Ofs (scL N cl) (anL N λi=>(p'.l i).ans) 0 (L.map toStep) R3.st0 r->∃ s,r=some s∧R3.Starts 3 0∧s.evs.length<=12∧Hist s.evs∧Lin (refWays 3 0) (firstOf 3 0) s.evs:=by
 obtain ⟨L',t1,t2,hF,hA,hl⟩:=ctr_calls h0 h16 hl0 hn hn8 hcs hss ha (λi hi c hc=>by have:=ops_of hop i hi c hc;omega) ht htr hSn hsk hK hH hT;obtain rfl:L'=L:=flat_inj (t1.symm.trans hL);obtain ⟨E,id,ord,R,hE,hI,hR⟩:=sn_lin hA;have hlen:=Qk (ev_le hE hF) h12;exact ⟨alike_of hl,λr hr=>⟨_,ofs_is hl hE hF hr,.inr (.inl rfl),hlen,hI.hist,hR.lin hI hlen⟩⟩
end Go.Proofs.YtfjjoohflcchnaaDoor.Gen
