/- Of the proof of CounterTimes. Part 20 of 31. (Joined, by program, and written short, of: GMetC, CtV, CtI1, CtI2, CtI3, CtI4, CtI5, CtI6, CtI7, GWp.) -/
import Derived.Test.YtfjjoohflcchnaaDoorCounterTimes13
import Derived.Test.YtfjjoohflcchnaaDoorCounterTimes15
import Derived.Test.YtfjjoohflcchnaaDoorCounterTimes18
import Derived.Test.YtfjjoohflcchnaaDoorCounterTimes19
import Derived.Deep.LoopGhost
set_option linter.unusedSimpArgs false
set_option linter.unusedVariables false
set_option maxHeartbeats 4000000
set_option maxRecDepth 100000
namespace Go.Proofs.YtfjjoohflcchnaaDoor.Gen
open Go Go.Lift Go.Conc Go.RowKit
def okC (s:Nat) (q:Q):Prop:=(q.1=0∧q.2.length=2)∨(q.1=1∧q.2.length=3)∨(q.1=2∧q.2.length<s)∨(q.1=3∧s≤q.2.length∧q.2.length<2*s)
instance (s:Nat) (q:Q):Decidable (okC s q):=by unfold okC;infer_instance
def levC (s:Nat) (q:Q):Nat:=if okC s q then 1 else 0
def agrC (s:Nat) (d:List Int) (f:Nat→Int):Prop:=d=(List.range d.length).map fun k=>f (k % s)
instance (s:Nat) (d:List Int) (f:Nat→Int):Decidable (agrC s d f):=by unfold agrC;infer_instance
def wsC (s:Nat) (q:Q) (f:Nat→Int):Nat :=
 if q.1=0 then 2 else if q.1=1 then (if f (q.2.getD 0 0).toNat=q.2.getD 2 0 then 1 else 3)
 else if s≤16 then (2*s - q.2.length)+(if agrC s q.2 f then 0 else 2*s) else 0
def clC (s:Nat) (q:Q):Nat:=if q.1=0 then (q.2.getD 0 0).toNat else if q.1=1 then (q.2.getD 0 0).toNat else if q.1=2 then q.2.length else q.2.length - s
theorem agrC_next {s:Nat} {d:List Int} {f:Nat→Int} {x:Int} (hx:f (d.length % s)=x):agrC s (d++[x]) f↔agrC s d f:=by
 unfold agrC
 rw [List.length_append,List.length_singleton,List.range_succ,List.map_append]
 simp only [List.map_cons,List.map_nil,hx]
 constructor
 ·intro h
  exact List.append_cancel_right h
 ·intro h
  rw [←h]
theorem agrC_same {s:Nat} {d:List Int} {f:Nat→Int} (h:agrC s d f) (hl:d.length=2*s):d.take s=d.drop s:=by
 unfold agrC at h
 rw [hl] at h
 apply List.ext_getElem?
 intro k
 rw [List.getElem?_drop,List.getElem?_take]
 by_cases hk:k<s
 ·rw [if_pos hk,h]
  simp [hk,show k<2*s by omega,show s+k<2*s by omega]
 ·rw [if_neg hk,List.getElem?_eq_none (by omega)]
theorem lev_ok {s:Nat} {q:Q} (h:1≤levC s q):okC s q:=by
 unfold levC at h
 split at h
 ·assumption
 ·omega
theorem lev_of {s:Nat} {q:Q} (h:okC s q):levC s q=1:=if_pos h
theorem ok0 (s:Nat) (a b:Int):okC s (0,[a,b]):=.inl ⟨rfl,rfl⟩
theorem ok1 (s:Nat) (a b c:Int):okC s (1,[a,b,c]):=.inr (.inl ⟨rfl,rfl⟩)
theorem ok2 {s:Nat} {l:List Int} (h:l.length<s):okC s (2,l):=.inr (.inr (.inl ⟨rfl,h⟩))
theorem ok3 {s:Nat} {l:List Int} (h:s≤l.length) (h2:l.length<2*s):okC s (3,l):=.inr (.inr (.inr ⟨rfl,h,h2⟩))
theorem ws2 {s:Nat} (h16:s≤16) {n:Nat} (hn:n=2∨n=3) (d:List Int) (f:Nat→Int):wsC s (n,d) f=(2*s - d.length)+(if agrC s d f then 0 else 2*s):=by
 unfold wsC
 rcases hn with rfl|rfl<;>simp [h16]
theorem seat_of {s:Nat} {op:Nat} {j:Nat} {q:Q} (h:okC s q) (hj:j=clC s q):Mf.seatOk 1 (levC s) (clC s) (fun _=>False) (.turn op j q):=⟨by rw [lev_of h];exact Nat.le_refl _,by rw [lev_of h];exact Nat.le_refl _,hj⟩
def metC (s:Nat) (h0:0<s) (h16:s≤16):Mf.Met (mcC s) where
 L:=1
 hL:=Nat.le_refl _
 lev:=levC s
 ws:=wsC s
 cl:=clC s
 wq _:=False
 ws_le q f:=by
  unfold wsC
  split
  ·omega
  ·split
   ·split<;>omega
   ·have hq:(if agrC s q.2 f then 0 else 2*s)≤32:=by split<;>omega
    omega
 start i c:=by
  unfold mcC
  simp only
  split
  ·exact seat_of (ok0 _ _ _) (by show i % s=((i % s:Nat):Int).toNat;rw [Int.toNat_natCast])
  ·split
   ·exact seat_of (ok2 (by simpa using h0)) (by simp [clC])
   ·trivial
 turn q f x hx h1 _:=by
  have hok:=lev_ok h1
  have hl1:=lev_of hok
  obtain ⟨n,d⟩:=q
  rcases hok with ⟨e,hd⟩|⟨e,hd⟩|⟨e,hd⟩|⟨e,hd,hd2⟩
  ·simp only at e hd
   subst e
   match d,hd with
   | [a,b],_ =>
    have hx':f a.toNat=x:=by simpa [clC] using hx
    refine ⟨seat_of (ok1 _ _ _ _) (by simp [clC]),.inr ⟨rfl,rfl,?_,?_⟩⟩
    ·show levC s (1,[a,b,x])=_
     rw [hl1,lev_of (ok1 _ _ _ _)]
    ·show wsC s (1,[a,b,x]) f+1≤wsC s (0,[a,b]) f
     simp [wsC,hx']
  ·simp only at e hd
   subst e
   match d,hd with
   | [a,b,c],_ =>
    have hx':f a.toNat=x:=by simpa [clC] using hx
    unfold mcC
    simp only [show ¬ ((1:Nat)=0) by decide,if_false,if_true]
    by_cases hc:x=c
    ·subst hc
     simp only [List.getD_cons_succ,List.getD_cons_zero,if_true]
     exact ⟨trivial,.inl (by rw [hl1];exact Nat.one_pos)⟩
    ·have hc':¬ (f a.toNat=c):=by rw [hx'];exact hc
     simp only [List.getD_cons_succ,List.getD_cons_zero,hc,if_false,effCas]
     refine ⟨seat_of (ok0 _ _ _) (by simp [clC]),.inr ⟨trivial,trivial,?_,?_⟩⟩
     ·show levC s (0,[a,b])=_
      rw [hl1,lev_of (ok0 _ _ _)]
     ·show wsC s (0,[a,b]) f+1≤wsC s (1,[a,b,c]) f
      simp [wsC,hc']
  ·simp only at e hd
   subst e
   have hx':f (d.length % s)=x:=by rw [Nat.mod_eq_of_lt hd];simpa [clC] using hx
   have hlen:(d++[x]).length=d.length+1:=by simp
   have hag:=agrC_next hx'
   show Mf.seatOk 1 (levC s) (clC s) (fun _=>False) (nx2 s (d++[x]))∧_
   have hws:∀ n,n=2∨n=3→wsC s (n,d++[x]) f+1≤wsC s (2,d) f:=fun n hn=>by
    rw [ws2 h16 hn,ws2 h16 (.inl rfl),hlen,show (if agrC s (d++[x]) f then 0 else 2*s)=(if agrC s d f then 0 else 2*s) by simp only [hag]];omega
   by_cases hl:d.length+1<s
   ·have e2:nx2 s (d++[x])=.turn 1 (d++[x]).length (2,d++[x]):=by unfold nx2;rw [if_pos (by rw [hlen];exact hl)]
    have e3:(mcC s).turn (2,d) x=((x,x),x,nx2 s (d++[x])):=rfl
    rw [e3,e2]
    refine ⟨seat_of (ok2 (by rw [hlen];exact hl)) (by simp [clC]),.inr ⟨rfl,rfl,?_,hws 2 (.inl rfl)⟩⟩
    show levC s (2,d++[x])=_
    rw [hl1,lev_of (ok2 (by rw [hlen];exact hl))]
   ·have e2:nx2 s (d++[x])=.turn 1 0 (3,d++[x]):=by unfold nx2;rw [if_neg (by rw [hlen];exact hl)]
    have e3:(mcC s).turn (2,d) x=((x,x),x,nx2 s (d++[x])):=rfl
    have hok3:okC s (3,d++[x]):=ok3 (by rw [hlen];omega) (by rw [hlen];omega)
    rw [e3,e2]
    refine ⟨seat_of hok3 (by simp [clC];omega),.inr ⟨rfl,rfl,?_,hws 3 (.inr rfl)⟩⟩
    show levC s (3,d++[x])=_
    rw [hl1,lev_of hok3]
  ·simp only at e hd hd2
   subst e
   have hm:d.length % s=d.length - s:=by
    have:d.length=(d.length - s)+s:=by omega
    rw [this,Nat.add_mod_right,Nat.mod_eq_of_lt (by omega)];omega
   have hx':f (d.length % s)=x:=by rw [hm];simpa [clC] using hx
   have hlen:(d++[x]).length=d.length+1:=by simp
   have hag:=agrC_next hx'
   have e3:(mcC s).turn (3,d) x=((x,x),x,nx3 s (d++[x])):=rfl
   rw [e3]
   by_cases hl:d.length+1<2*s
   ·have e2:nx3 s (d++[x])=.turn 1 ((d++[x]).length - s) (3,d++[x]):=by unfold nx3;rw [if_pos (by rw [hlen];exact hl)]
    have hok3:okC s (3,d++[x]):=ok3 (by rw [hlen];omega) (by rw [hlen];exact hl)
    rw [e2]
    refine ⟨seat_of hok3 (by simp [clC]),.inr ⟨rfl,rfl,?_,?_⟩⟩
    ·show levC s (3,d++[x])=_
     rw [hl1,lev_of hok3]
    ·show wsC s (3,d++[x]) f+1≤wsC s (3,d) f
     rw [ws2 h16 (.inr rfl),ws2 h16 (.inr rfl),hlen,show (if agrC s (d++[x]) f then 0 else 2*s)=(if agrC s d f then 0 else 2*s) by simp only [hag]];omega
   ·by_cases ht:(d++[x]).take s=(d++[x]).drop s
    ·have e2:nx3 s (d++[x])=.ans 0 (R1.totI ((d++[x]).drop s)):=by unfold nx3;rw [if_neg (by rw [hlen];exact hl),if_pos ht]
     rw [e2]
     exact ⟨trivial,.inl (by rw [hl1];exact Nat.one_pos)⟩
    ·have e2:nx3 s (d++[x])=.turn 1 0 (2,[]):=by unfold nx3;rw [if_neg (by rw [hlen];exact hl),if_neg ht]
     have hna:¬ agrC s d f:=fun ha=>ht (agrC_same (hag.2 ha) (by rw [hlen];omega))
     rw [e2]
     refine ⟨seat_of (ok2 (by simpa using h0)) (by simp [clC]),.inr ⟨rfl,rfl,?_,?_⟩⟩
     ·show levC s (2,[])=_
      rw [hl1,lev_of (ok2 (by simpa using h0))]
     ·show wsC s (2,[]) f+1≤wsC s (3,d) f
      rw [ws2 h16 (.inl rfl),ws2 h16 (.inr rfl),if_neg hna,if_pos (by unfold agrC;rfl)]
      simp only [List.length_nil]
      omega
 woke q _ _ h:=h.elim
end Go.Proofs.YtfjjoohflcchnaaDoor.Gen
namespace Go.Proofs.YtfjjoohflcchnaaDoor.R1
open Go Go.RowKit Go.Proofs.YtfjjoohflcchnaaDoor.Pl
def ver (x:Int):Int:=getI x 32 30
theorem ver_in (x:Int):0≤ver x∧ver x<1073741824:=⟨getI_nonneg x 32 30,by have:=getI_lt x 32 30;unfold ver;omega⟩
theorem ver_addI (x n:Int):ver (addI x n)=(ver x+1) % 1073741824:=by
 unfold ver addI
 have h:=verB_in (addA x n)
 rw [verB_eq] at h
 rw [get_put _ _ 32 30 (by decide) (by decide) h.1 h.2]
 unfold addA
 rw [get_apart _ _ 0 32 32 30 (by decide) (by decide) (by decide) (fun i=>by omega)]
theorem addI_ne (x n:Int):addI x n≠x:=fun e=>by
 have h1:=ver_addI x n
 rw [e] at h1
 have:=ver_in x
 omega
theorem ver_zero:ver 0=0:=by decide +kernel
theorem amtS_small {x n:Int} (hn:-1000<n∧n<1000) (hx:-1000000≤amtS x∧amtS x≤1000000):amtS (addI x n)=amtS x+n:=by
 have h:=amtS_eq x
 have h2:=amtS_eq (addI x n)
 rw [amt_addI] at h2
 have h0:=getI_nonneg x 0 32
 have h1:=getI_lt x 0 32
 unfold wrap32 at h h2
 omega
theorem totI_sum:∀ (l:List Int) (a:Int),(∀ x∈l,-1000000≤amtS x∧amtS x≤1000000)→l.length≤16→-16000000≤a∧a≤16000000→l.foldl (fun s v=>wrap64 (s+amtS v)) a=a+(l.map amtS).sum
 | [],a,_,_,_=>by simp
 |x :: l,a,h,hl,ha=>by
  have hx:=h x (List.mem_cons_self ..)
  have e:wrap64 (a+amtS x)=a+amtS x:=by unfold wrap64;omega
  rw [List.foldl_cons,e]
  have go:∀ (l:List Int) (b:Int),(∀ x∈l,-1000000≤amtS x∧amtS x≤1000000)→-4000000000+1000000*(l.length:Int)≤b→b≤4000000000 - 1000000*(l.length:Int)→l.foldl (fun s v=>wrap64 (s+amtS v)) b=b+(l.map amtS).sum:=by
   intro l
   induction l with
   |nil=>intro b _ _ _;simp
   |cons y l ih =>
    intro b h h1 h2
    have hy:=h y (List.mem_cons_self ..)
    simp only [List.length_cons] at h1 h2
    have e:wrap64 (b+amtS y)=b+amtS y:=by unfold wrap64;omega
    rw [List.foldl_cons,e,ih (b+amtS y) (fun x hx=>h x (List.mem_cons_of_mem _ hx)) (by omega) (by omega)]
    simp only [List.map_cons,List.sum_cons]
    omega
  rw [go l (a+amtS x) (fun x hx=>h x (List.mem_cons_of_mem _ hx)) (by simp only [List.length_cons] at hl;omega) (by simp only [List.length_cons] at hl;omega)]
  simp only [List.map_cons,List.sum_cons]
  omega
theorem totI_is (l:List Int) (h:∀ x∈l,-1000000≤amtS x∧amtS x≤1000000) (hl:l.length≤16):totI l=(l.map amtS).sum:=by
 have:=totI_sum l 0 h hl (by omega)
 unfold totI
 omega
end Go.Proofs.YtfjjoohflcchnaaDoor.R1
namespace Go.Proofs.YtfjjoohflcchnaaDoor.Gen
open Go Go.Lift Go.Conc Go.RowKit
open Go.ConcN (upd upd_same upd_ne)
def Le (x y:Int):Prop:=R1.ver x≤R1.ver y∧(R1.ver x=R1.ver y→x=y)
theorem Le.refl (x:Int):Le x x:=⟨Int.le_refl _,fun _=>rfl⟩
theorem Le.trans {x y z:Int} (h:Le x y) (k:Le y z):Le x z:=⟨Int.le_trans h.1 k.1,fun e=>by
 have h1:=h.1
 have k1:=k.1
 rw [h.2 (by omega),k.2 (by omega)]⟩
theorem Le.anti {x y:Int} (h:Le x y) (k:Le y x):x=y:=h.2 (Int.le_antisymm h.1 k.1)
theorem Le.add {x:Int} (n:Int) (h:R1.ver x<1073741823):Le x (R1.addI x n):=by
 have h1:=R1.ver_addI x n
 have h2:=R1.ver_in x
 exact ⟨by omega,fun e=>by omega⟩
structure Snap (s:Nat) (d snap K:List Int):Prop where
 len:snap.length=s
 klen:K.length=s
 fst:∀ (j:Nat) (x y:Int),j<s→d[j]? = some x→snap[j]? = some y→Le x y
 snd:∀ (j:Nat) (x y:Int),d[s+j]? = some x→snap[j]? = some y→Le y x
 now:∀ (j:Nat) (x y:Int),snap[j]? = some x→K[j]? = some y→Le x y
theorem Snap.same {s:Nat} {d snap K:List Int} (h:Snap s d snap K) (hl:d.length=2*s) (e:d.take s=d.drop s):d.drop s=snap:=by
 apply List.ext_getElem?
 intro j
 rw [List.getElem?_drop]
 by_cases hj:j<s
 ·obtain ⟨x,hx⟩:∃ x,d[j]? = some x:=⟨_,List.getElem?_eq_getElem (by omega)⟩
  obtain ⟨z,hz⟩:∃ z,d[s+j]? = some z:=⟨_,List.getElem?_eq_getElem (by omega)⟩
  obtain ⟨y,hy⟩:∃ y,snap[j]? = some y:=⟨_,List.getElem?_eq_getElem (by have:=h.len;omega)⟩
  have e1:d[j]? = d[s+j]?:=by
   have:=congrArg (fun l=>l[j]?) e
   simp only [List.getElem?_take,List.getElem?_drop,if_pos hj] at this
   exact this
  rw [hx,hz] at e1
  cases e1
  rw [hz,hy,Le.anti (h.fst j _ y hj hx hy) (h.snd j _ y hz hy)]
 ·rw [List.getElem?_eq_none (by omega),List.getElem?_eq_none (by have:=h.len;omega)]
theorem Snap.up {s:Nat} {d snap K:List Int} (h:Snap s d snap K) {j:Nat} {x y:Int} (hx:K[j]? = some x) (hle:Le x y):Snap s d snap (K.set j y):=by
 refine ⟨h.len,by rw [List.length_set];exact h.klen,h.fst,h.snd,fun k a b ha hb=>?_⟩
 rw [List.getElem?_set] at hb
 by_cases e:j=k
 ·subst e
  rw [if_pos rfl] at hb
  split at hb
  ·cases hb
   exact (h.now j a x ha hx).trans hle
  ·cases hb
 ·rw [if_neg e] at hb
  exact h.now k a b ha hb
theorem Snap.look {s:Nat} {d snap K:List Int} (h:Snap s d snap K) (hs:s≤d.length) {x:Int} (hx:K[d.length - s]? = some x):Snap s (d++[x]) snap K:=by
 refine ⟨h.len,h.klen,fun j a b hj ha hb=>?_,fun j a b ha hb=>?_,h.now⟩
 ·rw [List.getElem?_append_left (by omega)] at ha
  exact h.fst j a b hj ha hb
 ·by_cases e:s+j<d.length
  ·rw [List.getElem?_append_left e] at ha
   exact h.snd j a b ha hb
  ·rw [List.getElem?_append_right (by omega)] at ha
   have e2:s+j - d.length=0:=by
    cases hk:s+j - d.length with
    |zero=>rfl
    |succ n=>rw [hk] at ha;simp at ha
   rw [e2] at ha
   simp at ha
   subst ha
   have e3:d.length - s=j:=by omega
   rw [e3] at hx
   exact h.now j b _ hb hx
theorem Snap.first {s:Nat} {d K:List Int} (hK:K.length=s) (hl:d.length=s) (h:∀ (j:Nat) (x y:Int),d[j]? = some x→K[j]? = some y→Le x y):Snap s d K K :=
 ⟨hK,hK,fun j x y _ hx hy=>h j x y hx hy,fun j x y hx _=>(by rw [List.getElem?_eq_none (by omega)] at hx;cases hx),fun j x y hx hy=>by rw [hx] at hy;cases hy;exact Le.refl _⟩
structure Rp where
 total:Int
 busy:Int
 call:Nat→Nat
 seen:Nat→List Int
 quiet:Nat→Bool
 count:Nat→Nat
def rp0:Rp:=⟨0,0,fun _=>0,fun _=>[],fun _=>false,fun _=>0⟩
def poOf (cl:Nat→List Cl) (i k:Nat):Int:=match (cl i)[k]? with|some c=>c.po|none=>0
def caOf (cl:Nat→List Cl) (i k:Nat):Int:=match (cl i)[k]? with|some c=>c.ca|none=>0
def rs (cl:Nat→List Cl) (r:Rp) (s:Stp):Rp :=
 let t:=s.th.toNat
 if s.op=9 then
  let k:=s.ol.toNat
  let b:=if poOf cl t k=1 then r.busy+1 else r.busy
  { total:=r.total,busy:=b,call:=upd r.call t k,seen:=upd r.seen t [r.total],
    quiet:=upd (if poOf cl t k=1 then fun _=>false else r.quiet) t (b==0),count:=upd r.count t 0 }
 else if s.op=10 then
  { r with call:=upd r.call t s.ol.toNat,busy:=if poOf cl t s.ol.toNat=1 then r.busy - 1 else r.busy }
 else if s.op=4∧poOf cl t (r.call t)=1∧s.ne≠s.ol then
  { r with count:=upd r.count t (r.count t+1),total:=r.total+(caOf cl t (r.call t)).tmod 1000,seen:=fun k=>r.seen k++[r.total+(caOf cl t (r.call t)).tmod 1000] }
 else { r with count:=upd r.count t (r.count t+1) }
def rep (cl:Nat→List Cl) (L:List Stp):Rp:=L.foldl (rs cl) rp0
theorem rep_app (cl:Nat→List Cl) (A B:List Stp):rep cl (A++B)=B.foldl (rs cl) (rep cl A):=List.foldl_append
theorem rep_one (cl:Nat→List Cl) (A:List Stp) (s:Stp):rep cl (A++[s])=rs cl (rep cl A) s:=by rw [rep_app];rfl
section
variable {cl:Nat→List Cl} {r:Rp} {i:Nat}
theorem rs_begin (k:Nat) (h:poOf cl i k≠1):rs cl r ⟨i,-1,9,k,0⟩={ r with call:=upd r.call i k,seen:=upd r.seen i [r.total],quiet:=upd r.quiet i (r.busy==0),count:=upd r.count i 0 }:=by
 unfold rs
 simp [h]
theorem rs_begin1 (k:Nat) (h:poOf cl i k=1):rs cl r ⟨i,-1,9,k,0⟩={ r with busy:=r.busy+1,call:=upd r.call i k,seen:=upd r.seen i [r.total],quiet:=upd (fun _=>false) i (r.busy+1==0),count:=upd r.count i 0 }:=by
 unfold rs
 simp [h]
theorem rs_end (k:Nat) (e:Int):rs cl r ⟨i,-1,10,k,e⟩={ r with call:=upd r.call i k,busy:=if poOf cl i k=1 then r.busy - 1 else r.busy }:=by
 unfold rs
 simp
theorem rs_look (j:Nat) (x:Int):rs cl r ⟨i,j,1,x,x⟩={ r with count:=upd r.count i (r.count i+1) }:=by
 unfold rs
 simp
theorem rs_vain (j:Nat) (x:Int):rs cl r ⟨i,j,4,x,x⟩={ r with count:=upd r.count i (r.count i+1) }:=by
 unfold rs
 simp
theorem rs_cas (j:Nat) (x y:Int) (h:poOf cl i (r.call i)=1) (hne:y≠x):rs cl r ⟨i,j,4,x,y⟩={ r with count:=upd r.count i (r.count i+1),total:=r.total+(caOf cl i (r.call i)).tmod 1000,seen:=fun k=>r.seen k++[r.total+(caOf cl i (r.call i)).tmod 1000] }:=by
 unfold rs
 simp [h,hne]
end
structure Fst (s:Nat) (r:Rp) (K:List Int) (i:Nat) (l:List Int):Prop where
 lt:l.length<s
 le:∀ (j:Nat) (x y:Int),l[j]? = some x→K[j]? = some y→Le x y
 qt:r.quiet i=true→r.count i=l.length∧l=K.take l.length
structure Snd (s:Nat) (r:Rp) (K:List Int) (i:Nat) (d snap:List Int):Prop where
 ge:s≤d.length
 lt:d.length<2*s
 sn:Snap s d snap K
 sum:R1.totI snap∈r.seen i
 qt:r.quiet i=true→r.count i=d.length∧d.take s=K∧d.drop s=K.take (d.length - s)
def CSeat (s:Nat) (calls:List Cl) (r:Rp) (K:List Int) (i:Nat):Ph→Prop
 |.turn op j q rest ii ans=>rest=calls.drop (ii+1)∧r.call i=ii∧r.total∈r.seen i∧j=clC s q∧∃ c,calls[ii]? = some c ∧
   ((c.po=1∧op=1∧q=(0,[((i % s:Nat):Int),c.ca.tmod 1000]))∨(c.po=1∧op=4∧∃ x,q=(1,[((i % s:Nat):Int),c.ca.tmod 1000,x])) ∨
    (c.po=2∧op=1∧∃ l,q=(2,l)∧Fst s r K i l)∨(c.po=2∧op=1∧∃ d snap,q=(3,d)∧Snd s r K i d snap))
 |.wait _ _ _ _ _=>False
 |.done _=>True
structure Oth (r r':Rp) (K K':List Int) (i:Nat):Prop where
 call:r'.call i=r.call i
 count:r'.count i=r.count i
 sub:∀ x∈r.seen i,x∈r'.seen i
 tot:r.total∈r.seen i→r'.total∈r'.seen i
 qt:r'.quiet i=true→r.quiet i=true∧K'=K
 up:∀ (j:Nat) (x y:Int),K[j]? = some x→K'[j]? = some y→Le x y
 len:K'.length=K.length
theorem get_len {K K':List Int} (h:K'.length=K.length) {j:Nat} {y:Int} (hy:K'[j]? = some y):∃ x,K[j]? = some x:=⟨_,List.getElem?_eq_getElem (by have:=(List.getElem?_eq_some_iff.1 hy).1;omega)⟩
theorem Fst.oth {s:Nat} {r r':Rp} {K K':List Int} {i:Nat} {l:List Int} (h:Fst s r K i l) (o:Oth r r' K K' i):Fst s r' K' i l :=
 ⟨h.lt,fun j x y hx hy=>by
  obtain ⟨z,hz⟩:=get_len o.len hy
  exact (h.le j x z hx hz).trans (o.up j z y hz hy),fun hq=>by
  obtain ⟨q1,rfl⟩:=o.qt hq
  rw [o.count]
  exact h.qt q1⟩
theorem Snd.oth {s:Nat} {r r':Rp} {K K':List Int} {i:Nat} {d snap:List Int} (h:Snd s r K i d snap) (o:Oth r r' K K' i):Snd s r' K' i d snap :=
 ⟨h.ge,h.lt,⟨h.sn.len,by rw [o.len];exact h.sn.klen,h.sn.fst,h.sn.snd,fun j x y hx hy=>by
  obtain ⟨z,hz⟩:=get_len o.len hy
  exact (h.sn.now j x z hx hz).trans (o.up j z y hz hy)⟩,o.sub _ h.sum,fun hq=>by
  obtain ⟨q1,rfl⟩:=o.qt hq
  rw [o.count]
  exact h.qt q1⟩
theorem CSeat.oth {s:Nat} {calls:List Cl} {r r':Rp} {K K':List Int} {i:Nat} {l:Ph} (h:CSeat s calls r K i l) (o:Oth r r' K K' i):CSeat s calls r' K' i l:=by
 cases l with
 |done a=>trivial
 |wait j q rest ii ans=>exact h
 |turn op j q rest ii ans =>
  obtain ⟨h1,h2,h3,h4,c,hc,h5⟩:=h
  refine ⟨h1,by rw [o.call];exact h2,o.tot h3,h4,c,hc,?_⟩
  rcases h5 with h5|h5|⟨p,e,l,e2,h5⟩|⟨p,e,d,sn,e2,h5⟩
  ·exact .inl h5
  ·exact .inr (.inl h5)
  ·exact .inr (.inr (.inl ⟨p,e,l,e2,h5.oth o⟩))
  ·exact .inr (.inr (.inr ⟨p,e,d,sn,e2,h5.oth o⟩))
theorem Fst.look {s:Nat} {r:Rp} {K:List Int} {i:Nat} {l:List Int} {x:Int} (h:Fst s r K i l) (hK:K.length=s) (hx:K[l.length]? = some x) (hlt:l.length+1<s):Fst s { r with count:=upd r.count i (r.count i+1) } K i (l++[x]):=by
 refine ⟨by simpa using hlt,fun j a b ha hb=>?_,fun hq=>?_⟩
 ·by_cases e:j<l.length
  ·rw [List.getElem?_append_left e] at ha
   exact h.le j a b ha hb
  ·have hj:j=l.length:=by
    have:=(List.getElem?_eq_some_iff.1 ha).1
    simp at this
    omega
   subst hj
   rw [List.getElem?_append_right (Nat.le_refl _)] at ha
   simp at ha
   rw [hx] at hb
   cases hb
   rw [ha]
   exact Le.refl _
 ·obtain ⟨q1,q2⟩:=h.qt hq
  refine ⟨?_,?_⟩
  ·show upd r.count i (r.count i+1) i=_
   rw [upd_same,q1];simp
  ·rw [List.length_append,List.length_singleton,List.take_add_one,hx,←q2]
   rfl
theorem Fst.last {s:Nat} {r:Rp} {K:List Int} {i:Nat} {l:List Int} {x:Int} (h:Fst s r K i l) (hK:K.length=s) (hx:K[l.length]? = some x) (hlt:l.length+1=s) (hT:R1.totI K∈r.seen i):Snd s { r with count:=upd r.count i (r.count i+1) } K i (l++[x]) K:=by
 have hl:(l++[x]).length=s:=by simpa using hlt
 refine ⟨by omega,by omega,Snap.first hK hl (fun j a b ha hb=>?_),hT,fun hq=>?_⟩
 ·by_cases e:j<l.length
  ·rw [List.getElem?_append_left e] at ha
   exact h.le j a b ha hb
  ·have hj:j=l.length:=by
    have:=(List.getElem?_eq_some_iff.1 ha).1
    simp at this
    omega
   subst hj
   rw [List.getElem?_append_right (Nat.le_refl _)] at ha
   simp at ha
   rw [hx] at hb
   cases hb
   rw [ha]
   exact Le.refl _
 ·obtain ⟨q1,q2⟩:=h.qt hq
  refine ⟨?_,?_,?_⟩
  ·show upd r.count i (r.count i+1) i=_
   rw [upd_same,q1];simp
  ·rw [List.take_of_length_le (by omega)]
   have e:K.take (l.length+1)=l++[x]:=by rw [List.take_add_one,hx,←q2];rfl
   rw [←e,hlt,List.take_of_length_le (by omega)]
  ·rw [hl,Nat.sub_self,List.take_zero,List.drop_eq_nil_of_le (by omega)]
theorem Snd.look {s:Nat} {r:Rp} {K:List Int} {i:Nat} {d snap:List Int} {x:Int} (h:Snd s r K i d snap) (hx:K[d.length - s]? = some x) (hlt:d.length+1<2*s):Snd s { r with count:=upd r.count i (r.count i+1) } K i (d++[x]) snap:=by
 refine ⟨by have:=h.ge;simp;omega,by simpa using hlt,h.sn.look h.ge hx,h.sum,fun hq=>?_⟩
 obtain ⟨q1,q2,q3⟩:=h.qt hq
 have hge:=h.ge
 refine ⟨?_,?_,?_⟩
 ·show upd r.count i (r.count i+1) i=_
  rw [upd_same,q1];simp
 ·rw [List.take_append_of_le_length hge];exact q2
 ·rw [List.drop_append_of_le_length hge,q3,List.length_append,List.length_singleton,show d.length+1 - s=(d.length - s)+1 by omega,List.take_add_one,hx]
  rfl
theorem Snd.last {s:Nat} {r:Rp} {K:List Int} {i:Nat} {d snap:List Int} {x:Int} (h:Snd s r K i d snap) (hx:K[d.length - s]? = some x) (hlt:d.length+1=2*s) :
 ((d++[x]).take s=(d++[x]).drop s→R1.totI ((d++[x]).drop s)∈r.seen i)∧(r.quiet i=true→r.count i+1=2*s∧(d++[x]).take s=(d++[x]).drop s):=by
 have hge:=h.ge
 have hl:(d++[x]).length=2*s:=by simpa using hlt
 refine ⟨fun e=>?_,fun hq=>?_⟩
 ·rw [(h.sn.look hge hx).same hl e];exact h.sum
 ·obtain ⟨q1,q2,q3⟩:=h.qt hq
  refine ⟨by rw [q1];exact hlt,?_⟩
  have hK:=h.sn.klen
  rw [List.take_append_of_le_length hge,q2,List.drop_append_of_le_length hge,q3]
  have e:K.take (d.length - s+1)=K.take (d.length - s)++[x]:=by rw [List.take_add_one,hx];rfl
  rw [←e,List.take_of_length_le (by omega)]
theorem Oth.refl (r:Rp) (K:List Int) (i:Nat):Oth r r K K i:=⟨rfl,rfl,fun _ h=>h,fun h=>h,fun h=>⟨h,rfl⟩,fun j x y hx hy=>by rw [hx] at hy;cases hy;exact Le.refl _,rfl⟩
theorem Oth.trans {r r1 r2:Rp} {K K1 K2:List Int} {i:Nat} (h:Oth r r1 K K1 i) (k:Oth r1 r2 K1 K2 i):Oth r r2 K K2 i :=
 ⟨k.call.trans h.call,k.count.trans h.count,fun x hx=>k.sub x (h.sub x hx),fun ht=>k.tot (h.tot ht),fun hq=>by
  obtain ⟨a,rfl⟩:=k.qt hq
  exact h.qt a,fun j x y hx hy=>by
  obtain ⟨z,hz⟩:=get_len k.len hy
  exact (h.up j x z hx hz).trans (k.up j z y hz hy),k.len.trans h.len⟩
theorem up_same (K:List Int):∀ (j:Nat) (x y:Int),K[j]? = some x→K[j]? = some y→Le x y:=fun j x y hx hy=>by rw [hx] at hy;cases hy;exact Le.refl _
def inA:Ph→Nat
 |.turn _ _ q _ _ _=>if q.1≤1 then 1 else 0
 |_=>0
def upC (calls:List Cl):Ph→Nat
 |.turn _ _ _ _ ii _=>ii
 |.wait _ _ _ ii _=>ii
 |.done _=>calls.length
theorem po_of {cl:Nat→List Cl} {i k:Nat} {c:Cl} (h:(cl i)[k]? = some c):poOf cl i k=c.po∧caOf cl i k=c.ca:=by
 unfold poOf caOf
 rw [h]
 exact ⟨rfl,rfl⟩
theorem beg_oth (cl:Nat→List Cl) (r:Rp) (K:List Int) {i k:Nat} (ii:Nat) (hk:k≠i):Oth r (rs cl r ⟨i,-1,9,ii,0⟩) K K k:=by
 by_cases h:poOf cl i ii=1
 ·rw [rs_begin1 ii h]
  refine ⟨?_,?_,fun x hx=>?_,fun ht=>?_,fun hq=>?_,up_same K,rfl⟩
  ·show upd r.call i ii k=_;rw [upd_ne _ _ hk]
  ·show upd r.count i 0 k=_;rw [upd_ne _ _ hk]
  ·show x∈upd r.seen i [r.total] k;rw [upd_ne _ _ hk];exact hx
  ·show r.total∈upd r.seen i [r.total] k;rw [upd_ne _ _ hk];exact ht
  ·have hq:upd (fun _=>false) i (r.busy+1==0) k=true:=hq
   rw [upd_ne _ _ hk] at hq;cases hq
 ·rw [rs_begin ii h]
  refine ⟨?_,?_,fun x hx=>?_,fun ht=>?_,fun hq=>?_,up_same K,rfl⟩
  ·show upd r.call i ii k=_;rw [upd_ne _ _ hk]
  ·show upd r.count i 0 k=_;rw [upd_ne _ _ hk]
  ·show x∈upd r.seen i [r.total] k;rw [upd_ne _ _ hk];exact hx
  ·show r.total∈upd r.seen i [r.total] k;rw [upd_ne _ _ hk];exact ht
  ·have hq:upd r.quiet i (r.busy==0) k=true:=hq
   rw [upd_ne _ _ hk] at hq;exact ⟨hq,rfl⟩
theorem end_oth (cl:Nat→List Cl) (r:Rp) (K:List Int) {i k:Nat} (ii:Nat) (e:Int) (hk:k≠i):Oth r (rs cl r ⟨i,-1,10,ii,e⟩) K K k:=by
 rw [rs_end ii e]
 exact ⟨by show upd r.call i ii k=_;rw [upd_ne _ _ hk],rfl,fun _ h=>h,fun h=>h,fun h=>⟨h,rfl⟩,up_same K,rfl⟩
theorem look_oth (r:Rp) (K:List Int) {i k:Nat} (hk:k≠i):Oth r { r with count:=upd r.count i (r.count i+1) } K K k :=
 ⟨rfl,by show upd r.count i (r.count i+1) k=_;rw [upd_ne _ _ hk],fun _ h=>h,fun h=>h,fun h=>⟨h,rfl⟩,up_same K,rfl⟩
theorem mcC_ans {s i:Nat} {c:Cl} {e x:Int} (h:(mcC s).start i c=.ans e x):e=1∧x=0∧c.po≠1∧c.po≠2:=by
 unfold mcC at h
 simp only at h
 split at h
 ·cases h
 ·split at h
  ·cases h
  ·cases h
   exact ⟨rfl,rfl,by assumption,by assumption⟩
theorem mcC_turn {s i:Nat} {c:Cl} {op:Int} {j:Nat} {q:Q} (h:(mcC s).start i c=.turn op j q):op=1∧((c.po=1∧j=i % s∧q=(0,[((i % s:Nat):Int),c.ca.tmod 1000]))∨(c.po=2∧j=0∧q=(2,[]))):=by
 unfold mcC at h
 simp only at h
 split at h
 ·cases h
  exact ⟨rfl,.inl ⟨by assumption,rfl,rfl⟩⟩
 ·split at h
  ·cases h
   exact ⟨rfl,.inr ⟨by assumption,rfl,rfl⟩⟩
  ·cases h
theorem mcC_wait {s i:Nat} {c:Cl} {j:Nat} {q:Q}:(mcC s).start i c≠.wait j q:=fun h=>by
 unfold mcC at h
 simp only at h
 split at h
 ·cases h
 ·split at h<;>cases h
def XOk (cl:Nat→List Cl) (i ii:Nat) (l:Ph) (st:Stp):Prop:=(st.op=9∨st.op=10)∧∃ (k:Nat) (c:Cl),st.th=i∧st.ol=k∧ii≤k∧(cl i)[k]? = some c∧(st.op=10→k<upC (cl i) l∧c.po≠1∧c.po≠2)
structure FwOk (s:Nat) (cl:Nat→List Cl) (i ii:Nat) (ans:List (Int×Int)) (r r':Rp) (K:List Int) (X:List Stp) (l:Ph):Prop where
 seat:CSeat s (cl i) r' K i l
 oth:∀ k,k≠i→Oth r r' K K k
 busy:r'.busy=r.busy+inA l
 qb:∀ k,r'.quiet k=true→r'.busy=0
 tot:r'.total=r.total
 len:l.ans.length=(cl i).length
 xs:∀ st∈X,XOk cl i ii l st
 up:ii≤upC (cl i) l
 old:∀ k,k<ii→l.ans[k]? = ans[k]?
theorem fw_ctr {s:Nat} (h0:0<s) {cl:Nat→List Cl} {i:Nat} {rest:List Cl} {ii:Nat} {sk:Bool} {ans:List (Int×Int)} {X:List Stp} {l:Ph} (h:Fw (mcC s) i false rest ii sk ans X l) :
 ∀ (r:Rp) (K:List Int),rest=(cl i).drop ii→ii≤(cl i).length→ans.length=(cl i).length→sk=false→0≤r.busy→(∀ k,r.quiet k=true→r.busy=0)→FwOk s cl i ii ans r (X.foldl (rs cl) r) K X l:=by
 induction h with
 |@nil ii sk ans =>
  intro r K hr hl ha hs hb hq
  have e:ii=(cl i).length:=by
   have:=congrArg List.length hr
   simp at this
   omega
  exact ⟨trivial,fun k _=>Oth.refl r K k,by show r.busy=r.busy+0;omega,hq,rfl,ha,fun st hs=>(nomatch hs),by show ii≤(cl i).length;exact hl,fun k _=>rfl⟩
 |skip _ _ =>
  intro r K hr hl ha hs hb hq
  cases hs
 |@ans c rest ii ans X l e x hst h ih =>
  intro r K hr hl ha hs hb hq
  have hlt:ii<(cl i).length:=by
   have:=congrArg List.length hr
   simp at this
   omega
  have hc:(cl i)[ii]? = some c:=by
   have:((cl i).drop ii)[0]? = some c:=by rw [←hr];rfl
   simpa using this
  have hr':rest=(cl i).drop (ii+1):=by
   have:=congrArg List.tail hr
   simpa [List.tail_drop] using this
  obtain ⟨rfl,rfl,p1,p2⟩:=mcC_ans hst
  have hpo:poOf cl i ii≠1:=by rw [(po_of hc).1];exact p1
  have e1:=rs_begin (cl:=cl) (r:=r) (i:=i) ii hpo
  have e2:=rs_end (cl:=cl) (r:=rs cl r ⟨i,-1,9,ii,0⟩) (i:=i) ii 1
  have hb2:(rs cl (rs cl r ⟨i,-1,9,ii,0⟩) ⟨i,-1,10,ii,1⟩).busy=r.busy:=by rw [e2,e1];simp [hpo]
  have hq2:∀ k,(rs cl (rs cl r ⟨i,-1,9,ii,0⟩) ⟨i,-1,10,ii,1⟩).quiet k=true→r.busy=0:=fun k hk=>by
   rw [e2,e1] at hk
   have hk:upd r.quiet i (r.busy==0) k=true:=hk
   by_cases hki:k=i
   ·subst hki
    rw [upd_same] at hk
    simpa using hk
   ·rw [upd_ne _ _ hki] at hk
    exact hq k hk
  have ht2:(rs cl (rs cl r ⟨i,-1,9,ii,0⟩) ⟨i,-1,10,ii,1⟩).total=r.total:=by rw [e2,e1]
  have f:=ih (rs cl (rs cl r ⟨i,-1,9,ii,0⟩) ⟨i,-1,10,ii,1⟩) K hr' (by omega) (by simpa using ha) rfl (by rw [hb2];exact hb) (fun k hk=>by rw [hb2];exact hq2 k hk)
  refine ⟨f.seat,fun k hk=>((beg_oth cl r K ii hk).trans (end_oth cl _ K ii 1 hk)).trans (f.oth k hk),by rw [←hb2];exact f.busy,f.qb,f.tot.trans ht2,f.len,fun st hs=>?_,by have:=f.up;omega,fun k hk=>?_⟩
  ·simp only [List.mem_cons] at hs
   rcases hs with rfl|rfl|hs
   ·exact ⟨.inl rfl,ii,c,rfl,rfl,Nat.le_refl _,hc,fun h=>absurd (show (9:Int)=10 from h) (by decide)⟩
   ·exact ⟨.inr rfl,ii,c,rfl,rfl,Nat.le_refl _,hc,fun _=>⟨by have:=f.up;omega,p1,p2⟩⟩
   ·obtain ⟨a1,k,c',a2,a3,a4,a5,a6⟩:=f.xs st hs
    exact ⟨a1,k,c',a2,a3,by omega,a5,a6⟩
  ·rw [f.old k (by omega),List.getElem?_set,if_neg (by omega)]
 |@turn c rest ii ans op j q hst =>
  intro r K hr hl ha hs hb hq
  have hlt:ii<(cl i).length:=by
   have:=congrArg List.length hr
   simp at this
   omega
  have hc:(cl i)[ii]? = some c:=by
   have:((cl i).drop ii)[0]? = some c:=by rw [←hr];rfl
   simpa using this
  have hr':rest=(cl i).drop (ii+1):=by
   have:=congrArg List.tail hr
   simpa [List.tail_drop] using this
  obtain ⟨rfl,hst'⟩:=mcC_turn hst
  have hxs:∀ st∈[(⟨i,-1,9,ii,0⟩:Stp)],XOk cl i ii (.turn 1 j q rest ii ans) st:=fun st hs=>by
   simp only [List.mem_singleton] at hs
   subst hs
   exact ⟨.inl rfl,ii,c,rfl,rfl,Nat.le_refl _,hc,fun h=>absurd (show (9:Int)=10 from h) (by decide)⟩
  rcases hst' with ⟨p1,rfl,rfl⟩|⟨p2,rfl,rfl⟩
  ·have hpo:poOf cl i ii=1:=by rw [(po_of hc).1];exact p1
   have e1:=rs_begin1 (cl:=cl) (r:=r) (i:=i) ii hpo
   refine ⟨?_,fun k hk=>beg_oth cl r K ii hk,?_,fun k hk=>?_,?_,ha,hxs,Nat.le_refl _,fun k _=>rfl⟩
   ·show CSeat s (cl i) (rs cl r ⟨i,-1,9,ii,0⟩) K i _
    rw [e1]
    refine ⟨hr',by show upd r.call i ii i=ii;rw [upd_same],by show r.total∈upd r.seen i [r.total] i;rw [upd_same];simp,by simp [clC,-Int.natCast_emod],c,hc,.inl ⟨p1,rfl,rfl⟩⟩
   ·show (rs cl r ⟨i,-1,9,ii,0⟩).busy=_
    rw [e1];rfl
   ·have hk:(rs cl r ⟨i,-1,9,ii,0⟩).quiet k=true:=hk
    rw [e1] at hk
    have hk:upd (fun _=>false) i (r.busy+1==0) k=true:=hk
    exfalso
    by_cases hki:k=i
    ·subst hki
     rw [upd_same] at hk
     have:r.busy+1=0:=by simpa using hk
     omega
    ·rw [upd_ne _ _ hki] at hk;cases hk
   ·show (rs cl r ⟨i,-1,9,ii,0⟩).total=_
    rw [e1]
  ·have hpo:poOf cl i ii≠1:=by rw [(po_of hc).1,p2];decide
   have e1:=rs_begin (cl:=cl) (r:=r) (i:=i) ii hpo
   refine ⟨?_,fun k hk=>beg_oth cl r K ii hk,?_,fun k hk=>?_,?_,ha,hxs,Nat.le_refl _,fun k _=>rfl⟩
   ·show CSeat s (cl i) (rs cl r ⟨i,-1,9,ii,0⟩) K i _
    rw [e1]
    refine ⟨hr',by show upd r.call i ii i=ii;rw [upd_same],by show r.total∈upd r.seen i [r.total] i;rw [upd_same];simp,by simp [clC],c,hc,.inr (.inr (.inl ⟨p2,rfl,[],rfl,⟨h0,fun j x y hx _=>by simp at hx,fun _=>⟨?_,by simp⟩⟩⟩))⟩
    show upd r.count i 0 i=_
    rw [upd_same];rfl
   ·show (rs cl r ⟨i,-1,9,ii,0⟩).busy=_
    rw [e1]
    show r.busy=r.busy+((if (2:Nat)≤1 then 1 else 0:Nat):Int)
    simp
   ·have hk:(rs cl r ⟨i,-1,9,ii,0⟩).quiet k=true:=hk
    show (rs cl r ⟨i,-1,9,ii,0⟩).busy=0
    rw [e1] at hk ⊢
    have hk:upd r.quiet i (r.busy==0) k=true:=hk
    show r.busy=0
    by_cases hki:k=i
    ·subst hki
     rw [upd_same] at hk
     simpa using hk
    ·rw [upd_ne _ _ hki] at hk
     exact hq k hk
   ·show (rs cl r ⟨i,-1,9,ii,0⟩).total=_
    rw [e1]
 |wait hst _ =>
  intro r K hr hl ha hs hb hq
  exact absurd hst mcC_wait
 |waits hst hs' _ _ =>
  intro r K hr hl ha hs hb hq
  exact absurd hst mcC_wait
def sumT (N:Nat) (g:Nat→Ph→Nat) (l:Nat→Ph):Nat:=((List.range N).map fun i=>g i (l i)).sum
theorem sumT_upd {N:Nat} (g:Nat→Ph→Nat) (l:Nat→Ph) {i:Nat} (hi:i<N) (l':Ph):sumT N g (upd l i l')+g i (l i)=sumT N g l+g i l':=by
 unfold sumT
 induction N with
 |zero=>omega
 |succ N ih =>
  rw [List.range_succ,List.map_append,List.map_append,List.sum_append,List.sum_append]
  simp only [List.map_cons,List.map_nil,List.sum_cons,List.sum_nil,Nat.add_zero]
  by_cases hk:i=N
  ·subst hk
   rw [upd_same]
   have e1:(List.range i).map (fun k=>g k (upd l i l' k))=(List.range i).map (fun k=>g k (l k)):=List.map_congr_left fun k hk=>by
    have:k<i:=List.mem_range.1 hk
    rw [upd_ne _ _ (by omega)]
   rw [e1]
   omega
  ·have:=ih (by omega)
   rw [upd_ne _ _ (fun x=>hk x.symm)]
   omega
theorem sumT_le {N:Nat} (g:Nat→Ph→Nat) (l:Nat→Ph) {i:Nat} (hi:i<N):g i (l i)≤sumT N g l:=by
 unfold sumT
 induction N with
 |zero=>omega
 |succ N ih =>
  rw [List.range_succ,List.map_append,List.sum_append]
  simp only [List.map_cons,List.map_nil,List.sum_cons,List.sum_nil,Nat.add_zero]
  by_cases hk:i=N
  ·subst hk;omega
  ·have:=ih (by omega);omega
theorem sumT_mono {N:Nat} (g h:Nat→Ph→Nat) (l l':Nat→Ph) (hh:∀ i,i<N→g i (l i)≤h i (l' i)):sumT N g l≤sumT N h l':=by
 unfold sumT
 induction N with
 |zero=>simp
 |succ N ih =>
  rw [List.range_succ,List.map_append,List.map_append,List.sum_append,List.sum_append]
  simp only [List.map_cons,List.map_nil,List.sum_cons,List.sum_nil,Nat.add_zero]
  have:=ih (fun i hi=>hh i (by omega))
  have:=hh N (by omega)
  omega
def busyN (N:Nat) (l:Nat→Ph):Nat:=sumT N (fun _=>inA) l
def doneN (N:Nat) (cl:Nat→List Cl) (l:Nat→Ph):Nat:=sumT N (fun i=>upC (cl i)) l
def StC (N s:Nat) (cl:Nat→List Cl) (l:Nat→Ph) (A:List Stp) (st:Stp):Prop :=
 ∃ i:Nat,st.th=i∧i<N∧(st.op=9→∃ ii:Nat,st.ol=ii∧ii<(cl i).length) ∧
   (st.op=10→∃ (ii:Nat) (c:Cl),st.ol=ii∧(cl i)[ii]? = some c∧ii<upC (cl i) (l i)∧(c.po=2→∀ a,(l i).ans[ii]? = some a→a.2∈(rep cl A).seen i∧((rep cl A).quiet i=true→(rep cl A).count i=2*s)))
def EndsC (N s:Nat) (cl:Nat→List Cl) (l:Nat→Ph) (L:List Stp):Prop:=∀ A st B,L=A++st :: B→StC N s cl l A st
def Stay (N:Nat) (cl:Nat→List Cl) (l l':Nat→Ph):Prop:=∀ i,i<N→upC (cl i) (l i)≤upC (cl i) (l' i)∧∀ k,k<upC (cl i) (l i)→(l' i).ans[k]? = (l i).ans[k]?
theorem StC.stay {N s:Nat} {cl:Nat→List Cl} {l l':Nat→Ph} {A:List Stp} {st:Stp} (h:StC N s cl l A st) (k:Stay N cl l l'):StC N s cl l' A st:=by
 obtain ⟨i,h1,h2,h3,h4⟩:=h
 obtain ⟨k1,k2⟩:=k i h2
 refine ⟨i,h1,h2,h3,fun e=>?_⟩
 obtain ⟨ii,c,a1,a2,a3,a4⟩:=h4 e
 exact ⟨ii,c,a1,a2,by omega,fun p a ha=>a4 p a (by rw [←k2 ii a3];exact ha)⟩
theorem EndsC.one {N s:Nat} {cl:Nat→List Cl} {l:Nat→Ph} {L:List Stp} (h:EndsC N s cl l L) {st:Stp} (hs:StC N s cl l L st):EndsC N s cl l (L++[st]):=fun A x B e=>by
 rcases List.append_eq_append_iff.1 e with ⟨A',e1,e2⟩|⟨A',e1,e2⟩
 ·cases A' with
  |nil =>
   simp at e1 e2
   obtain ⟨rfl,_⟩:=e2
   rw [e1]
   exact hs
  |cons y ys=>simp at e2
 ·cases A' with
  |nil =>
   simp at e1 e2
   obtain ⟨rfl,_⟩:=e2
   rw [←e1]
   exact hs
  |cons y ys =>
   simp at e2
   obtain ⟨rfl,_⟩:=e2
   exact h A x ys e1
theorem EndsC.more {N s:Nat} {cl:Nat→List Cl} {l:Nat→Ph}:∀ (X:List Stp) {L:List Stp},EndsC N s cl l L→(∀ A st,st∈X→StC N s cl l A st)→EndsC N s cl l (L++X)
 | [],L,h,_=>by rw [List.append_nil];exact h
 |st :: X,L,h,hX=>by
  have:=EndsC.more X (h.one (hX L st (List.mem_cons_self ..))) (fun A x hx=>hX A x (List.mem_cons_of_mem _ hx))
  rw [List.append_assoc,List.singleton_append] at this
  exact this
theorem xok_stc {N s:Nat} {cl:Nat→List Cl} {l:Nat→Ph} {i ii:Nat} (hi:i<N) {st:Stp} (h:XOk cl i ii (l i) st) (A:List Stp):StC N s cl l A st:=by
 obtain ⟨h1,k,c,h2,h3,h4,h5,h6⟩:=h
 refine ⟨i,h2,hi,fun _=>⟨k,h3,(List.getElem?_eq_some_iff.1 h5).1⟩,fun e=>?_⟩
 obtain ⟨a1,a2,a3⟩:=h6 e
 exact ⟨k,c,h3,h5,a1,fun p=>absurd p a3⟩
structure CI (N s:Nat) (cl:Nat→List Cl) (v:Vw):Prop where
 kl:v.K.length=s
 stk:v.stk=false
 seat:∀ i,i<N→CSeat s (cl i) (rep cl v.L) v.K i (v.l i)
 alen:∀ i,i<N→(v.l i).ans.length=(cl i).length
 busy:(rep cl v.L).busy=busyN N v.l
 qb:∀ i,(rep cl v.L).quiet i=true→(rep cl v.L).busy=0
 tot:(rep cl v.L).total=(v.K.map R1.amtS).sum
 sml:∀ x∈v.K,R1.ver x≤doneN N cl v.l∧-1000*(doneN N cl v.l:Int)≤R1.amtS x∧R1.amtS x≤1000*(doneN N cl v.l:Int)
 ends:EndsC N s cl v.l v.L
theorem CI.few {N s:Nat} {cl:Nat→List Cl} {v:Vw} (h:CI N s cl v) (hc:((List.range N).map fun i=>(cl i).length).sum≤512):doneN N cl v.l≤512:=by
 refine Nat.le_trans ?_ hc
 refine sumT_mono (fun i=>upC (cl i)) (fun i _=>(cl i).length) v.l v.l (fun i hi=>?_)
 have hs:=h.seat i hi
 cases hl:v.l i with
 |done a=>exact Nat.le_refl _
 |wait j q r k a=>rw [hl] at hs;exact hs.elim
 |turn op j q r k a =>
  rw [hl] at hs
  obtain ⟨_,_,_,_,c,hc,_⟩:=hs
  exact Nat.le_of_lt (List.getElem?_eq_some_iff.1 hc).1
theorem CI.totI {N s:Nat} {cl:Nat→List Cl} {v:Vw} (h:CI N s cl v) (h16:s≤16) (hd:doneN N cl v.l≤512):R1.totI v.K=(rep cl v.L).total:=by
 rw [h.tot]
 exact R1.totI_is v.K (fun x hx=>by have:=h.sml x hx;omega) (by rw [h.kl];exact h16)
theorem CI.stays {N s:Nat} {cl:Nat→List Cl} {v v1:Vw} (h:CI N s cl v) {i:Nat} (hi:i<N) {op:Int} {j:Nat} {q:Q} {rest:List Cl} {ii:Nat} {ans:List (Int×Int)} (hl:v.l i=.turn op j q rest ii ans) {op':Int} {j':Nat} {q':Q} {x:Int}
 (e:Els i (.turn op' j' q' rest ii ans) v v1) (hK:v1.K=v.K) (hst:v1.stk=v.stk) (hL:v1.L=v.L++[⟨i,j,op,x,x⟩]) (hop:op=1∨op=4) (hin:inA (.turn op' j' q' rest ii ans)=inA (v.l i))
 (hs:CSeat s (cl i) { rep cl v.L with count:=upd (rep cl v.L).count i ((rep cl v.L).count i+1) } v.K i (.turn op' j' q' rest ii ans)):CI N s cl v1:=by
 have hr:rep cl v1.L={ rep cl v.L with count:=upd (rep cl v.L).count i ((rep cl v.L).count i+1) }:=by
  rw [hL,rep_one]
  rcases hop with rfl|rfl
  ·exact rs_look j x
  ·exact rs_vain j x
 have hu:upC (cl i) (.turn op' j' q' rest ii ans)=upC (cl i) (v.l i):=by rw [hl];rfl
 have hdn:doneN N cl v1.l=doneN N cl v.l:=by
  have:=sumT_upd (fun i=>upC (cl i)) v.l hi (.turn op' j' q' rest ii ans)
  unfold doneN
  rw [e.l]
  omega
 have hbn:busyN N v1.l=busyN N v.l:=by
  have:=sumT_upd (fun _=>inA) v.l hi (.turn op' j' q' rest ii ans)
  unfold busyN
  rw [e.l]
  omega
 have hsty:Stay N cl v.l v1.l:=fun k hk=>by
  rw [e.l]
  by_cases hne:k=i
  ·subst hne
   rw [upd_same]
   exact ⟨Nat.le_of_eq hu.symm,fun m _=>by rw [hl];rfl⟩
  ·rw [upd_ne _ _ hne];exact ⟨Nat.le_refl _,fun _ _=>rfl⟩
 refine ⟨by rw [hK];exact h.kl,by rw [hst];exact h.stk,fun k hk=>?_,fun k hk=>?_,by rw [hr,hbn];exact h.busy,fun k hk=>by rw [hr] at hk ⊢;exact h.qb k hk,by rw [hr,hK];exact h.tot,by rw [hK,hdn];exact h.sml,?_⟩
 ·rw [hr,hK,e.l]
  by_cases hne:k=i
  ·subst hne;rw [upd_same];exact hs
  ·rw [upd_ne _ _ hne];exact (h.seat k hk).oth (look_oth _ _ hne)
 ·rw [e.l]
  by_cases hne:k=i
  ·subst hne
   rw [upd_same]
   have:=h.alen k hk
   rw [hl] at this
   exact this
  ·rw [upd_ne _ _ hne];exact h.alen k hk
 ·rw [hL]
  refine EndsC.one (fun A st B e'=>(h.ends A st B e').stay hsty) ⟨i,rfl,hi,fun e9=>?_,fun e10=>?_⟩
  ·have e9:op=9:=e9
   rcases hop with rfl|rfl<;>simp at e9
  ·have e10:op=10:=e10
   rcases hop with rfl|rfl<;>simp at e10
theorem CI.answers {N s:Nat} (h0:0<s) {cl:Nat→List Cl} {v v1:Vw} (h:CI N s cl v) {i:Nat} (hi:i<N) {op:Int} {j:Nat} {q:Q} {rest:List Cl} {ii:Nat} {ans:List (Int×Int)} (hl:v.l i=.turn op j q rest ii ans) {l':Ph} {x o n:Int} {X:List Stp} {c:Cl}
 (hrest:rest=(cl i).drop (ii+1)) (hc:(cl i)[ii]? = some c) (hin:inA (v.l i)=if c.po=1 then 1 else 0) (hop:op=1∨op=4)
 (hfw:Fw (mcC s) i false rest (ii+1) ((0:Int)==4) (ans.set ii (0,x)) X l') (e:Els i l' v v1) (hst:v1.stk=v.stk) (hL:v1.L=v.L++⟨i,j,op,o,n⟩ :: ⟨i,-1,10,ii,0⟩ :: X)
 {r1:Rp} (hr1:rs cl (rep cl v.L) ⟨i,j,op,o,n⟩=r1) (kl:v1.K.length=s) (hoth:∀ k,k<N→k≠i→CSeat s (cl k) r1 v1.K k (v.l k)) (hb:r1.busy=busyN N v.l) (hq:∀ k,r1.quiet k=true→r1.busy=0) (ht:r1.total=(v1.K.map R1.amtS).sum)
 (hsm:∀ y∈v1.K,R1.ver y≤doneN N cl v.l+1∧-1000*((doneN N cl v.l:Int)+1)≤R1.amtS y∧R1.amtS y≤1000*((doneN N cl v.l:Int)+1))
 (hans:c.po=2→x∈r1.seen i∧(r1.quiet i=true→r1.count i=2*s)):CI N s cl v1:=by
 have hpo:=(po_of hc).1
 have hlt:ii<(cl i).length:=(List.getElem?_eq_some_iff.1 hc).1
 have hal:ans.length=(cl i).length:=by have:=h.alen i hi;rw [hl] at this;exact this
 have hile:inA (v.l i)≤busyN N v.l:=sumT_le (fun _=>inA) v.l hi
 have e2:=rs_end (cl:=cl) (r:=r1) (i:=i) ii 0
 have hb2:(rs cl r1 ⟨i,-1,10,ii,0⟩).busy=(busyN N v.l:Int) - inA (v.l i):=by
  rw [e2,hin]
  show (if poOf cl i ii=1 then r1.busy - 1 else r1.busy)=_
  rw [hpo,hb]
  split<;>simp
 have hq2:∀ k,(rs cl r1 ⟨i,-1,10,ii,0⟩).quiet k=true→(rs cl r1 ⟨i,-1,10,ii,0⟩).busy=0:=fun k hk=>by
  rw [hb2]
  rw [e2] at hk
  have:=hq k hk
  omega
 have hrep:rep cl v1.L=X.foldl (rs cl) (rs cl r1 ⟨i,-1,10,ii,0⟩):=by
  rw [hL,rep_app,←hr1];rfl
 have f:=fw_ctr h0 (cl:=cl) hfw (rs cl r1 ⟨i,-1,10,ii,0⟩) v1.K hrest hlt (by rw [List.length_set];exact hal) rfl (by rw [hb2];omega) hq2
 rw [←hrep] at f
 have hup:upC (cl i) (v.l i)=ii:=by rw [hl];rfl
 have hul:=f.up
 have hdn:doneN N cl v.l+1≤doneN N cl v1.l:=by
  have:=sumT_upd (fun i=>upC (cl i)) v.l hi l'
  unfold doneN
  rw [e.l]
  omega
 have hbn:=sumT_upd (fun _=>inA) v.l hi l'
 have hsty:Stay N cl v.l v1.l:=fun k hk=>by
  rw [e.l]
  by_cases hne:k=i
  ·subst hne
   rw [upd_same]
   refine ⟨by omega,fun m hm=>?_⟩
   rw [f.old m (by omega),List.getElem?_set,if_neg (by omega),hl]
   rfl
  ·rw [upd_ne _ _ hne];exact ⟨Nat.le_refl _,fun _ _=>rfl⟩
 have hli:v1.l i=l':=by rw [e.l,upd_same]
 refine ⟨kl,by rw [hst];exact h.stk,fun k hk=>?_,fun k hk=>?_,?_,f.qb,?_,fun y hy=>?_,?_⟩
 ·rw [e.l]
  by_cases hne:k=i
  ·subst hne;rw [upd_same];exact f.seat
  ·rw [upd_ne _ _ hne]
   exact ((hoth k hk hne).oth (end_oth cl r1 v1.K ii 0 hne)).oth (f.oth k hne)
 ·rw [e.l]
  by_cases hne:k=i
  ·subst hne;rw [upd_same];exact f.len
  ·rw [upd_ne _ _ hne];exact h.alen k hk
 ·rw [f.busy,hb2,e.l]
  unfold busyN at hile ⊢
  omega
 ·rw [f.tot,e2];exact ht
 ·have:=hsm y hy
  omega
 ·rw [hL]
  have hst1:StC N s cl v1.l v.L ⟨i,j,op,o,n⟩:=⟨i,rfl,hi,fun e9=>by
   have e9:op=9:=e9
   rcases hop with rfl|rfl<;>simp at e9,fun e10=>by
   have e10:op=10:=e10
   rcases hop with rfl|rfl<;>simp at e10⟩
  have hst2:StC N s cl v1.l (v.L++[⟨i,j,op,o,n⟩]) ⟨i,-1,10,ii,0⟩:=by
   refine ⟨i,rfl,hi,fun e9=>absurd (show (10:Int)=9 from e9) (by decide),fun _=>⟨ii,c,rfl,hc,by rw [hli];omega,fun p a ha=>?_⟩⟩
   rw [hli,f.old ii (by omega),List.getElem?_set,if_pos rfl,if_pos (by omega)] at ha
   cases ha
   rw [rep_one,hr1]
   exact hans p
  have:=EndsC.more X (EndsC.one (EndsC.one (fun A st B e'=>(h.ends A st B e').stay hsty) hst1) hst2) (fun A st hs=>xok_stc hi (by rw [hli];exact f.xs st hs) A)
  rw [List.append_assoc,List.append_assoc] at this
  exact this
theorem set_getD {K:List Int} {j:Nat} (hj:j<K.length):K.set j (K.getD j 0)=K∧K[j]? = some (K.getD j 0):=by
 have h:K[j]? = some (K.getD j 0):=by rw [List.getD_eq_getElem?_getD,List.getElem?_eq_getElem hj];rfl
 refine ⟨?_,h⟩
 apply List.ext_getElem?
 intro k
 rw [List.getElem?_set]
 split
 ·rename_i e
  subst e
  first|exact h.symm|rw [if_pos hj,h]
 ·rfl
theorem sum_set (f:Int→Int):∀ (K:List Int) (j:Nat) (x y:Int),K[j]? = some x→((K.set j y).map f).sum=(K.map f).sum - f x+f y
 |a :: K,0,x,y,h=>by
  simp at h
  subst h
  simp only [List.set_cons_zero,List.map_cons,List.sum_cons]
  omega
 |a :: K,j+1,x,y,h=>by
  have:=sum_set f K j x y (by simpa using h)
  simp only [List.set_cons_succ,List.map_cons,List.sum_cons]
  omega
theorem cas_oth (cl:Nat→List Cl) (r:Rp) {K:List Int} {i j k:Nat} {y n:Int} (hne:k≠i) (hy:K[j]? = some y) (hle:Le y (R1.addI y n)) (hp:poOf cl i (r.call i)=1) (hq:r.quiet k=false):Oth r (rs cl r ⟨i,j,4,y,R1.addI y n⟩) K (K.set j (R1.addI y n)) k:=by
 rw [rs_cas j y (R1.addI y n) hp (R1.addI_ne y n)]
 refine ⟨rfl,by show upd r.count i (r.count i+1) k=_;rw [upd_ne _ _ hne],fun x hx=>List.mem_append_left _ hx,fun _=>?_,fun h=>?_,fun m a b ha hb=>?_,by rw [List.length_set]⟩
 ·show _∈r.seen k++[_]
  simp
 ·have h:r.quiet k=true:=h
  rw [hq] at h;cases h
 ·rw [List.getElem?_set] at hb
  split at hb
  ·rename_i e
   subst e
   split at hb
   ·cases hb
    rw [hy] at ha
    cases ha
    exact hle
   ·cases hb
  ·rw [ha] at hb
   cases hb
   exact Le.refl _
theorem ctr_mv {N s:Nat} (h0:0<s) (h16:s≤16) {cl:Nat→List Cl} (hcs:((List.range N).map fun i=>(cl i).length).sum≤512) {v v1:Vw} (h:CI N s cl v) (m:Mv (mcC s) N v v1):CI N s cl v1:=by
 have hd:=h.few hcs
 cases m with
 |stuck hs hall hex e =>
  obtain ⟨i,hi,j,q,r,k,a,hl⟩:=hex
  have:=h.seat i hi
  rw [hl] at this
  exact this.elim
 |wake i j q rest ii ans X l' hi hl _ _ _ _ _ _ _ _ =>
  have:=h.seat i hi
  rw [hl] at this
  exact this.elim
 |free i j q rest ii ans X l' hi hl _ _ _ _ _ _ _ =>
  have:=h.seat i hi
  rw [hl] at this
  exact this.elim
 |turn i op j q rest ii ans X l' hi hl ho e hK hst hchg hL =>
  have hs:=h.seat i hi
  rw [hl] at hs
  obtain ⟨hrest,hcall,htot,hj,c,hc,h5⟩:=hs
  have hpc:=po_of hc
  rcases h5 with ⟨p1,rfl,rfl⟩|⟨p1,rfl,y,rfl⟩|⟨p2,rfl,l,rfl,hF⟩|⟨p2,rfl,d,snap,rfl,hF⟩
  · -- an Add looks
   have hjs:j<v.K.length:=by rw [hj,h.kl];simp only [clC,if_true,List.getD_cons_zero,Int.toNat_natCast];exact Nat.mod_lt _ h0
   obtain ⟨g1,g2⟩:=set_getD hjs
   generalize v.K.getD j 0=x at *
   have e3:(mcC s).turn (0,[((i % s:Nat):Int),c.ca.tmod 1000]) x=((x,x),x,.turn 4 (((i % s:Nat):Int)).toNat (1,[((i % s:Nat):Int),c.ca.tmod 1000,x])):=rfl
   rw [e3] at ho hK hL
   cases ho
   exact h.stays hi hl e (hK.trans g1) hst hL (.inl rfl) (by rw [hl];rfl) ⟨hrest,hcall,htot,rfl,c,hc,.inr (.inl ⟨p1,rfl,x,rfl⟩)⟩
  · -- an Add tries
   have hjs:j<v.K.length:=by rw [hj,h.kl];simp only [clC,show ¬ ((1:Nat)=0) by decide,if_false,if_true,List.getD_cons_zero,Int.toNat_natCast];exact Nat.mod_lt _ h0
   obtain ⟨g1,g2⟩:=set_getD hjs
   generalize v.K.getD j 0=x at *
   by_cases hx:x=y
   ·subst hx
    have e3:(mcC s).turn (1,[((i % s:Nat):Int),c.ca.tmod 1000,x]) x=((x,R1.addI x (c.ca.tmod 1000)),R1.addI x (c.ca.tmod 1000),.ans 0 0):=by
     simp [mcC,effCas,-Int.natCast_emod]
    rw [e3] at ho hK hL
    rw [h.stk] at ho
    have hin:inA (v.l i)=1:=by rw [hl];rfl
    have hile:inA (v.l i)≤busyN N v.l:=sumT_le (fun _=>inA) v.l hi
    have hnq:∀ k,(rep cl v.L).quiet k=false:=fun k=>by
     cases hk:(rep cl v.L).quiet k with
     |false=>rfl
     |true =>
      have h1:=h.qb k hk
      have h2:=h.busy
      omega
    have hxm:x∈v.K:=List.mem_of_getElem? g2
    have hsx:=h.sml x hxm
    have hle:Le x (R1.addI x (c.ca.tmod 1000)):=Le.add _ (by omega)
    have hp:poOf cl i ((rep cl v.L).call i)=1:=by rw [hcall,hpc.1];exact p1
    have hca:caOf cl i ((rep cl v.L).call i)=c.ca:=by rw [hcall];exact hpc.2
    have hn:-1000<c.ca.tmod 1000∧c.ca.tmod 1000<1000:=by
     have h1:=Int.tmod_lt_of_pos c.ca (show (0:Int)<1000 by decide)
     have h2:-1000<c.ca.tmod 1000:=by
      have:=Int.tmod_lt_of_pos (-c.ca) (show (0:Int)<1000 by decide)
      rw [Int.neg_tmod] at this
      omega
     exact ⟨h2,h1⟩
    have ham:=R1.amtS_small hn (show -1000000≤R1.amtS x∧R1.amtS x≤1000000 by omega)
    have hrs:=rs_cas (cl:=cl) (r:=rep cl v.L) (i:=i) j x (R1.addI x (c.ca.tmod 1000)) hp (R1.addI_ne x _)
    cases ho with
    |ans hfw =>
     have hK:v1.K=v.K.set j (R1.addI x (c.ca.tmod 1000)):=hK
     refine h.answers h0 hi hl hrest hc (by rw [hin,if_pos p1]) (.inr rfl) hfw e hst hL rfl (by rw [hK,List.length_set];exact h.kl) (fun k hk hne=>by rw [hK];exact (h.seat k hk).oth (cas_oth cl _ hne g2 hle hp (hnq k))) ?_ (fun k hk=>?_) ?_ (fun z hz=>?_) (fun p=>absurd p (by omega))
     ·rw [hrs];exact h.busy
     ·rw [hrs] at hk
      have hk:(rep cl v.L).quiet k=true:=hk
      rw [hnq k] at hk;cases hk
     ·rw [hrs,hK,sum_set _ _ _ _ _ g2,ham,hca]
      show (rep cl v.L).total+_=_
      rw [h.tot];omega
     ·rw [hK] at hz
      rcases List.mem_or_eq_of_mem_set hz with hz|rfl
      ·have:=h.sml z hz;omega
      ·have hv:=R1.ver_addI x (c.ca.tmod 1000)
       have:=R1.ver_in x
       rw [ham]
       omega
   ·have e3:(mcC s).turn (1,[((i % s:Nat):Int),c.ca.tmod 1000,y]) x=((x,x),x,.turn 1 (((i % s:Nat):Int)).toNat (0,[((i % s:Nat):Int),c.ca.tmod 1000])):=by
     simp [mcC,effCas,hx,-Int.natCast_emod]
    rw [e3] at ho hK hL
    cases ho
    exact h.stays hi hl e (hK.trans g1) hst hL (.inr rfl) (by rw [hl];rfl) ⟨hrest,hcall,htot,rfl,c,hc,.inl ⟨p1,rfl,rfl⟩⟩
  · -- a Sum looks
   have hjl:j=l.length:=hj
   subst hjl
   have hjs:l.length<v.K.length:=by rw [h.kl];exact hF.lt
   obtain ⟨g1,g2⟩:=set_getD hjs
   generalize v.K.getD l.length 0=x at *
   have e3:(mcC s).turn (2,l) x=((x,x),x,nx2 s (l++[x])):=rfl
   rw [e3] at ho hK hL
   have hlen:(l++[x]).length=l.length+1:=by simp
   by_cases hlt:l.length+1<s
   ·have e2:nx2 s (l++[x])=.turn 1 (l++[x]).length (2,l++[x]):=by unfold nx2;rw [if_pos (by rw [hlen];exact hlt)]
    have ho:On (mcC s) i v.stk rest ii ans (nx2 s (l++[x])) X l':=ho
    rw [e2] at ho
    cases ho
    exact h.stays hi hl e (hK.trans g1) hst hL (.inl rfl) (by rw [hl];rfl) ⟨hrest,hcall,htot,rfl,c,hc,.inr (.inr (.inl ⟨p2,rfl,_,rfl,hF.look h.kl g2 hlt⟩))⟩
   ·have e2:nx2 s (l++[x])=.turn 1 0 (3,l++[x]):=by unfold nx2;rw [if_neg (by rw [hlen];exact hlt)]
    have ho:On (mcC s) i v.stk rest ii ans (nx2 s (l++[x])) X l':=ho
    rw [e2] at ho
    cases ho
    have hls:=hF.lt
    exact h.stays hi hl e (hK.trans g1) hst hL (.inl rfl) (by rw [hl];rfl) ⟨hrest,hcall,htot,by simp [clC];omega,c,hc,.inr (.inr (.inr ⟨p2,rfl,_,v.K,rfl,hF.last h.kl g2 (by omega) (by rw [h.totI h16 hd];exact htot)⟩))⟩
  · -- it looks again
   have hjl:j=d.length - s:=hj
   subst hjl
   have hge:=hF.ge
   have hlt2:=hF.lt
   have hjs:d.length - s<v.K.length:=by rw [h.kl];omega
   obtain ⟨g1,g2⟩:=set_getD hjs
   generalize v.K.getD (d.length - s) 0=x at *
   have e3:(mcC s).turn (3,d) x=((x,x),x,nx3 s (d++[x])):=rfl
   rw [e3] at ho hK hL
   have hlen:(d++[x]).length=d.length+1:=by simp
   have ho:On (mcC s) i v.stk rest ii ans (nx3 s (d++[x])) X l':=ho
   by_cases hlt:d.length+1<2*s
   ·have e2:nx3 s (d++[x])=.turn 1 ((d++[x]).length - s) (3,d++[x]):=by unfold nx3;rw [if_pos (by rw [hlen];exact hlt)]
    rw [e2] at ho
    cases ho
    exact h.stays hi hl e (hK.trans g1) hst hL (.inl rfl) (by rw [hl];rfl) ⟨hrest,hcall,htot,rfl,c,hc,.inr (.inr (.inr ⟨p2,rfl,_,snap,rfl,hF.look g2 hlt⟩))⟩
   ·obtain ⟨z1,z2⟩:=hF.last g2 (by omega)
    by_cases ht:(d++[x]).take s=(d++[x]).drop s
    ·have e2:nx3 s (d++[x])=.ans 0 (R1.totI ((d++[x]).drop s)):=by unfold nx3;rw [if_neg (by rw [hlen];exact hlt),if_pos ht]
     rw [e2] at ho
     rw [h.stk] at ho
     have hK:v1.K=v.K:=hK.trans g1
     have hrs:=rs_look (cl:=cl) (r:=rep cl v.L) (i:=i) (d.length - s) x
     cases ho with
     |ans hfw =>
      refine h.answers h0 hi hl hrest hc (by rw [hl,p2];rfl) (.inl rfl) hfw e hst hL hrs (by rw [hK];exact h.kl) (fun k hk hne=>by rw [hK];exact (h.seat k hk).oth (look_oth _ _ hne)) h.busy h.qb (by rw [hK];exact h.tot) (fun y hy=>by rw [hK] at hy;have:=h.sml y hy;omega) (fun _=>⟨z1 ht,fun hq=>?_⟩)
      show upd (rep cl v.L).count i ((rep cl v.L).count i+1) i=_
      rw [upd_same]
      exact (z2 hq).1
    ·have e2:nx3 s (d++[x])=.turn 1 0 (2,[]):=by unfold nx3;rw [if_neg (by rw [hlen];exact hlt),if_neg ht]
     rw [e2] at ho
     cases ho
     exact h.stays hi hl e (hK.trans g1) hst hL (.inl rfl) (by rw [hl];rfl) ⟨hrest,hcall,htot,rfl,c,hc,.inr (.inr (.inl ⟨p2,rfl,[],rfl,⟨h0,fun j a b ha _=>by simp at ha,fun hq=>absurd (z2 hq).2 ht⟩⟩))⟩
theorem sumT_succ (N:Nat) (g:Nat→Ph→Nat) (l:Nat→Ph) (l':Ph):sumT (N+1) g (upd l N l')=sumT N g l+g N l':=by
 unfold sumT
 rw [List.range_succ,List.map_append,List.sum_append]
 simp only [List.map_cons,List.map_nil,List.sum_cons,List.sum_nil,Nat.add_zero]
 rw [upd_same]
 have e1:(List.range N).map (fun k=>g k (upd l N l' k))=(List.range N).map (fun k=>g k (l k)):=List.map_congr_left fun k hk=>by
  have:k<N:=List.mem_range.1 hk
  rw [upd_ne _ _ (by omega)]
 rw [e1]
theorem hi_ctr {s:Nat} (h0:0<s) {cl:Nat→List Cl} {k:Nat} {cs:List (List Cl)} {v v':Vw} (h:Hi (mcC s) k cs v v'):cs=(List.range' k cs.length).map cl→CI k s cl v→CI (k+cs.length) s cl v':=by
 induction h with
 |nil=>exact fun _ hv=>hv
 |@cons k c cs v v1 v2 X l' hF e1 e2 e3 e4 e5 _ ih =>
  intro hc hv
  rw [List.length_cons,List.range'_succ,List.map_cons] at hc
  obtain ⟨hc1,hc2⟩:=List.cons.inj hc
  rw [hv.stk] at hF
  have hbn:(0:Int)≤(rep cl v.L).busy:=by rw [hv.busy];omega
  have f:=fw_ctr h0 (cl:=cl) (i:=k) hF (rep cl v.L) v.K (by rw [hc1];rfl) (Nat.zero_le _) (by rw [List.length_replicate,hc1]) rfl hbn hv.qb
  rw [←rep_app,←e4] at f
  have hl:v1.l=upd v.l k l':=e5.l
  have hsty:∀ {A st},StC k s cl v.l A st→StC (k+1) s cl v1.l A st:=fun {A st} h=>by
   obtain ⟨i,a1,a2,a3,a4⟩:=h
   refine ⟨i,a1,by omega,a3,fun e=>?_⟩
   rw [hl,upd_ne _ _ (by omega)]
   exact a4 e
  have hd:doneN k cl v.l≤doneN (k+1) cl v1.l:=by
   unfold doneN
   rw [hl,sumT_succ]
   omega
  have:=ih hc2 ⟨by rw [e1];exact hv.kl,by rw [e2];exact hv.stk,fun i hi=>?_,fun i hi=>?_,?_,f.qb,by rw [f.tot,e1];exact hv.tot,fun x hx=>?_,?_⟩
  ·rw [show k+(c :: cs).length=k+1+cs.length by simp only [List.length_cons];omega]
   exact this
  ·rw [hl,e1]
   by_cases hne:i=k
   ·subst hne;rw [upd_same];exact f.seat
   ·rw [upd_ne _ _ hne];exact (hv.seat i (by omega)).oth (f.oth i hne)
  ·rw [hl]
   by_cases hne:i=k
   ·subst hne;rw [upd_same];exact f.len
   ·rw [upd_ne _ _ hne];exact hv.alen i (by omega)
  ·rw [f.busy,hv.busy,hl]
   unfold busyN
   rw [sumT_succ]
   simp
  ·rw [e1] at hx
   have:=hv.sml x hx
   omega
  ·rw [e4]
   refine EndsC.more X (fun A st B e'=>hsty (hv.ends A st B e')) (fun A st hs=>xok_stc (i:=k) (ii:=0) (by omega) ?_ A)
   rw [hl,upd_same]
   exact f.xs st hs
theorem ctr_run {s:Nat} (h0:0<s) (h16:s≤16) {ss:List (Scr (mcC s))} {cl:Nat→List Cl} {n:Nat} {S S1:TS} {l0 l1:Nat→Ph} {K:List (Nat×Int)} {m:Nat} {p':PSt}
 (hn:ss.length=n) (hn8:n≤8) (hcs:((List.range n).map fun i=>(cl i).length).sum≤512) (hss:ss.map (·.calls)=(List.range' 0 n).map cl) (ha:∀ x∈ss,x.ans=List.replicate x.calls.length (0,0))
 (ht:S.thr=[]) (htr:S.tr=[]) (hSn:S.n=0) (hsk:S.stk=false) (hK:K.map (·.2)=List.replicate s 0)
 (hH:Hires (mcC s) 0 ss S l0 S1 l1) (hT:Turns (mcC s) m ⟨S1,K,l1⟩ p') :
 ∃ v,p'.S.tr=flat v.L∧p'.S.n=v.L.length∧p'.S.stk=false∧v.l=p'.l∧CI n s cl v∧∀ i,i<n→∃ a,p'.l i=.done a:=by
 let v0:Vw:=⟨List.replicate s 0,false,S.chg,fun i=>(thrI S i).se,l0,[]⟩
 have hs0:Seen ⟨S,K,l0⟩ v0:=⟨hK.symm,hsk.symm,rfl,fun i=>rfl,rfl,htr,hSn,fun i t h=>by rw [ht] at h;cases h⟩
 obtain ⟨v1,hi1,hs1⟩:=hires_hi (K:=K) hH v0 (by rw [ht];rfl) ha hs0
 rw [hss] at hi1
 have hc0:CI 0 s cl v0:=⟨by simp [v0],rfl,fun i hi=>by omega,fun i hi=>by omega,rfl,fun i hi=>(by cases hi),by
  show (0:Int)=((List.replicate s 0).map R1.amtS).sum
  rw [List.map_replicate,R1.amtS_zero]
  induction s with
  |zero=>rfl
  |succ k _=>simp,fun x hx=>by
  have:x=0:=(List.mem_replicate.1 hx).2
  subst this
  have e1:=R1.amtS_zero
  have e2:=R1.ver_zero
  rw [e1,e2]
  omega,fun A st B e=>by simp [v0] at e⟩
 have hci:=hi_ctr h0 hi1 (by simp) hc0
 rw [List.length_map,List.length_range',Nat.zero_add] at hci
 obtain ⟨a1,a2,a3,a4⟩:=Mf.hires_gd (metC s h0 h16) hH (by rw [ht];rfl) (by omega) (fun i t h=>by rw [ht] at h;cases h)
 have g:Mf.Gd (metC s h0 h16) ⟨S1,K,l1⟩:=⟨by show S1.thr.length≤8;omega,a2⟩
 obtain ⟨v',hI,hs',_,hd⟩:=Mf.turns_mv (metC s h0 h16) (N:=n) (Inv:=CI n s cl) (fun v v1 hv hm=>ctr_mv h0 h16 hcs hv hm) hT v1 (by show S1.thr.length=n;omega) g hs1 hci
 exact ⟨v',hs'.tr,hs'.n,by rw [←hs'.stk];exact hI.stk,hs'.l,hI,fun i hi=>by rw [←hs'.l];exact hd i hi⟩
end Go.Proofs.YtfjjoohflcchnaaDoor.Gen
namespace Go.Proofs.YtfjjoohflcchnaaDoor.Gen
open Go Go.Lift Go.Conc Go.RowKit
section
variable {P:Program} {Q:Exit→Act→World→Prop} {a:Act} {w:World} {x y c:Code} {R:Act→World→Prop}
theorem wp_then (h:x.wp P (fun e a' w'=>e=.normal∧R a' w') a w) (k:∀ a' w',R a' w'→y.wp P Q a' w'):(Code.seq x y).wp P Q a w :=
 wp_seq (wp_mono h (fun e a w h=>by obtain ⟨rfl,hr⟩:=h;exact k a w hr))
theorem wp_last (h:x.wp P (fun e a' w'=>e=.normal∧R a' w') a w) (k:∀ a' w',R a' w'→Q .normal a' w'):x.wp P Q a w :=
 wp_mono h (fun e a w h=>by obtain ⟨rfl,hr⟩:=h;exact k a w hr)
theorem wp_while {id:Nat} {hd body:Code} {t:Nat} (I:Nat→Act→World→Prop) (n:Nat) (h0:I n a w)
 (head:∀ n a w,I n a w→∃ (J:Act→World→Prop),hd.wp P (fun e a' w'=>e=.normal∧J a' w') a w ∧
   ∀ a' w',J a' w'→(a'.eval (.tmp t)=.bool false∧Q .normal a' w')∨(a'.eval (.tmp t)=.bool true∧body.wp P (Exit.then (fun a'' w''=>∃ n',n'<n∧I n' a'' w'') (Exit.inBlock id Q)) a' w')) :
 (Code.block id (.loop (.seq (.seq hd (.cond (.tmp t) .skip (.exit id))) body))).wp P Q a w:=by
 refine wp_block (wp_loop_ghost I n h0 fun n a w hI=>?_)
 obtain ⟨J,h1,h2⟩:=head n a w hI
 refine wp_seq (wp_then h1 fun a' w' hJ=>?_)
 rcases h2 a' w' hJ with ⟨e,hq⟩|⟨e,hb⟩
 ·refine wp_cond_false e (wp_exit ?_)
  show if id=id then Q .normal a' w' else _
  rw [if_pos rfl]
  exact hq
 ·exact wp_cond_true e (wp_skip hb)
end
end Go.Proofs.YtfjjoohflcchnaaDoor.Gen
